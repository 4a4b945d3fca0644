/-
  The document's Cmp and Plus.
-/
import Derived.Test.YtnaajhhdpcdakaaGreatDoorRefE
import Derived.Test.YtnaajhhdpcdakaaGreatDoorWideC
namespace Go.Proofs.YtnaajhhdpcdakaaGreatDoor
open Go.RowKit Num Word
attribute [local go_sem] setCell_drewN cell?_ext frozen?_ext shape?_ext setCell_ext lt_1' ne_1' en_1' le_1' lt_2' ne_2' en_2' le_2' lt_3' ne_3' en_3' le_3' lt_4' ne_4' en_4' le_4' lt_5' ne_5' en_5' le_5' lt_6' ne_6' en_6' le_6' lt_7' ne_7' en_7' le_7' lt_8' ne_8' en_8' le_8' lt_9' ne_9' en_9' le_9' lt_10' ne_10' en_10' le_10' lt_11' ne_11' en_11' le_11' lt_12' ne_12' en_12' le_12'

theorem cmpv_less {a b : Nat} (h : a < b) : cmpv a b = -1 := if_pos h
theorem cmpv_more {a b : Nat} (h : b < a) : cmpv a b = 1 := by unfold cmpv; rw [if_neg (by omega), if_pos h]
theorem cmpv_same (a : Nat) : cmpv a a = 0 := by unfold cmpv; rw [if_neg (by omega), if_neg (by omega)]
end Go.Proofs.YtnaajhhdpcdakaaGreatDoor
