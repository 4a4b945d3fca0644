/-
  The law DecSums.
-/
import Derived.Test.YtjkallelniggpaaGreatDoorDocOne
import Derived.Test.YtjkallelniggpaaGreatDoorBc
namespace Go.Proofs.YtjkallelniggpaaGreatDoor
open Go.RowKit Num Word
attribute [local go_sem] setCell_drewN cell?_ext frozen?_ext shape?_ext setCell_ext lt_1' ne_1' en_1' le_1' lt_2' ne_2' en_2' le_2' lt_3' ne_3' en_3' le_3' lt_4' ne_4' en_4' le_4' lt_5' ne_5' en_5' le_5' lt_6' ne_6' en_6' le_6' lt_7' ne_7' en_7' le_7' lt_8' ne_8' en_8' le_8' lt_9' ne_9' en_9' le_9' lt_10' ne_10' en_10' le_10' lt_11' ne_11' en_11' le_11' lt_12' ne_12' en_12' le_12'
attribute [local go_sem] lt_13' ne_13' en_13' le_13' lt_14' ne_14' en_14' le_14' lt_15' ne_15' en_15' le_15' lt_16' ne_16' en_16' le_16' lt_17' ne_17' en_17' le_17' lt_18' ne_18' en_18' le_18' lt_19' ne_19' en_19' le_19' lt_20' ne_20' en_20' le_20' lt_21' ne_21' en_21' le_21' lt_22' ne_22' en_22' le_22' lt_23' ne_23' en_23' le_23' lt_24' ne_24' en_24' le_24' lt_25' ne_25' en_25' le_25' lt_26' ne_26' en_26' le_26'

theorem form_uni_pos {c S : Nat} (h3 : S = 0 → true = true → c ≠ 0) (h4 : S ≠ 0 → c % 10 ≠ 0) : 0 < Fit.uni c S := by
  have : 0 < c := by
    rcases Nat.eq_zero_or_pos S with h | h
    · have := h3 h rfl; omega
    · have := h4 (by omega); omega
  exact Nat.mul_pos this (Fit.pp _)
section
variable (na nb : Bool) (ca cb : Nat) (sa sb : Int)
end
end Go.Proofs.YtjkallelniggpaaGreatDoor
