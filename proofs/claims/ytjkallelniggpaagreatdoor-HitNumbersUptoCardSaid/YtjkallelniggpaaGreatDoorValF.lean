/-
  The document's depth of a value.
-/
import Derived.Test.YtjkallelniggpaaGreatDoorValE
namespace Go.Proofs.YtjkallelniggpaaGreatDoor
open Go.RowKit Word Txt
attribute [local go_sem] setCell_drewN cell?_ext frozen?_ext shape?_ext setCell_ext lt_1' ne_1' en_1' le_1' lt_2' ne_2' en_2' le_2' lt_3' ne_3' en_3' le_3' lt_4' ne_4' en_4' le_4' lt_5' ne_5' en_5' le_5' lt_6' ne_6' en_6' le_6' lt_7' ne_7' en_7' le_7' lt_8' ne_8' en_8' le_8' lt_9' ne_9' en_9' le_9' lt_10' ne_10' en_10' le_10' lt_11' ne_11' en_11' le_11' lt_12' ne_12' en_12' le_12'

mutual
theorem depth_le : ∀ v : V, v.depth ≤ v.count
  | .mk k yes neg c s t day l ns => by unfold V.depth V.count; have := depthL_le l; omega
theorem depthL_le : ∀ l : List V, depthL l ≤ countL l
  | [] => Nat.le_refl _
  | v :: r => by
    show max v.depth (depthL r) ≤ v.count + countL r
    have := depth_le v; have := depthL_le r; omega
end
theorem count_mem {v : V} : ∀ {l : List V}, v ∈ l → v.count ≤ countL l
  | u :: r, h => by
    show _ ≤ u.count + countL r
    rcases List.mem_cons.1 h with e | h
    · subst e; omega
    · have := count_mem h; omega
end Go.Proofs.YtjkallelniggpaaGreatDoor
