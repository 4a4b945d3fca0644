/-
  Equality of two contexts: the program's way, by a map of places.
-/
import Derived.Test.YtjkallelniggpaaGreatDoorValX
import Derived.Test.YtjkallelniggpaaGreatDoorValW
namespace Go.Proofs.YtjkallelniggpaaGreatDoor
open Go.RowKit Word Txt
attribute [local go_sem] setCell_drewN cell?_ext frozen?_ext shape?_ext setCell_ext lt_1' ne_1' en_1' le_1' lt_2' ne_2' en_2' le_2' lt_3' ne_3' en_3' le_3' lt_4' ne_4' en_4' le_4' lt_5' ne_5' en_5' le_5' lt_6' ne_6' en_6' le_6' lt_7' ne_7' en_7' le_7' lt_8' ne_8' en_8' le_8' lt_9' ne_9' en_9' le_9' lt_10' ne_10' en_10' le_10' lt_11' ne_11' en_11' le_11' lt_12' ne_12' en_12' le_12'

theorem owns_below {b n : Nat} {D : DataW Unit} {w w' : World} (h : w.ownsMap Tryz.prog 9 (plainElem Tryz.prog 3) b n D) (hb : Below w.heap.size w w') : w'.ownsMap Tryz.prog 9 (plainElem Tryz.prog 3) b n D :=
  h.kept (row := none) ⟨hb.os, hb.tape, hb.output, hb.size, fun k hk _ => hb.block k hk⟩ (by simp)
/-- where a name stands, by the map of all names -/
theorem at_PM (ns : List ByteArray) (hd : ns.Nodup) (j : Nat) (hj : j < ns.length) (z : DataW Unit) : ∀ k, k ≤ ns.length → j < k → (PM ns k).atKey (.string ns[j].data.toList) z = .lit (.int .i64 (j : Int))
  | 0, _, h => by omega
  | k + 1, hk, h => by
    have hg : ns.getD k ByteArray.empty = ns[k] := by simp [List.getD, List.getElem?_eq_getElem (show k < ns.length by omega)]
    show ((PM ns k).put (.string (ns.getD k ByteArray.empty).data.toList) (.lit (.int .i64 (k : Int)))).atKey _ z = _
    rw [hg]
    by_cases e : j = k
    · subst e
      exact Maps.atKey_put_same (tidy_PM ns j).isMap (key_is _) _ _
    · rw [Maps.atKey_put_other (key_ne fun h9 => List.pairwise_iff_getElem.1 hd j k hj (by omega) (by omega) h9)]
      exact at_PM ns hd j hj z k (by omega) (by omega)
theorem places_v (n : Nat) (ns : List ByteArray) (nv : Value) (w : World) (hN : NSl n w ns nv) (hl : ns.length ≤ 1048576) (hsz : ∀ x ∈ ns, x.size ≤ 1048576) :
    Calls Tryz.prog 98 #[nv] w fun e w' => e = .returned (.map (some w.heap.size)) ∧ w'.ownsMap Tryz.prog 9 (plainElem Tryz.prog 3) w.heap.size ns.length (PM ns ns.length) ∧ Below w.heap.size w w' := by
  rcases hN with ⟨rfl, p, c, rfl⟩ | ⟨g, o, cap, rfl, _, hg, hr⟩
  · exact places_nil w c p
  · exact places_any ns g o cap w hl hg hr hsz
theorem has_yes {ns : List ByteArray} {s : ByteArray} (hs : s ∈ ns) : Maps.has (PM ns ns.length) (.string s.data.toList) = true := by
  have h := has_PM ns s ns.length (Nat.le_refl _)
  rw [List.take_length] at h
  exact h.2 hs
theorem has_no {ns : List ByteArray} {s : ByteArray} (hs : s ∉ ns) : Maps.has (PM ns ns.length) (.string s.data.toList) = false := by
  have h := has_PM ns s ns.length (Nat.le_refl _)
  rw [List.take_length] at h
  cases hq : Maps.has (PM ns ns.length) (.string s.data.toList)
  · rfl
  · exact absurd (h.1 hq) hs
end Go.Proofs.YtjkallelniggpaaGreatDoor
