/-
  A slice that is read: elements of so many cells.
-/
import Derived.Test.YtalahkincccffaaGreatDoorExt
import Derived.Below
namespace Go.Proofs.YtalahkincccffaaGreatDoor
open Go.RowKit

section
variable {α : Type} {k n n' : Nat} {enc : α → List Value} {w w' : World} {v : Value} {l : List α}
def RL (k : Nat) (enc : α → List Value) (n : Nat) (w : World) (v : Value) (l : List α) : Prop :=
  ∃ p c, v = .slice p l.length c ∧ (0 < l.length → ∃ g o, p = some ⟨g, o, none⟩ ∧ g < n ∧ ∀ j (h : j < l.length) i u, (enc l[j])[i]? = some u → w.cell? ⟨g, o + j * k + i, none⟩ = some u)
theorem RL.nil (k : Nat) (enc : α → List Value) (n : Nat) (w : World) : RL k enc n w (.slice none 0 0) [] := ⟨none, 0, rfl, fun h => absurd h (Nat.lt_irrefl 0)⟩
theorem RL.keep (h : RL k enc n w v l) (hb : Below n w w') : RL k enc n w' v l := by
  obtain ⟨p, c, rfl, h2⟩ := h
  refine ⟨p, c, rfl, fun h0 => ?_⟩
  obtain ⟨g, o, hp, hg, hc⟩ := h2 h0
  exact ⟨g, o, hp, hg, fun j hj i u hu => by rw [hb.cell (p := ⟨g, _, none⟩) hg]; exact hc j hj i u hu⟩
theorem RL.more (h : RL k enc n w v l) (hm : n ≤ n') : RL k enc n' w v l := by
  obtain ⟨p, c, rfl, h2⟩ := h
  refine ⟨p, c, rfl, fun h0 => ?_⟩
  obtain ⟨g, o, hp, hg, hc⟩ := h2 h0
  exact ⟨g, o, hp, Nat.lt_of_lt_of_le hg hm, hc⟩
end
end Go.Proofs.YtalahkincccffaaGreatDoor
