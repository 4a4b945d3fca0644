/-
  Which type a value has, which types it fits: the program's way.
-/
import Derived.Test.YtjkallelniggpaaGreatDoorValI
import Derived.Test.YtjkallelniggpaaGreatDoorKindA
namespace Go.Proofs.YtjkallelniggpaaGreatDoor
open Go.RowKit Word Txt
attribute [local go_sem] setCell_drewN cell?_ext frozen?_ext shape?_ext setCell_ext lt_1' ne_1' en_1' le_1' lt_2' ne_2' en_2' le_2' lt_3' ne_3' en_3' le_3' lt_4' ne_4' en_4' le_4' lt_5' ne_5' en_5' le_5' lt_6' ne_6' en_6' le_6' lt_7' ne_7' en_7' le_7' lt_8' ne_8' en_8' le_8' lt_9' ne_9' en_9' le_9' lt_10' ne_10' en_10' le_10' lt_11' ne_11' en_11' le_11' lt_12' ne_12' en_12' le_12'

theorem bneF {x y : Int} (h : (x == y) = false) : (x != y) = true := by simp [bne, h]
theorem bneT {x y : Int} (h : (x == y) = true) : (x != y) = false := by simp [bne, h]
theorem allB_cons (of : Int) (v : V) (r : List V) : allB of (v :: r) = ((of == 0 || (v.kind == 0 || v.kind == of)) && allB of r) := rfl
theorem allB_drop (of : Int) (l : List V) (m : Nat) (h : m < l.length) : allB of (l.drop m) = ((of == 0 || (l[m].kind == 0 || l[m].kind == of)) && allB of (l.drop (m + 1))) := by
  rw [List.drop_eq_getElem_cons h]; rfl
/-- the type of a value in form -/
def ofT (v : V) : Int × Int := if v.kind = 5 then (5, cm 0 v.kids) else if v.kind = 6 then (0, 0) else (v.kind, 0)
/-- does a value in form fit a type? -/
def fitsB (v : V) (tk tq : Int) : Bool := (v.kind == 0 || tk == 0) || (v.kind == tk && allB tq v.kids)
theorem code_good {v : V} (h : v.code = 0) : v.form = true := ((code_is h.symm).1 rfl).2.2
theorem form_kind {v : V} (h : v.form = true) : 0 ≤ v.kind ∧ v.kind ≤ 6 ∧ (v.kind < 5 → v.kids = []) ∧ ∀ u ∈ v.kids, u.form = true := by
  cases v with
  | mk k yes neg c s t day l ns =>
    rw [form_doc] at h
    simp only [Bool.and_eq_true, decide_eq_true_eq] at h
    obtain ⟨⟨h1, h2⟩, h3, _, _, _, h4⟩ := h
    refine ⟨h1, h2, fun h5 => ?_, (formL_iff l).1 h4⟩
    unfold bareB at h3
    simp only [Bool.and_eq_true, Bool.or_eq_true, decide_eq_true_eq] at h3
    rcases h3.2.2.2.2.1 with h6 | h6
    · exact absurd h6 (by show ¬ 5 ≤ k; exact Int.not_le.2 h5)
    · exact List.length_eq_zero_iff.1 h6
end Go.Proofs.YtjkallelniggpaaGreatDoor
