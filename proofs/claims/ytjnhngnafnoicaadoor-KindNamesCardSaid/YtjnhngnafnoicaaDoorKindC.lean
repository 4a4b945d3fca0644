/-
  Contracts of the document's kinds: forms, samples, what fits.
-/
import Derived.Test.YtjnhngnafnoicaaDoorKindB
namespace Go.Proofs.YtjnhngnafnoicaaDoor
open Go.RowKit
attribute [local go_sem] setCell_drewN cell?_ext frozen?_ext shape?_ext setCell_ext lt_1' ne_1' en_1' le_1' lt_2' ne_2' en_2' le_2' lt_3' ne_3' en_3' le_3' lt_4' ne_4' en_4' le_4' lt_5' ne_5' en_5' le_5' lt_6' ne_6' en_6' le_6' lt_7' ne_7' en_7' le_7' lt_8' ne_8' en_8' le_8' lt_9' ne_9' en_9' le_9' lt_10' ne_10' en_10' le_10' lt_11' ne_11' en_11' le_11' lt_12' ne_12' en_12' le_12'

theorem numT_form (k o : Int) : tform k o = decide (0 ≤ numT k o) := by
  unfold numT
  cases h : tform k o
  · rfl
  · rw [if_pos rfl]
    unfold tform at h
    by_cases h5 : k = 5
    · rw [if_pos h5] at h ⊢
      obtain ⟨a, b⟩ := (Bool.and_eq_true _ _).mp h
      have a := of_decide_eq_true a
      exact (decide_eq_true (by omega)).symm
    · rw [if_neg h5] at h ⊢
      obtain ⟨a, b⟩ := (Bool.and_eq_true _ _).mp h
      exact (decide_eq_true (of_decide_eq_true a)).symm
theorem rform_any (k o : Int) (w : World) :
    Calls Tryd.prog 6 #[T k o] w fun e w' => e = .returned (.bool (tform k o)) ∧ Below w.heap.size w w' := by
  rw [numT_form]
  have h1 := fun w => number_any k o w
  obtain ⟨n, hn⟩ : ∃ n, n = numT k o := ⟨_, rfl⟩
  rw [← hn] at h1 ⊢
  have H1 := Lib.hid h1
  clear h1 hn
  go_enter Tryd.func6, Tryd.ntmps6
  go_wp2_with (first
    | (go_at_call 11; ((with_reducible refine (H1.out _).mono ?_); rintro e w1 ⟨rfl, hb1⟩; obtain ⟨osA, dA, rfl⟩ := ext_of_below hb1; clear hb1)))
  go_ret
  exact ⟨rfl, by (repeat' (first | (with_reducible exact Below.refl _ _) | (with_reducible assumption) | (with_reducible refine Below.alloc ?_ ?_ _) | (with_reducible refine below_drewN ?_ _) | (with_reducible refine below_drew ?_) | (with_reducible refine below_ext ?_ ?_ _ _) | (with_reducible refine Below.setCell ?_ ?_ _) | (simp; done) | (simp; omega) | omega))⟩
/-- a value with a kind, a day, a list, and nothing else -/
abbrev SV (k day : Int) (l : Value) : Value := .agg #[.int .i64 k, .bool false, .bool false, .int .u64 0, .int .u64 0, .int .i64 0, .string ⟨#[]⟩, .int .i64 day, l, .slice none 0 0]
end Go.Proofs.YtjnhngnafnoicaaDoor
