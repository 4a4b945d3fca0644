/-
  Contracts of Name on both sides.
-/
import Derived.Test.YtonajmngchfjeaaDoorBf
namespace Go.Proofs.YtonajmngchfjeaaDoor
open Go.RowKit Txt
attribute [local go_sem] setCell_drewN cell?_ext frozen?_ext shape?_ext setCell_ext lt_1' ne_1' en_1' le_1' lt_2' ne_2' en_2' le_2' lt_3' ne_3' en_3' le_3' lt_4' ne_4' en_4' le_4' lt_5' ne_5' en_5' le_5' lt_6' ne_6' en_6' le_6' lt_7' ne_7' en_7' le_7' lt_8' ne_8' en_8' le_8' lt_9' ne_9' en_9' le_9' lt_10' ne_10' en_10' le_10' lt_11' ne_11' en_11' le_11' lt_12' ne_12' en_12' le_12'

/-- a name -/
def IsName (s : ByteArray) : Prop := 0 < s.size ∧ s.size ≤ 64 ∧ isWord s = false ∧ letN (s.get! 0).toNat = true ∧ ∀ i, i < s.size → (letN (s.get! i).toNat || digN (s.get! i).toNat) = true
theorem not_empty {s : ByteArray} (h : 0 < s.size) : s.toList.isEmpty = false := by
  rw [ByteArray.toList_eq]
  cases e : s.data.toList with
  | nil => have : s.size = 0 := by rw [Lib.size_eq, e]; rfl
           omega
  | cons a l => rfl
theorem empty_of {s : ByteArray} (h : s.size = 0) : s = mkb [] := by
  have : s.data.toList = [] := List.eq_nil_of_length_eq_zero (by rw [← Lib.size_eq]; exact h)
  cases s with
  | mk d => cases d with | mk l => simp at this; subst this; rfl
theorem let_no_dig {x : Nat} (h : letN x = true) : digN x = false := by
  have := of_decide_eq_true h
  exact decide_eq_false (by omega)
theorem dig_no_let {x : Nat} (h : digN x = true) : letN x = false := by
  have := of_decide_eq_true h
  exact decide_eq_false (by omega)
end Go.Proofs.YtonajmngchfjeaaDoor
