/-
  The document's number, DocParse.
-/
import Derived.Test.YtonajmngchfjeaaDoorBj
import Derived.Test.YtonajmngchfjeaaDoorDocOne
import Derived.Test.YtonajmngchfjeaaDoorBi
namespace Go.Proofs.YtonajmngchfjeaaDoor
open Go.RowKit Num Word
open Lib (trimLeftB trimRightB)
attribute [local go_sem] setCell_drewN cell?_ext frozen?_ext shape?_ext setCell_ext lt_1' ne_1' en_1' le_1' lt_2' ne_2' en_2' le_2' lt_3' ne_3' en_3' le_3' lt_4' ne_4' en_4' le_4' lt_5' ne_5' en_5' le_5' lt_6' ne_6' en_6' le_6' lt_7' ne_7' en_7' le_7' lt_8' ne_8' en_8' le_8' lt_9' ne_9' en_9' le_9' lt_10' ne_10' en_10' le_10' lt_11' ne_11' en_11' le_11' lt_12' ne_12' en_12' le_12'

theorem sign_ways (s M : ByteArray) (neg : Bool) (m : List UInt8) (hM : M = ⟨m.toArray⟩) (h : (neg = true ∧ s.data.toList = 45 :: m) ∨ (neg = false ∧ s.data.toList = m ∧ m.head? ≠ some 45)) :
    (neg = true ∧ ∃ h : 0 < s.size, (((s[0]'h).toNat : Int) == 45) = true ∧ s.extract 1 s.size = M) ∨
    (neg = false ∧ s = M ∧ (s.size = 0 ∨ ∃ h : 0 < s.size, (((s[0]'h).toNat : Int) == 45) = false)) := by
  have hz : s.data.toList.length = s.size := rfl
  rcases h with ⟨rfl, h⟩ | ⟨rfl, h, h2⟩
  · have h0 : 0 < s.size := by rw [← hz, h]; simp
    refine .inl ⟨rfl, h0, ?_, ?_⟩
    · have : s[0]'h0 = 45 := by
        have e : s.data.toList[0]'(by omega) = s[0]'h0 := rfl
        rw [← e]; simp [h]
      rw [this]; rfl
    · have e : s = ⟨([] ++ 45 :: m).toArray⟩ := by rw [List.nil_append, ← h]
      rw [e, hM]; exact ext_from [] m 45
  · refine .inr ⟨rfl, by rw [hM, ← h], ?_⟩
    rcases Nat.eq_zero_or_pos s.size with h0 | h0
    · exact .inl h0
    · refine .inr ⟨h0, beq_eq_false_iff_ne.2 (fun e => h2 ?_)⟩
      have e45 : s[0]'h0 = 45 := UInt8.toNat_inj.1 (by have : (45 : UInt8).toNat = 45 := rfl; omega)
      have e2 : s.data.toList[0]'(by omega) = s[0]'h0 := rfl
      rw [← h, ← e45, ← e2, List.head?_eq_getElem?, List.getElem?_eq_getElem (by omega)]
def strLenD : Value → Nat | .string s => s.size | _ => 0
theorem trimR_step {a : List UInt8} {j : Nat} (hj : j < a.length) (h : a[j] = 48) : trimRightB (a.take (j + 1)) 48 = trimRightB (a.take j) 48 := by
  rw [List.take_succ_eq_append_getElem hj, h]
  simp [trimRightB]
theorem trimR_stop {a : List UInt8} {j : Nat} (hj : j < a.length) (h : a[j] ≠ 48) : trimRightB (a.take (j + 1)) 48 = a.take (j + 1) := by
  rw [List.take_succ_eq_append_getElem hj]
  exact trimR_same h
theorem at_bef {M : ByteArray} {b r : List UInt8} (hM : M = ⟨(b ++ r).toArray⟩) {j : Nat} (hj : j < b.length) (h : j < M.size) : M[j] = b[j] := by
  subst hM
  show (b ++ r).toArray[j] = b[j]
  simp [List.getElem_append_left hj]
theorem at_point {M : ByteArray} {b r : List UInt8} (c : UInt8) (hM : M = ⟨(b ++ c :: r).toArray⟩) (h : b.length < M.size) : M[b.length] = c := by
  subst hM
  show (b ++ c :: r).toArray[b.length] = c
  simp
theorem no_point {x : UInt8} (h : x ≠ 46) : ((x.toNat : Int) == 46) = false :=
  beq_eq_false_iff_ne.2 (fun e => h (UInt8.toNat_inj.1 (by have : (46 : UInt8).toNat = 46 := rfl; omega)))
end Go.Proofs.YtonajmngchfjeaaDoor
