/-
  Plain facts about numerals: how a numeral is split, what it is read as: no program stands in this text.
-/
import Derived.Test.YtnaajhhdpcdakaaDoorText
import Derived.Lib.ItoaNum
namespace Go.Proofs.YtnaajhhdpcdakaaDoor
open Go.RowKit Num Word
open Lib (decDigits)

theorem dd_small {a : Nat} (h : a < 10) : decDigits a = [UInt8.ofNat (48 + a)] := by rw [decDigits, dif_pos h]
theorem dd_big {a : Nat} (h : ¬ a < 10) : decDigits a = decDigits (a / 10) ++ [UInt8.ofNat (48 + a % 10)] := by rw [decDigits, dif_neg h]
/-- k digits of a number, noughts ahead -/
def padT : Nat → Nat → List UInt8
  | 0, _ => []
  | k + 1, r => padT k (r / 10) ++ [UInt8.ofNat (48 + r % 10)]
theorem dd_split : ∀ (k q r : Nat), 0 < q → r < 10 ^ k → decDigits (q * 10 ^ k + r) = decDigits q ++ padT k r
  | 0, q, r, _, hr => by
    obtain rfl : r = 0 := by simpa using hr
    simp [padT]
  | k + 1, q, r, hq, hr => by
    rw [Nat.pow_succ] at hr
    have hp : 0 < 10 ^ k := Nat.pow_pos (by decide)
    have h1 : q * 10 ^ (k + 1) + r = (q * 10 ^ k) * 10 + r := by rw [Nat.pow_succ, Nat.mul_assoc]
    have h2 : 0 < q * 10 ^ k := Nat.mul_pos hq hp
    have h3 : (q * 10 ^ k * 10 + r) / 10 = q * 10 ^ k + r / 10 := by omega
    have h4 : (q * 10 ^ k * 10 + r) % 10 = r % 10 := by omega
    rw [h1, dd_big (by omega), h3, h4, dd_split k q (r / 10) hq (by omega), List.append_assoc]
    rfl
theorem padT_is : ∀ (k r : Nat), r < 10 ^ (k + 1) → padT (k + 1) r = List.replicate (k + 1 - (decDigits r).length) 48 ++ decDigits r
  | 0, r, h => by
    have h9 : r < 10 := by simpa using h
    rw [dd_small h9]
    show [] ++ [UInt8.ofNat (48 + r % 10)] = _
    rw [Nat.mod_eq_of_lt h9]; rfl
  | k + 1, r, h => by
    have ih := padT_is k (r / 10) (by rw [Nat.pow_succ] at h; omega)
    show padT (k + 1) (r / 10) ++ [UInt8.ofNat (48 + r % 10)] = _
    rw [ih]
    by_cases h9 : r < 10
    · have h0 : r / 10 = 0 := by omega
      rw [dd_small h9, h0, dd_small (by omega), Nat.mod_eq_of_lt h9]
      show (List.replicate (k + 1 - 1) 48 ++ [48]) ++ [UInt8.ofNat (48 + r)] = List.replicate (k + 1 + 1 - 1) 48 ++ [UInt8.ofNat (48 + r)]
      rw [show k + 1 + 1 - 1 = (k + 1 - 1) + 1 by omega, List.replicate_succ']
    · rw [dd_big h9, List.length_append, List.append_assoc]
      congr 2
      simp
theorem of48 {d : Nat} (h : d < 10) : (UInt8.ofNat (48 + d)).toNat = 48 + d := by
  rw [UInt8.toNat_ofNat']; omega
theorem dd_val (a : Nat) : valL (decDigits a) = a := by
  induction a using Nat.strongRecOn with
  | _ a ih =>
    by_cases h : a < 10
    · rw [dd_small h, show [UInt8.ofNat (48 + a)] = [] ++ [UInt8.ofNat (48 + a)] from rfl, valL_snoc, of48 h]
      show 10 * 0 + _ = _
      omega
    · rw [dd_big h, valL_snoc, ih (a / 10) (by omega), of48 (by omega)]; omega
theorem dd_all (a : Nat) : (decDigits a).all isDg = true := by
  induction a using Nat.strongRecOn with
  | _ a ih =>
    by_cases h : a < 10
    · rw [dd_small h]
      simp only [List.all_cons, List.all_nil, Bool.and_true]
      unfold isDg
      rw [of48 h]; simp; omega
    · rw [dd_big h, List.all_append, ih (a / 10) (by omega)]
      simp only [List.all_cons, List.all_nil, Bool.and_true, Bool.true_and]
      unfold isDg
      rw [of48 (by omega)]; simp; omega
theorem dd_head (a : Nat) (h0 : 0 < a) : ∃ c r, decDigits a = c :: r ∧ c ≠ 48 := by
  induction a using Nat.strongRecOn with
  | _ a ih =>
    by_cases h : a < 10
    · refine ⟨_, [], dd_small h, fun e => ?_⟩
      have := congrArg UInt8.toNat e
      rw [of48 h] at this
      have e48 : (48 : UInt8).toNat = 48 := rfl
      omega
    · obtain ⟨c, r, e, hc⟩ := ih (a / 10) (by omega) (by omega)
      exact ⟨c, r ++ [UInt8.ofNat (48 + a % 10)], by rw [dd_big h, e]; rfl, hc⟩
theorem dd_num (a : Nat) : isNumL (decDigits a) = true := by
  by_cases h : a < 10
  · have h2 := dd_all a
    rw [dd_small h] at h2 ⊢
    unfold isNumL
    simp only [h2, Bool.true_and]
    rfl
  · obtain ⟨c, r, e, hc⟩ := dd_head a (by omega)
    have h2 := dd_all a
    rw [e] at h2 ⊢
    unfold isNumL
    simp [h2, hc]
theorem dd_len : ∀ (k a : Nat), a < 10 ^ (k + 1) → (decDigits a).length ≤ k + 1
  | 0, a, h => by
    have h9 : a < 10 := by simpa using h
    rw [dd_small h9]; exact Nat.le_refl _
  | k + 1, a, h => by
    by_cases h9 : a < 10
    · rw [dd_small h9]; simp
    · have ih := dd_len k (a / 10) (by rw [Nat.pow_succ] at h; omega)
      rw [dd_big h9, List.length_append]
      show _ + 1 ≤ _
      omega
theorem dd_dg (a : Nat) (h0 : 0 < a) : decDigits a = (dg a).reverse.map fun d => UInt8.ofNat (48 + d) := by
  induction a using Nat.strongRecOn with
  | _ a ih =>
    rw [dg_pos h0, List.reverse_cons, List.map_append]
    by_cases h : a < 10
    · have h1 : a / 10 = 0 := by omega
      rw [dd_small h, h1, dg_zero, Nat.mod_eq_of_lt h]; rfl
    · rw [dd_big h, ih (a / 10) (by omega) (by omega)]; rfl
theorem padT_len : ∀ k r, (padT k r).length = k
  | 0, _ => rfl
  | k + 1, r => by show (padT k (r / 10) ++ [_]).length = _; rw [List.length_append, padT_len k]; rfl
theorem padT_app (a x : Nat) : ∀ (b y : Nat), y < 10 ^ b → padT (a + b) (x * 10 ^ b + y) = padT a x ++ padT b y
  | 0, y, h => by
    obtain rfl : y = 0 := by simpa using h
    simp [padT]
  | b + 1, y, h => by
    rw [Nat.pow_succ] at h
    have h1 : x * 10 ^ (b + 1) + y = (x * 10 ^ b) * 10 + y := by rw [Nat.pow_succ, Nat.mul_assoc]
    have h2 : (x * 10 ^ b * 10 + y) / 10 = x * 10 ^ b + y / 10 := by omega
    have h3 : (x * 10 ^ b * 10 + y) % 10 = y % 10 := by omega
    show padT (a + b) ((x * 10 ^ (b + 1) + y) / 10) ++ [UInt8.ofNat (48 + (x * 10 ^ (b + 1) + y) % 10)] = padT a x ++ (padT b (y / 10) ++ [UInt8.ofNat (48 + y % 10)])
    rw [h1, h2, h3, padT_app a x b (y / 10) (by omega), List.append_assoc]
end Go.Proofs.YtnaajhhdpcdakaaDoor
