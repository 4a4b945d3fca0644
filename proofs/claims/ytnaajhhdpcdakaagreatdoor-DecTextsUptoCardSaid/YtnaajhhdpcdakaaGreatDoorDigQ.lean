/-
  Plain facts about long division by digits. No program stands in this text.
-/
import Derived.Test.YtnaajhhdpcdakaaGreatDoorDig
namespace Go.Proofs.YtnaajhhdpcdakaaGreatDoor.Num

/-- one step of a long division, from the top -/
theorem quo_left (A B i : Nat) : A / 10 ^ i % B = (10 * (A / 10 ^ (i + 1) % B) + A / 10 ^ i % 10) % B := by
  have e : A / 10 ^ i = 10 * (A / 10 ^ (i + 1)) + A / 10 ^ i % 10 := by rw [div_pow_succ]; omega
  conv => lhs; rw [e]
  rw [Nat.add_mod, Nat.mul_mod, Nat.add_mod (10 * (A / 10 ^ (i + 1) % B)), Nat.mul_mod 10 (A / 10 ^ (i + 1) % B), Nat.mod_mod]
theorem quo_digit (A B i : Nat) (hB : 0 < B) : A / 10 ^ i / B = 10 * (A / 10 ^ (i + 1) / B) + (10 * (A / 10 ^ (i + 1) % B) + A / 10 ^ i % 10) / B := by
  have e : A / 10 ^ i = 10 * (A / 10 ^ (i + 1)) + A / 10 ^ i % 10 := by rw [div_pow_succ]; omega
  generalize A / 10 ^ i = N at *
  generalize A / 10 ^ (i + 1) = M at *
  have h2 := Nat.div_add_mod M B
  have h3 : N = (10 * (M % B) + N % 10) + B * (10 * (M / B)) := by
    have : B * (10 * (M / B)) = 10 * (B * (M / B)) := by rw [← Nat.mul_assoc, Nat.mul_comm B 10, Nat.mul_assoc]
    rw [this]; omega
  conv => lhs; rw [h3]
  rw [Nat.add_mul_div_left _ _ hB]; omega
/-- digits with one put below them -/
theorem dg_cons (d n : Nat) (hd : d < 10) (h : 0 < d ∨ 0 < n) : dg (10 * n + d) = d :: dg n := by
  rw [dg_pos (by omega)]
  congr 1
  · omega
  · congr 1; omega
theorem lv_cons (d : Nat) (l : List Nat) : lv (d :: l) = d + 10 * lv l := rfl
/-- what Quo keeps: the quotient's digits from one place on -/
def QuoAt (A B n i : Nat) (f : Nat → Int) : Prop := ∀ t, i ≤ t → t < n → f t = ((A / 10 ^ t / B % 10 : Nat) : Int)
theorem quo_nines (A B i : Nat) (hB : 0 < B) : (10 * (A / 10 ^ (i + 1) % B) + A / 10 ^ i % 10) / B < 10 := by
  have h := Nat.mod_lt (A / 10 ^ (i + 1)) hB
  rw [Nat.div_lt_iff_lt_mul hB]; omega
theorem quo_digit' (A B i : Nat) (hB : 0 < B) : A / 10 ^ i / B % 10 = (10 * (A / 10 ^ (i + 1) % B) + A / 10 ^ i % 10) / B := by
  rw [quo_digit A B i hB]
  have h := quo_nines A B i hB
  generalize (10 * (A / 10 ^ (i + 1) % B) + A / 10 ^ i % 10) / B = y at *
  generalize A / 10 ^ (i + 1) / B = z at *
  omega
theorem quo_fin (A B n : Nat) (hn : n = (dg A).length) (f : Nat → Int) (h : QuoAt A B n 0 f) : Dig (listOf f n) ∧ lv (listOf f n) = A / B := by
  have hd : ∀ t, t < n → f t = ((A / B / 10 ^ t % 10 : Nat) : Int) := fun t ht => by
    rw [h t (Nat.zero_le _) ht, Nat.div_div_eq_div_mul, Nat.div_div_eq_div_mul, Nat.mul_comm]
  have e : listOf f n = pad n (A / B) := by
    apply List.ext_getElem
    · rw [listOf_len, pad_len]
    · intro j h1 h2
      rw [listOf_get]
      rw [listOf_len] at h1
      have h3 := pad_getElem? n (A / B) j
      rw [if_pos h1, List.getElem?_eq_getElem h2] at h3
      rw [Option.some.inj h3, hd j h1]; rfl
  rw [e]
  refine ⟨pad_lt n _, ?_⟩
  rw [lv_pad, Nat.mod_eq_of_lt]
  have h1 := (dg_len_le (n := A) (k := (dg A).length)).1 (Nat.le_refl _)
  rw [hn]
  exact Nat.lt_of_le_of_lt (Nat.div_le_self _ _) h1
end Go.Proofs.YtnaajhhdpcdakaaGreatDoor.Num
