/-
  Plain facts about numbers of two and of four words of 64 bits: no program stands in this text.
-/
namespace Go.Proofs.YtjkallelniggpaaDoor.Word

def hi (n : Nat) : Nat := n / 18446744073709551616
def lo (n : Nat) : Nat := n % 18446744073709551616
def w0 (n : Nat) : Nat := n % 18446744073709551616
def w1 (n : Nat) : Nat := n / 18446744073709551616 % 18446744073709551616
def w2 (n : Nat) : Nat := n / 340282366920938463463374607431768211456 % 18446744073709551616
def w3 (n : Nat) : Nat := n / 6277101735386680763835789423207666416102355444464034512896 % 18446744073709551616
/-- the bounds of a number of two words, of four words -/
def top2 : Nat := 340282366920938463463374607431768211456
def top4 : Nat := 115792089237316195423570985008687907853269984665640564039457584007913129639936
def sumLo (x y c : Nat) : Nat := (x + y + c) % 18446744073709551616
def sumHi (x y c : Nat) : Nat := (x + y + c) / 18446744073709551616
def difLo (x y c : Nat) : Nat := (x + 18446744073709551616 - y - c) % 18446744073709551616
def difHi (x y c : Nat) : Nat := if x < y + c then 1 else 0
def mulLo (x y : Nat) : Nat := x * y % 18446744073709551616
def mulHi (x y : Nat) : Nat := x * y / 18446744073709551616

theorem hi_lt {n : Nat} (h : n < top2) : hi n < 18446744073709551616 := by unfold hi top2 at *; omega
theorem lo_lt (n : Nat) : lo n < 18446744073709551616 := by unfold lo; omega
theorem w0_lt (n : Nat) : w0 n < 18446744073709551616 := by unfold w0; omega
theorem w1_lt (n : Nat) : w1 n < 18446744073709551616 := by unfold w1; omega
theorem w2_lt (n : Nat) : w2 n < 18446744073709551616 := by unfold w2; omega
theorem w3_lt (n : Nat) : w3 n < 18446744073709551616 := by unfold w3; omega
theorem sumLo_lt (x y c : Nat) : sumLo x y c < 18446744073709551616 := by unfold sumLo; omega
theorem sumHi_le {x y c : Nat} (hx : x < 18446744073709551616) (hy : y < 18446744073709551616) (hc : c ≤ 1) : sumHi x y c ≤ 1 := by unfold sumHi; omega
theorem difLo_lt (x y c : Nat) : difLo x y c < 18446744073709551616 := by unfold difLo; omega
theorem difHi_le (x y c : Nat) : difHi x y c ≤ 1 := by unfold difHi; split <;> omega
theorem mulLo_lt (x y : Nat) : mulLo x y < 18446744073709551616 := by unfold mulLo; omega
theorem mulHi_lt {x y : Nat} (hx : x < 18446744073709551616) (hy : y < 18446744073709551616) : mulHi x y < 18446744073709551616 := by
  unfold mulHi
  rw [Nat.div_lt_iff_lt_mul (by decide)]
  have h1 : x * y ≤ 18446744073709551615 * 18446744073709551615 := Nat.mul_le_mul (by omega) (by omega)
  omega
theorem hilo (n : Nat) : hi n * 18446744073709551616 + lo n = n := by unfold hi lo; omega
theorem of_words {h l : Nat} (hl : l < 18446744073709551616) : hi (h * 18446744073709551616 + l) = h ∧ lo (h * 18446744073709551616 + l) = l := by
  unfold hi lo; omega
theorem of_words4 {a b c d : Nat} (ha : a < 18446744073709551616) (hb : b < 18446744073709551616) (hc : c < 18446744073709551616) (hd : d < 18446744073709551616) :
    w0 (a + b * 18446744073709551616 + c * 340282366920938463463374607431768211456 + d * 6277101735386680763835789423207666416102355444464034512896) = a ∧
    w1 (a + b * 18446744073709551616 + c * 340282366920938463463374607431768211456 + d * 6277101735386680763835789423207666416102355444464034512896) = b ∧
    w2 (a + b * 18446744073709551616 + c * 340282366920938463463374607431768211456 + d * 6277101735386680763835789423207666416102355444464034512896) = c ∧
    w3 (a + b * 18446744073709551616 + c * 340282366920938463463374607431768211456 + d * 6277101735386680763835789423207666416102355444464034512896) = d ∧
    a + b * 18446744073709551616 + c * 340282366920938463463374607431768211456 + d * 6277101735386680763835789423207666416102355444464034512896 < top4 := by
  unfold w0 w1 w2 w3 top4; omega
theorem words4 {n : Nat} (h : n < top4) : w0 n + w1 n * 18446744073709551616 + w2 n * 340282366920938463463374607431768211456 + w3 n * 6277101735386680763835789423207666416102355444464034512896 = n := by
  unfold w0 w1 w2 w3 top4 at *; omega
/-- a number of two words as one of four -/
theorem long_words {n : Nat} (h : n < top2) : w0 n = lo n ∧ w1 n = hi n ∧ w2 n = 0 ∧ w3 n = 0 := by
  unfold w0 w1 w2 w3 lo hi top2 at *; omega
theorem narrow_words {n : Nat} (h : n < top4) : (w2 n = 0 ∧ w3 n = 0 ↔ n < top2) ∧ (n < top2 → hi n = w1 n ∧ lo n = w0 n) := by
  unfold w0 w1 w2 w3 lo hi top2 top4 at *; omega
theorem add_words {a b : Nat} (ha : a < top2) (hb : b < top2) :
    lo (a + b) = sumLo (lo a) (lo b) 0 ∧ (a + b < top2 → hi (a + b) = sumLo (hi a) (hi b) (sumHi (lo a) (lo b) 0) ∧ sumHi (hi a) (hi b) (sumHi (lo a) (lo b) 0) = 0) ∧
    (top2 ≤ a + b → sumHi (hi a) (hi b) (sumHi (lo a) (lo b) 0) = 1) := by
  unfold sumLo sumHi lo hi top2 at *; omega
theorem sub_words {a b : Nat} (ha : a < top2) (hb : b < top2) :
    (b ≤ a → lo (a - b) = difLo (lo a) (lo b) 0 ∧ hi (a - b) = difLo (hi a) (hi b) (difHi (lo a) (lo b) 0) ∧ difHi (hi a) (hi b) (difHi (lo a) (lo b) 0) = 0) ∧
    (a < b → lo (top2 + a - b) = difLo (lo a) (lo b) 0 ∧ hi (top2 + a - b) = difLo (hi a) (hi b) (difHi (lo a) (lo b) 0) ∧ difHi (hi a) (hi b) (difHi (lo a) (lo b) 0) = 1) := by
  unfold difLo difHi lo hi top2 at *
  by_cases h : a % 18446744073709551616 < b % 18446744073709551616 + 0
  · rw [if_pos h]
    by_cases h2 : a / 18446744073709551616 < b / 18446744073709551616 + 1
    · rw [if_pos h2]; omega
    · rw [if_neg h2]; omega
  · rw [if_neg h]
    by_cases h2 : a / 18446744073709551616 < b / 18446744073709551616 + 0
    · rw [if_pos h2]; omega
    · rw [if_neg h2]; omega
/-- the carry into word k of a sum -/
def car (a b : Nat) : Nat → Nat
  | 0 => 0
  | 1 => sumHi (w0 a) (w0 b) 0
  | 2 => sumHi (w1 a) (w1 b) (sumHi (w0 a) (w0 b) 0)
  | 3 => sumHi (w2 a) (w2 b) (sumHi (w1 a) (w1 b) (sumHi (w0 a) (w0 b) 0))
  | _ => sumHi (w3 a) (w3 b) (sumHi (w2 a) (w2 b) (sumHi (w1 a) (w1 b) (sumHi (w0 a) (w0 b) 0)))
/-- the words by their place -/
def wd (n : Nat) : Nat → Nat
  | 0 => w0 n
  | 1 => w1 n
  | 2 => w2 n
  | _ => w3 n
theorem wd_lt (n k : Nat) : wd n k < 18446744073709551616 := by
  unfold wd; split
  · exact w0_lt n
  · exact w1_lt n
  · exact w2_lt n
  · exact w3_lt n
theorem car_le (a b k : Nat) : car a b k ≤ 1 := by
  have h1 := sumHi_le (w0_lt a) (w0_lt b) (Nat.zero_le 1)
  have h2 := sumHi_le (w1_lt a) (w1_lt b) h1
  have h3 := sumHi_le (w2_lt a) (w2_lt b) h2
  have h4 := sumHi_le (w3_lt a) (w3_lt b) h3
  unfold car; split
  · omega
  · exact h1
  · exact h2
  · exact h3
  · exact h4
theorem car_succ {k : Nat} (hk : k < 4) (a b : Nat) : sumHi (wd a k) (wd b k) (car a b k) = car a b (k + 1) := by
  match k, hk with
  | 0, _ => rfl
  | 1, _ => rfl
  | 2, _ => rfl
  | 3, _ => rfl
theorem sumEq (x y c : Nat) : x + y + c = sumLo x y c + sumHi x y c * 18446744073709551616 := by unfold sumLo sumHi; omega
theorem sum_all {a b : Nat} (ha : a < top4) (hb : b < top4) (h : a + b < top4) :
    w0 (a + b) = sumLo (w0 a) (w0 b) 0 ∧ w1 (a + b) = sumLo (w1 a) (w1 b) (car a b 1) ∧ w2 (a + b) = sumLo (w2 a) (w2 b) (car a b 2) ∧ w3 (a + b) = sumLo (w3 a) (w3 b) (car a b 3) := by
  have e0 := sumEq (w0 a) (w0 b) 0
  have e1 := sumEq (w1 a) (w1 b) (car a b 1)
  have e2 := sumEq (w2 a) (w2 b) (car a b 2)
  have e3 := sumEq (w3 a) (w3 b) (car a b 3)
  have c1 : sumHi (w0 a) (w0 b) 0 = car a b 1 := rfl
  have c2 : sumHi (w1 a) (w1 b) (car a b 1) = car a b 2 := rfl
  have c3 : sumHi (w2 a) (w2 b) (car a b 2) = car a b 3 := rfl
  have c4 : sumHi (w3 a) (w3 b) (car a b 3) = car a b 4 := rfl
  rw [c1] at e0
  rw [c2] at e1
  rw [c3] at e2
  rw [c4] at e3
  have l0 := sumLo_lt (w0 a) (w0 b) 0
  have l1 := sumLo_lt (w1 a) (w1 b) (car a b 1)
  have l2 := sumLo_lt (w2 a) (w2 b) (car a b 2)
  have l3 := sumLo_lt (w3 a) (w3 b) (car a b 3)
  have wa := words4 ha
  have wb := words4 hb
  have key := of_words4 l0 l1 l2 l3
  clear c1 c2 c3 c4
  generalize car a b 1 = c1 at *
  generalize car a b 2 = c2 at *
  generalize car a b 3 = c3 at *
  generalize car a b 4 = c4 at *
  generalize sumLo (w0 a) (w0 b) 0 = s0 at *
  generalize sumLo (w1 a) (w1 b) c1 = s1 at *
  generalize sumLo (w2 a) (w2 b) c2 = s2 at *
  generalize sumLo (w3 a) (w3 b) c3 = s3 at *
  obtain ⟨k0, k1, k2, k3, k4⟩ := key
  have hs : a + b = s0 + s1 * 18446744073709551616 + s2 * 340282366920938463463374607431768211456 + s3 * 6277101735386680763835789423207666416102355444464034512896 := by
    clear k0 k1 k2 k3
    unfold top4 at *
    omega
  rw [hs]
  exact ⟨k0, k1, k2, k3⟩
theorem sum_wd {a b k : Nat} (hk : k < 4) (ha : a < top4) (hb : b < top4) (h : a + b < top4) : sumLo (wd a k) (wd b k) (car a b k) = wd (a + b) k := by
  obtain ⟨h0, h1, h2, h3⟩ := sum_all ha hb h
  match k, hk with
  | 0, _ => exact h0.symm
  | 1, _ => exact h1.symm
  | 2, _ => exact h2.symm
  | 3, _ => exact h3.symm
theorem mul_words (a b : Nat) : a * b = lo a * lo b + (hi a * lo b + lo a * hi b) * 18446744073709551616 + hi a * hi b * 340282366920938463463374607431768211456 := by
  have h : (hi a * 18446744073709551616 + lo a) * (hi b * 18446744073709551616 + lo b) = a * b := by rw [hilo, hilo]
  rw [← h, Nat.add_mul, Nat.mul_add, Nat.mul_add]
  have e1 : hi a * 18446744073709551616 * (hi b * 18446744073709551616) = hi a * hi b * 340282366920938463463374607431768211456 := by
    rw [Nat.mul_mul_mul_comm]
  have e2 : hi a * 18446744073709551616 * lo b = hi a * lo b * 18446744073709551616 := Nat.mul_right_comm _ _ _
  have e3 : lo a * (hi b * 18446744073709551616) = lo a * hi b * 18446744073709551616 := (Nat.mul_assoc _ _ _).symm
  rw [e1, e2, e3]
  omega
end Go.Proofs.YtjkallelniggpaaDoor.Word
