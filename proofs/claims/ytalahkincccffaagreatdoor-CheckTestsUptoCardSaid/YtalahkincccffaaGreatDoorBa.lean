/-
  Plain facts about fractions that are rounded and fitted: no program stands in this text.
  Plain facts about numbers of two and of four words of 64 bits: no program stands in this text.
  Plain facts about the estimated digit of a long division: no program stands in this text.
  Plain facts under a division of two words by one: numbers, no program.
  Plain facts under a division of four words by two: numbers, no program.
  Plain facts about decimal digits of natural numbers, least digit first: no program stands in this text.
  Texts in plain words: which characters stand in them, decoded from a place on.
  Texts cut in two by characters, in plain words: steps from character to character.
  The calendar in plain numbers: days ahead of a year, of a month; which year, month and day a number is.
  Plain facts about lists of decimal digits: doubling, halving, sums, differences, products. No program stands in this text.
  Plain facts about the words of a difference, and about the two halves of four words: no program stands in this text.
  Plain facts about long division by digits. No program stands in this text.
-/
import Derived.Lib.ValidLaws
import Derived.Lib.FieldsU
import Derived.Lib.QuoteLoop
import Derived.Lib.RuneCount
import Derived.Lib.Strings
namespace Go.Proofs.YtalahkincccffaaGreatDoor.Fit

def near (n t : Nat) : Nat := if t < n % t + n % t then n / t + 1 else if n % t + n % t = t then (if n / t % 2 = 1 then n / t + 1 else n / t) else n / t
theorem pp (k : Nat) : 0 < 10 ^ k := Nat.pow_pos (by decide)
def fitS (n t : Nat) : Nat → Option (Nat × Nat)
  | 0 => none
  | s + 1 => if near (n * 10 ^ s) t < 10 ^ 34 then some (near (n * 10 ^ s) t, s) else fitS n t s
def strip (c : Nat) : Nat → Nat × Nat
  | 0 => (c, 0)
  | s + 1 => if c % 10 = 0 then strip (c / 10) s else (c, s + 1)
def fit (n t k : Nat) : Option (Nat × Nat) := (fitS n t k).map fun x => strip x.1 x.2
end Go.Proofs.YtalahkincccffaaGreatDoor.Fit
namespace Go.Proofs.YtalahkincccffaaGreatDoor.Word

def hi (n : Nat) : Nat := n / 18446744073709551616
def lo (n : Nat) : Nat := n % 18446744073709551616
def w0 (n : Nat) : Nat := n % 18446744073709551616
def w1 (n : Nat) : Nat := n / 18446744073709551616 % 18446744073709551616
def w2 (n : Nat) : Nat := n / 340282366920938463463374607431768211456 % 18446744073709551616
def w3 (n : Nat) : Nat := n / 6277101735386680763835789423207666416102355444464034512896 % 18446744073709551616
def top2 : Nat := 340282366920938463463374607431768211456
def top4 : Nat := 115792089237316195423570985008687907853269984665640564039457584007913129639936
def sumLo (x y c : Nat) : Nat := (x + y + c) % 18446744073709551616
def sumHi (x y c : Nat) : Nat := (x + y + c) / 18446744073709551616
def difLo (x y c : Nat) : Nat := (x + 18446744073709551616 - y - c) % 18446744073709551616
def difHi (x y c : Nat) : Nat := if x < y + c then 1 else 0
def mulLo (x y : Nat) : Nat := x * y % 18446744073709551616
def mulHi (x y : Nat) : Nat := x * y / 18446744073709551616

theorem hi_lt {n : Nat} (h : n < top2) : hi n < 18446744073709551616 := by unfold hi top2 at *; omega
theorem lo_lt (n : Nat) : lo n < 18446744073709551616 := by unfold lo; omega
theorem w0_lt (n : Nat) : w0 n < 18446744073709551616 := by unfold w0; omega
theorem w1_lt (n : Nat) : w1 n < 18446744073709551616 := by unfold w1; omega
theorem w2_lt (n : Nat) : w2 n < 18446744073709551616 := by unfold w2; omega
theorem w3_lt (n : Nat) : w3 n < 18446744073709551616 := by unfold w3; omega
theorem sumLo_lt (x y c : Nat) : sumLo x y c < 18446744073709551616 := by unfold sumLo; omega
theorem sumHi_le {x y c : Nat} (hx : x < 18446744073709551616) (hy : y < 18446744073709551616) (hc : c ≤ 1) : sumHi x y c ≤ 1 := by unfold sumHi; omega
theorem difHi_le (x y c : Nat) : difHi x y c ≤ 1 := by unfold difHi; split <;> omega
theorem mulLo_lt (x y : Nat) : mulLo x y < 18446744073709551616 := by unfold mulLo; omega
theorem mulHi_lt {x y : Nat} (hx : x < 18446744073709551616) (hy : y < 18446744073709551616) : mulHi x y < 18446744073709551616 := by
  unfold mulHi
  rw [Nat.div_lt_iff_lt_mul (by decide)]
  have h1 : x * y ≤ 18446744073709551615 * 18446744073709551615 := Nat.mul_le_mul (by omega) (by omega)
  omega
theorem hilo (n : Nat) : hi n * 18446744073709551616 + lo n = n := by unfold hi lo; omega
theorem of_words {h l : Nat} (hl : l < 18446744073709551616) : hi (h * 18446744073709551616 + l) = h ∧ lo (h * 18446744073709551616 + l) = l := by
  unfold hi lo; omega
theorem of_words4 {a b c d : Nat} (ha : a < 18446744073709551616) (hb : b < 18446744073709551616) (hc : c < 18446744073709551616) (hd : d < 18446744073709551616) :
    w0 (a + b * 18446744073709551616 + c * 340282366920938463463374607431768211456 + d * 6277101735386680763835789423207666416102355444464034512896) = a ∧
    w1 (a + b * 18446744073709551616 + c * 340282366920938463463374607431768211456 + d * 6277101735386680763835789423207666416102355444464034512896) = b ∧
    w2 (a + b * 18446744073709551616 + c * 340282366920938463463374607431768211456 + d * 6277101735386680763835789423207666416102355444464034512896) = c ∧
    w3 (a + b * 18446744073709551616 + c * 340282366920938463463374607431768211456 + d * 6277101735386680763835789423207666416102355444464034512896) = d ∧
    a + b * 18446744073709551616 + c * 340282366920938463463374607431768211456 + d * 6277101735386680763835789423207666416102355444464034512896 < top4 := by
  unfold w0 w1 w2 w3 top4; omega
theorem words4 {n : Nat} (h : n < top4) : w0 n + w1 n * 18446744073709551616 + w2 n * 340282366920938463463374607431768211456 + w3 n * 6277101735386680763835789423207666416102355444464034512896 = n := by
  unfold w0 w1 w2 w3 top4 at *; omega
theorem long_words {n : Nat} (h : n < top2) : w0 n = lo n ∧ w1 n = hi n ∧ w2 n = 0 ∧ w3 n = 0 := by
  unfold w0 w1 w2 w3 lo hi top2 at *; omega
def car (a b : Nat) : Nat → Nat
  | 0 => 0
  | 1 => sumHi (w0 a) (w0 b) 0
  | 2 => sumHi (w1 a) (w1 b) (sumHi (w0 a) (w0 b) 0)
  | 3 => sumHi (w2 a) (w2 b) (sumHi (w1 a) (w1 b) (sumHi (w0 a) (w0 b) 0))
  | _ => sumHi (w3 a) (w3 b) (sumHi (w2 a) (w2 b) (sumHi (w1 a) (w1 b) (sumHi (w0 a) (w0 b) 0)))
theorem car_le (a b k : Nat) : car a b k ≤ 1 := by
  have h1 := sumHi_le (w0_lt a) (w0_lt b) (Nat.zero_le 1)
  have h2 := sumHi_le (w1_lt a) (w1_lt b) h1
  have h3 := sumHi_le (w2_lt a) (w2_lt b) h2
  have h4 := sumHi_le (w3_lt a) (w3_lt b) h3
  unfold car; split
  · omega
  · exact h1
  · exact h2
  · exact h3
  · exact h4
theorem sumEq (x y c : Nat) : x + y + c = sumLo x y c + sumHi x y c * 18446744073709551616 := by unfold sumLo sumHi; omega
theorem sum_all {a b : Nat} (ha : a < top4) (hb : b < top4) (h : a + b < top4) :
    w0 (a + b) = sumLo (w0 a) (w0 b) 0 ∧ w1 (a + b) = sumLo (w1 a) (w1 b) (car a b 1) ∧ w2 (a + b) = sumLo (w2 a) (w2 b) (car a b 2) ∧ w3 (a + b) = sumLo (w3 a) (w3 b) (car a b 3) := by
  have e0 := sumEq (w0 a) (w0 b) 0
  have e1 := sumEq (w1 a) (w1 b) (car a b 1)
  have e2 := sumEq (w2 a) (w2 b) (car a b 2)
  have e3 := sumEq (w3 a) (w3 b) (car a b 3)
  have c1 : sumHi (w0 a) (w0 b) 0 = car a b 1 := rfl
  have c2 : sumHi (w1 a) (w1 b) (car a b 1) = car a b 2 := rfl
  have c3 : sumHi (w2 a) (w2 b) (car a b 2) = car a b 3 := rfl
  have c4 : sumHi (w3 a) (w3 b) (car a b 3) = car a b 4 := rfl
  rw [c1] at e0
  rw [c2] at e1
  rw [c3] at e2
  rw [c4] at e3
  have l0 := sumLo_lt (w0 a) (w0 b) 0
  have l1 := sumLo_lt (w1 a) (w1 b) (car a b 1)
  have l2 := sumLo_lt (w2 a) (w2 b) (car a b 2)
  have l3 := sumLo_lt (w3 a) (w3 b) (car a b 3)
  have wa := words4 ha
  have wb := words4 hb
  have key := of_words4 l0 l1 l2 l3
  clear c1 c2 c3 c4
  generalize car a b 1 = c1 at *
  generalize car a b 2 = c2 at *
  generalize car a b 3 = c3 at *
  generalize car a b 4 = c4 at *
  generalize sumLo (w0 a) (w0 b) 0 = s0 at *
  generalize sumLo (w1 a) (w1 b) c1 = s1 at *
  generalize sumLo (w2 a) (w2 b) c2 = s2 at *
  generalize sumLo (w3 a) (w3 b) c3 = s3 at *
  obtain ⟨k0, k1, k2, k3, k4⟩ := key
  have hs : a + b = s0 + s1 * 18446744073709551616 + s2 * 340282366920938463463374607431768211456 + s3 * 6277101735386680763835789423207666416102355444464034512896 := by
    clear k0 k1 k2 k3
    unfold top4 at *
    omega
  rw [hs]
  exact ⟨k0, k1, k2, k3⟩
theorem mul_words (a b : Nat) : a * b = lo a * lo b + (hi a * lo b + lo a * hi b) * 18446744073709551616 + hi a * hi b * 340282366920938463463374607431768211456 := by
  have h : (hi a * 18446744073709551616 + lo a) * (hi b * 18446744073709551616 + lo b) = a * b := by rw [hilo, hilo]
  rw [← h, Nat.add_mul, Nat.mul_add, Nat.mul_add]
  have e1 : hi a * 18446744073709551616 * (hi b * 18446744073709551616) = hi a * hi b * 340282366920938463463374607431768211456 := by
    rw [Nat.mul_mul_mul_comm]
  have e2 : hi a * 18446744073709551616 * lo b = hi a * lo b * 18446744073709551616 := Nat.mul_right_comm _ _ _
  have e3 : lo a * (hi b * 18446744073709551616) = lo a * hi b * 18446744073709551616 := (Nat.mul_assoc _ _ _).symm
  rw [e1, e2, e3]
  omega
end Go.Proofs.YtalahkincccffaaGreatDoor.Word
namespace Go.Proofs.YtalahkincccffaaGreatDoor.Est

structure Ok (B x z y1 y0 q r : Nat) : Prop where
  eq : q * y1 + r = x
  lo : (x * B + z) / (y1 * B + y0) ≤ q
  hi : q ≤ B + 1

theorem mul_split (q y1 y0 B : Nat) : q * (y1 * B + y0) = q * y1 * B + q * y0 := by
  rw [Nat.mul_add, Nat.mul_assoc]

theorem start {B x z y1 y0 : Nat} (hx : x < y1 * B + y0) (hy0 : y0 < B) (hB : B ≤ 2 * y1) (hz : z < B) : Ok B x z y1 y0 (x / y1) (x % y1) := by
  have h1 : 0 < y1 := by omega
  have hq : x / y1 ≤ B + 1 := by
    rw [← Nat.lt_succ_iff, Nat.div_lt_iff_lt_mul h1]
    have : (B + 1 + 1) * y1 = y1 * B + 2 * y1 := by rw [Nat.mul_comm, Nat.mul_add, Nat.mul_add]; omega
    show x < (B + 1 + 1) * y1
    omega
  refine ⟨by rw [Nat.mul_comm]; exact Nat.div_add_mod x y1, ?_, hq⟩
  have hpos : 0 < y1 * B + y0 := by omega
  rw [← Nat.lt_succ_iff, Nat.div_lt_iff_lt_mul hpos]
  have h2 : x < (x / y1 + 1) * y1 := by
    have := Nat.lt_div_mul_add h1 (a := x); rw [Nat.add_mul, Nat.one_mul]; exact this
  have h3 : (x + 1) * B ≤ (x / y1 + 1) * y1 * B := Nat.mul_le_mul_right _ h2
  have h4 : (x / y1).succ * (y1 * B + y0) = (x / y1 + 1) * y1 * B + (x / y1 + 1) * y0 := mul_split _ _ _ _
  rw [h4]
  rw [Nat.add_mul, Nat.one_mul] at h3
  omega

theorem test {B x z y1 y0 q r : Nat} (h : Ok B x z y1 y0 q r) : r * B + z < q * y0 ↔ x * B + z < q * (y1 * B + y0) := by
  rw [mul_split, ← h.eq, Nat.add_mul]
  omega

theorem lt_of_test {B x z y1 y0 q : Nat} (h : x * B + z < q * (y1 * B + y0)) : (x * B + z) / (y1 * B + y0) < q := by
  have hpos : 0 < y1 * B + y0 := by
    rcases Nat.eq_zero_or_pos (y1 * B + y0) with h0 | h0
    · rw [h0, Nat.mul_zero] at h; omega
    · exact h0
  rwa [Nat.div_lt_iff_lt_mul hpos]

theorem big {B x z y1 y0 q : Nat} (hx : x < y1 * B + y0) (hz : z < B) (hq : B ≤ q) : x * B + z < q * (y1 * B + y0) := by
  have h1 : (x + 1) * B ≤ (y1 * B + y0) * B := Nat.mul_le_mul_right _ hx
  have h2 : B * (y1 * B + y0) ≤ q * (y1 * B + y0) := Nat.mul_le_mul_right _ hq
  rw [Nat.mul_comm] at h2
  rw [Nat.add_mul, Nat.one_mul] at h1
  omega

theorem step {B x z y1 y0 q r : Nat} (h : Ok B x z y1 y0 q r) (ht : x * B + z < q * (y1 * B + y0)) : 1 ≤ q ∧ Ok B x z y1 y0 (q - 1) (r + y1) ∧ q - 1 ≤ B := by
  have h1 : _ + 1 ≤ q := lt_of_test ht
  have h2 := h.hi
  have h3 : 1 ≤ q := Nat.le_trans (Nat.le_add_left 1 _) h1
  refine ⟨h3, ⟨?_, Nat.le_sub_of_add_le h1, by omega⟩, by omega⟩
  have := h.eq
  obtain ⟨k, rfl⟩ : ∃ k, q = k + 1 := ⟨q - 1, by omega⟩
  rw [Nat.add_mul, Nat.one_mul] at this
  simp only [Nat.add_sub_cancel]
  omega

theorem done {B x z y1 y0 q r : Nat} (h : Ok B x z y1 y0 q r) (hp : 0 < y1 * B + y0) (ht : ¬ x * B + z < q * (y1 * B + y0)) : q = (x * B + z) / (y1 * B + y0) := by
  have h1 := h.lo
  have h2 : q ≤ (x * B + z) / (y1 * B + y0) := (Nat.le_div_iff_mul_le hp).2 (by omega)
  omega

theorem over {B x z y1 y0 q r : Nat} (h : Ok B x z y1 y0 q r) (hy0 : y0 < B) (hr : B ≤ r) (hq : q ≤ B) : ¬ x * B + z < q * (y1 * B + y0) := by
  rw [← test h]
  have h1 : q * y0 ≤ B * y0 := Nat.mul_le_mul_right _ hq
  have h2 : B * y0 ≤ B * B := Nat.mul_le_mul_left _ (by omega)
  have h3 : B * B ≤ r * B := Nat.mul_le_mul_right _ hr
  omega
end Go.Proofs.YtalahkincccffaaGreatDoor.Est
namespace Go.Proofs.YtalahkincccffaaGreatDoor.DivM
theorem fin {N Q y V P : Nat} (hP : 0 < P) (h : N * P = Q * (y * P) + V) (hV : V < y * P) : Q = N / y ∧ V / P = N % y := by
  have h1 : Q * y * P ≤ N * P := by rw [h, ← Nat.mul_assoc]; omega
  have h2 : Q * y ≤ N := Nat.le_of_mul_le_mul_right h1 hP
  obtain ⟨v, hv⟩ : ∃ v, N = Q * y + v := ⟨N - Q * y, by omega⟩
  have h3 : V = v * P := by
    have : N * P = Q * y * P + v * P := by rw [hv, Nat.add_mul]
    rw [← Nat.mul_assoc] at h
    omega
  have h4 : v < y := by
    rw [h3] at hV
    exact Nat.lt_of_mul_lt_mul_right hV
  have hy : 0 < y := by omega
  rw [h3, Nat.mul_div_cancel _ hP, hv]
  constructor
  · rw [Nat.mul_comm, Nat.mul_add_div hy, Nat.div_eq_of_lt h4]; omega
  · rw [Nat.mul_comm, Nat.mul_add_mod, Nat.mod_eq_of_lt h4]
theorem norm {h l y s : Nat} (hs : s ≤ 63) (hy1 : 2 ^ (63 - s) ≤ y) (hy2 : y < 2 ^ (64 - s)) (hh : h < y) (hl : l < 18446744073709551616) :
    9223372036854775808 ≤ y * 2 ^ s ∧ y * 2 ^ s < 18446744073709551616 ∧ h * 2 ^ s < 18446744073709551616 ∧ l / 2 ^ (64 - s) < 2 ^ s ∧
    h * 2 ^ s + l / 2 ^ (64 - s) < y * 2 ^ s ∧ (h * 18446744073709551616 + l) * 2 ^ s = (h * 2 ^ s + l / 2 ^ (64 - s)) * 18446744073709551616 + l * 2 ^ s % 18446744073709551616 := by
  have e64 : 2 ^ (64 - s) * 2 ^ s = 18446744073709551616 := by rw [← Nat.pow_add, show 64 - s + s = 64 by omega]
  have e63 : 2 ^ (63 - s) * 2 ^ s = 9223372036854775808 := by rw [← Nat.pow_add, show 63 - s + s = 63 by omega]
  have hp : 0 < 2 ^ s := Nat.two_pow_pos s
  have hp2 : 0 < 2 ^ (64 - s) := Nat.two_pow_pos _
  have a1 : 9223372036854775808 ≤ y * 2 ^ s := by rw [← e63]; exact Nat.mul_le_mul_right _ hy1
  have a2 : y * 2 ^ s < 18446744073709551616 := by rw [← e64]; exact Nat.mul_lt_mul_of_pos_right hy2 hp
  have a3 : (h + 1) * 2 ^ s ≤ y * 2 ^ s := Nat.mul_le_mul_right _ hh
  rw [Nat.add_mul, Nat.one_mul] at a3
  have a4 : l / 2 ^ (64 - s) < 2 ^ s := by
    rw [Nat.div_lt_iff_lt_mul hp2, Nat.mul_comm, e64]; exact hl
  refine ⟨a1, a2, by omega, a4, by omega, ?_⟩
  have a5 : l * 2 ^ s = l / 2 ^ (64 - s) * 18446744073709551616 + l % 2 ^ (64 - s) * 2 ^ s := by
    have := Nat.div_add_mod l (2 ^ (64 - s))
    calc l * 2 ^ s = (2 ^ (64 - s) * (l / 2 ^ (64 - s)) + l % 2 ^ (64 - s)) * 2 ^ s := by rw [this]
      _ = _ := by rw [Nat.add_mul, Nat.mul_right_comm, e64, Nat.mul_comm 18446744073709551616]
  have a6 : l % 2 ^ (64 - s) * 2 ^ s < 18446744073709551616 := by
    rw [← e64]; exact Nat.mul_lt_mul_of_pos_right (Nat.mod_lt _ hp2) hp
  have a7 : l * 2 ^ s % 18446744073709551616 = l % 2 ^ (64 - s) * 2 ^ s := by rw [a5]; omega
  rw [a7, Nat.add_mul, Nat.add_mul, a5, Nat.mul_right_comm h]
  omega
theorem halvesK {X z1 z0 Y q u q0 v K : Nat} (h1 : X * K + z1 = q * Y + u) (h2 : u * K + z0 = q0 * Y + v) :
    X * K * K + (z1 * K + z0) = (q * K + q0) * Y + v := by
  have e1 : (X * K + z1) * K = (q * Y + u) * K := by rw [h1]
  have e2 : (q * K + q0) * Y = q * Y * K + q0 * Y := by rw [Nat.add_mul, Nat.mul_right_comm q]
  rw [Nat.add_mul, Nat.add_mul] at e1
  rw [e2]
  omega
theorem halves {X z1 z0 Y q u q0 v : Nat} (h1 : X * 4294967296 + z1 = q * Y + u) (h2 : u * 4294967296 + z0 = q0 * Y + v) :
    X * 18446744073709551616 + (z1 * 4294967296 + z0) = (q * 4294967296 + q0) * Y + v := by
  have h := halvesK h1 h2
  rw [Nat.mul_assoc X, show 4294967296 * 4294967296 = 18446744073709551616 from rfl] at h
  exact h
theorem wrap_rest {a p z u : Nat} (h : a + z = p + u) (hu : u < 18446744073709551616) : ((((a % 18446744073709551616 : Nat) : Int) + (z : Int) - ((p % 18446744073709551616 : Nat) : Int)) % 18446744073709551616) = (u : Int) := by omega
theorem quo_le {X z Y : Nat} (hz : z < 4294967296) (hX : X < Y) : (X * 4294967296 + z) / Y < 4294967296 := by
  rw [Nat.div_lt_iff_lt_mul (by omega)]
  have : (X + 1) * 4294967296 ≤ Y * 4294967296 := Nat.mul_le_mul_right _ hX
  rw [Nat.mul_comm]
  omega
end Go.Proofs.YtalahkincccffaaGreatDoor.DivM
namespace Go.Proofs.YtalahkincccffaaGreatDoor.DivP
theorem shl_split {x s : Nat} (hs : s ≤ 64) : x * 2 ^ s = x / 2 ^ (64 - s) * 18446744073709551616 + x * 2 ^ s % 18446744073709551616 := by
  have e : 2 ^ (64 - s) * 2 ^ s = 18446744073709551616 := by rw [← Nat.pow_add, show 64 - s + s = 64 by omega]
  have h : x * 2 ^ s / 18446744073709551616 = x / 2 ^ (64 - s) := by
    rw [← e]; exact Nat.mul_div_mul_right _ _ (Nat.two_pow_pos s)
  rw [← h]
  exact (Nat.div_add_mod' _ _).symm
theorem shr_lt {x s : Nat} (hs : s ≤ 64) (hx : x < 18446744073709551616) : x / 2 ^ (64 - s) < 2 ^ s := by
  have e : 2 ^ (64 - s) * 2 ^ s = 18446744073709551616 := by rw [← Nat.pow_add, show 64 - s + s = 64 by omega]
  rw [Nat.div_lt_iff_lt_mul (Nat.two_pow_pos _), Nat.mul_comm, e]; exact hx
theorem dist {n a0 a1 a2 a3 K K2 K3 P : Nat} (hn : a0 + a1 * K + a2 * K2 + a3 * K3 = n) : n * P = a0 * P + a1 * P * K + a2 * P * K2 + a3 * P * K3 := by
  subst hn
  rw [Nat.add_mul, Nat.add_mul, Nat.add_mul, Nat.mul_right_comm a1, Nat.mul_right_comm a2, Nat.mul_right_comm a3]
theorem five {n a0 a1 a2 a3 s : Nat} (hs : s ≤ 64)
    (hn : a0 + a1 * 18446744073709551616 + a2 * 340282366920938463463374607431768211456 + a3 * 6277101735386680763835789423207666416102355444464034512896 = n) :
    n * 2 ^ s = (a3 / 2 ^ (64 - s) * 18446744073709551616 + (a3 * 2 ^ s % 18446744073709551616 + a2 / 2 ^ (64 - s))) * 6277101735386680763835789423207666416102355444464034512896 +
      (a2 * 2 ^ s % 18446744073709551616 + a1 / 2 ^ (64 - s)) * 340282366920938463463374607431768211456 + (a1 * 2 ^ s % 18446744073709551616 + a0 / 2 ^ (64 - s)) * 18446744073709551616 + a0 * 2 ^ s % 18446744073709551616 := by
  have h := dist (P := 2 ^ s) hn
  have s0 := shl_split (x := a0) hs
  have s1 := shl_split (x := a1) hs
  have s2 := shl_split (x := a2) hs
  have s3 := shl_split (x := a3) hs
  revert h s0 s1 s2 s3
  generalize a0 * 2 ^ s % 18446744073709551616 = r0
  generalize a1 * 2 ^ s % 18446744073709551616 = r1
  generalize a2 * 2 ^ s % 18446744073709551616 = r2
  generalize a3 * 2 ^ s % 18446744073709551616 = r3
  generalize a0 / 2 ^ (64 - s) = c0
  generalize a1 / 2 ^ (64 - s) = c1
  generalize a2 / 2 ^ (64 - s) = c2
  generalize a3 / 2 ^ (64 - s) = c3
  generalize a0 * 2 ^ s = p0
  generalize a1 * 2 ^ s = p1
  generalize a2 * 2 ^ s = p2
  generalize a3 * 2 ^ s = p3
  generalize n * 2 ^ s = p
  intro h s0 s1 s2 s3
  clear hn
  omega
theorem chain {N D K K2 K3 T0 T1 T2 T3 m2 m1 m0 q2 q1 q0 : Nat} (hK2 : K2 = K * K) (hK3 : K3 = K * K * K) (hn : N = T0 * K3 + m2 * K2 + m1 * K + m0)
    (h2 : T0 * K + m2 = q2 * D + T1) (h1 : T1 * K + m1 = q1 * D + T2) (h0 : T2 * K + m0 = q0 * D + T3) : N = (q0 + q1 * K + q2 * K2) * D + T3 := by
  subst hK2 hK3
  have e2 : (T0 * K + m2) * (K * K) = q2 * D * (K * K) + T1 * K * K := by rw [h2, Nat.add_mul, Nat.mul_assoc T1]
  have e1 : (T1 * K + m1) * K = q1 * D * K + T2 * K := by rw [h1, Nat.add_mul]
  have e3 : T0 * (K * K * K) = T0 * K * (K * K) := by rw [Nat.mul_assoc K, Nat.mul_assoc T0]
  have g : (q0 + q1 * K + q2 * (K * K)) * D = q0 * D + q1 * D * K + q2 * D * (K * K) := by
    rw [Nat.add_mul, Nat.add_mul, Nat.mul_right_comm q1, Nat.mul_right_comm q2]
  rw [Nat.add_mul] at e2 e1
  rw [g, hn, e3]
  omega
theorem shr_words {V s : Nat} (hs : s ≤ 64) :
    V / 2 ^ s / 18446744073709551616 = V / 18446744073709551616 / 2 ^ s ∧
    V / 2 ^ s % 18446744073709551616 = V % 18446744073709551616 / 2 ^ s + V / 18446744073709551616 * 2 ^ (64 - s) % 18446744073709551616 := by
  have e : 2 ^ s * 2 ^ (64 - s) = 18446744073709551616 := by rw [← Nat.pow_add, show s + (64 - s) = 64 by omega]
  have hp : 0 < 2 ^ s := Nat.two_pow_pos s
  have h1 : V / 2 ^ s = V / 18446744073709551616 * 2 ^ (64 - s) + V % 18446744073709551616 / 2 ^ s := by
    have h := Nat.div_add_mod' V 18446744073709551616
    have h3 : V = V % 18446744073709551616 + 2 ^ s * (V / 18446744073709551616 * 2 ^ (64 - s)) := by
      rw [Nat.mul_left_comm, e]; omega
    have h4 : V / 2 ^ s = (V % 18446744073709551616 + 2 ^ s * (V / 18446744073709551616 * 2 ^ (64 - s))) / 2 ^ s := by rw [← h3]
    rw [h4, Nat.add_mul_div_left _ _ hp]; omega
  have h2 : V % 18446744073709551616 / 2 ^ s < 2 ^ (64 - s) := by
    rw [Nat.div_lt_iff_lt_mul hp, Nat.mul_comm, e]; exact Nat.mod_lt _ (by decide)
  constructor
  · rw [Nat.div_div_eq_div_mul, Nat.div_div_eq_div_mul, Nat.mul_comm]
  · have h5 := shl_split (x := V / 18446744073709551616) (s := 64 - s) (by omega)
    rw [show 64 - (64 - s) = s by omega] at h5
    rw [h1]
    have h6 : V / 18446744073709551616 * 2 ^ (64 - s) % 18446744073709551616 % 2 ^ (64 - s) = 0 := by
      have hd : 2 ^ (64 - s) ∣ 18446744073709551616 := ⟨2 ^ s, by rw [Nat.mul_comm, e]⟩
      rw [Nat.mod_mod_of_dvd _ hd, Nat.mul_mod_left]
    have h7 : V / 18446744073709551616 * 2 ^ (64 - s) % 18446744073709551616 + 2 ^ (64 - s) ≤ 18446744073709551616 := by
      have h8 : V / 18446744073709551616 * 2 ^ (64 - s) % 18446744073709551616 < 18446744073709551616 := Nat.mod_lt _ (by decide)
      generalize V / 18446744073709551616 * 2 ^ (64 - s) % 18446744073709551616 = a at *
      obtain ⟨b, hb⟩ := Nat.dvd_of_mod_eq_zero h6
      rw [hb, ← e, Nat.mul_comm (2 ^ s)] at h8
      have h9 : b < 2 ^ s := Nat.lt_of_mul_lt_mul_left h8
      have h10 : 2 ^ (64 - s) * (b + 1) ≤ 2 ^ (64 - s) * 2 ^ s := Nat.mul_le_mul_left _ h9
      rw [Nat.mul_add, Nat.mul_one, ← hb, Nat.mul_comm (2 ^ (64 - s)) (2 ^ s), e] at h10
      exact h10
    generalize V / 18446744073709551616 * 2 ^ (64 - s) = a at *
    generalize V % 18446744073709551616 / 2 ^ s = b at *
    generalize 2 ^ (64 - s) = c at *
    omega
end Go.Proofs.YtalahkincccffaaGreatDoor.DivP
namespace Go.Proofs.YtalahkincccffaaGreatDoor.Num

def dg : Nat → List Nat
  | 0 => []
  | n + 1 => ((n + 1) % 10) :: dg ((n + 1) / 10)
termination_by n => n
decreasing_by omega

def lv : List Nat → Nat
  | [] => 0
  | d :: l => d + 10 * lv l

theorem dg_zero : dg 0 = [] := by simp [dg]
theorem dg_pos {n : Nat} (h : 0 < n) : dg n = n % 10 :: dg (n / 10) := by
  match n, h with
  | n + 1, _ => rw [dg]
theorem dg_lt (n : Nat) : ∀ d ∈ dg n, d < 10 := by
  induction n using Nat.strongRecOn with
  | _ n ih =>
    rcases Nat.eq_zero_or_pos n with h | h
    · subst h; simp [dg_zero]
    · rw [dg_pos h]
      intro d hd
      rcases List.mem_cons.1 hd with rfl | hd
      · omega
      · exact ih (n / 10) (by omega) d hd
theorem div_pow_succ' (n j : Nat) : n / 10 ^ (j + 1) = n / 10 / 10 ^ j := by
  rw [Nat.pow_succ, Nat.mul_comm, Nat.div_div_eq_div_mul]
theorem dg_len_le {n k : Nat} : (dg n).length ≤ k ↔ n < 10 ^ k := by
  induction k generalizing n with
  | zero =>
    rcases Nat.eq_zero_or_pos n with h | h
    · subst h; simp [dg_zero]
    · rw [dg_pos h]; simp; omega
  | succ k ih =>
    rcases Nat.eq_zero_or_pos n with h | h
    · subst h; simp [dg_zero, Nat.pow_pos]
    · rw [dg_pos h, List.length_cons, Nat.add_le_add_iff_right, ih, Nat.pow_succ]; omega
theorem dg_len_lt {n k : Nat} : k < (dg n).length ↔ 10 ^ k ≤ n := by
  rw [← Nat.not_le, dg_len_le, Nat.not_lt]
theorem dg_getElem? (n j : Nat) : (dg n)[j]? = if 10 ^ j ≤ n then some (n / 10 ^ j % 10) else none := by
  induction j generalizing n with
  | zero =>
    rcases Nat.eq_zero_or_pos n with h | h
    · subst h; simp [dg_zero]
    · rw [dg_pos h]; simp; omega
  | succ j ih =>
    rcases Nat.eq_zero_or_pos n with h | h
    · subst h; simp [dg_zero]
    · rw [dg_pos h, List.getElem?_cons_succ, ih, div_pow_succ']
      have e : 10 ^ j ≤ n / 10 ↔ 10 ^ (j + 1) ≤ n := by rw [Nat.pow_succ]; omega
      simp only [e]
end Go.Proofs.YtalahkincccffaaGreatDoor.Num
namespace Txt
open Go Go.Lib
def okI (r : Int) : Bool := decide (r = 9 ∨ r = 10 ∨ r = 13 ∨ (32 ≤ r ∧ r ≤ 55295) ∨ (57344 ≤ r ∧ r ≤ 65533) ∨ (65536 ≤ r ∧ r ≤ 1114111))
def good (s : ByteArray) (i : Nat) : Bool := !decide ((Utf8.decode s i).1 = 65533 ∧ (Utf8.decode s i).2 = 1) && okI ((Utf8.decode s i).1 : Int)
def textFrom (s : ByteArray) : Nat → Nat → Bool
  | 0, _ => true
  | f + 1, pos => if pos < s.size then good s pos && textFrom s f (pos + (Utf8.decode s pos).2) else true
def isText (s : ByteArray) : Bool := textFrom s s.size 0
theorem textFrom_end (s : ByteArray) (f pos : Nat) (h : ¬ pos < s.size) : textFrom s f pos = true := by
  cases f with
  | zero => rfl
  | succ f => simp [textFrom, h]
theorem textFrom_step (s : ByteArray) (f pos : Nat) (h : pos < s.size) : textFrom s (f + 1) pos = (good s pos && textFrom s f (pos + (Utf8.decode s pos).2)) := by simp [textFrom, h]
theorem width_pos (s : ByteArray) (pos : Nat) : 1 ≤ (Utf8.decode s pos).2 := Lib.width_pos s pos
theorem width_in (s : ByteArray) (pos : Nat) (h : pos < s.size) : pos + (Utf8.decode s pos).2 ≤ s.size := by
  have : (Utf8.decode s pos).2 ≤ s.size - pos := by rw [decode_at]; exact decodeN_width_le _ _ _ _ _ (by omega)
  omega
theorem valid_of_text (s : ByteArray) : ∀ (f pos : Nat), s.size ≤ pos + f → textFrom s f pos = true → validD (s.data.toList.drop pos) = true
  | 0, pos, hf, _ => by
    rw [List.drop_eq_nil_of_le (by simpa using hf)]
    rfl
  | f + 1, pos, hf, h => by
    by_cases hp : pos < s.size
    · rw [textFrom_step s f pos hp, Bool.and_eq_true] at h
      have hw := width_pos s pos
      have ih := valid_of_text s f _ (by omega) h.2
      have hne : s.data.toList.drop pos ≠ [] := by simp; omega
      rw [validD_step _ hne, decodeL_drop, List.drop_drop]
      have hg := h.1
      unfold good at hg
      rw [Bool.and_eq_true, Bool.not_eq_true', decide_eq_false_iff_not] at hg
      rw [if_neg hg.1]
      exact ih
    · rw [List.drop_eq_nil_of_le (by simp; omega)]
      rfl
theorem not_text_of_invalid (s : ByteArray) (h : validD s.data.toList = false) : isText s = false := by
  cases ht : isText s with
  | false => rfl
  | true =>
    have := valid_of_text s s.size 0 (by omega) ht
    rw [List.drop_zero] at this
    rw [this] at h
    cases h
theorem valid_at (s : ByteArray) (pos : Nat) (hp : pos < s.size) (h : validD (s.data.toList.drop pos) = true) :
    ¬ ((Utf8.decode s pos).1 = 65533 ∧ (Utf8.decode s pos).2 = 1) ∧ validD (s.data.toList.drop (pos + (Utf8.decode s pos).2)) = true := by
  have hne : s.data.toList.drop pos ≠ [] := by simp; omega
  rw [validD_step _ hne, decodeL_drop, List.drop_drop] at h
  by_cases hb : (Utf8.decode s pos).1 = 65533 ∧ (Utf8.decode s pos).2 = 1
  · rw [if_pos hb] at h; cases h
  · rw [if_neg hb] at h; exact ⟨hb, h⟩
theorem good_of_valid (s : ByteArray) (pos : Nat) (h : ¬ ((Utf8.decode s pos).1 = 65533 ∧ (Utf8.decode s pos).2 = 1)) : good s pos = okI ((Utf8.decode s pos).1 : Int) := by
  unfold good
  rw [decide_eq_false h]
  rfl
def Rel (s : ByteArray) (i : Nat) (c n : Int) (ok : Bool) : Prop :=
  (ok = true ∧ okI c = true ∧ good s i = true ∧ c = ((Utf8.decode s i).1 : Int) ∧ n = ((Utf8.decode s i).2 : Int)) ∨ (good s i = false ∧ (ok = false ∨ okI c = false))
theorem okI_big {c : Int} (h : 1114111 < c) : okI c = false := by unfold okI; exact decide_eq_false (by omega)
theorem okI_sur {c : Int} (h : 55296 ≤ c) (h' : c < 57344) : okI c = false := by unfold okI; exact decide_eq_false (by omega)
theorem rel_of (s : ByteArray) (i : Nat) (c n : Int) (ok : Bool) (D : Nat × Nat) (hD : Utf8.decode s i = D) (h : (ok = true ∧ c = (D.1 : Int) ∧ n = (D.2 : Int) ∧ ¬ (D.1 = 65533 ∧ D.2 = 1)) ∨ (D = (65533, 1) ∧ (ok = false ∨ 1114111 < c ∨ (55296 ≤ c ∧ c < 57344)))) : Rel s i c n ok := by
  unfold Rel good
  rw [hD]
  rcases h with ⟨rfl, rfl, rfl, h⟩ | ⟨rfl, h⟩
  · rw [decide_eq_false h]
    cases hk : okI (D.1 : Int) with
    | true => exact .inl ⟨rfl, rfl, rfl, rfl, rfl⟩
    | false => exact .inr ⟨rfl, .inr rfl⟩
  · refine .inr ⟨rfl, ?_⟩
    rcases h with h | h | h
    · exact .inl h
    · exact .inr (okI_big h)
    · exact .inr (okI_sur h.1 h.2)
theorem get_of (s : ByteArray) (i : Nat) (h : i < s.size) : s.get! i = s[i] := by
  cases s with
  | mk d => exact getElem!_pos d i h
end Txt
namespace Txt
open Go Go.Lib
inductive Path (s : ByteArray) : Nat → Nat → Nat → Prop
  | zero (p : Nat) : Path s p 0 p
  | step {p n q : Nat} (hp : p < s.size) (hg : good s p = true) (h : Path s (p + (Utf8.decode s p).2) n q) : Path s p (n + 1) q
theorem Path.le {s : ByteArray} {p n q : Nat} (h : Path s p n q) : p ≤ q := by
  induction h with
  | zero p => exact Nat.le_refl p
  | step hp hg h ih => omega
theorem Path.len {s : ByteArray} {p n q : Nat} (h : Path s p n q) : n ≤ q - p := by
  induction h with
  | zero p => omega
  | @step p n q hp hg h ih => have := width_pos s p; have := h.le; omega
theorem Path.append {s : ByteArray} {p n q m r : Nat} (h : Path s p n q) (g : Path s q m r) : Path s p (n + m) r := by
  induction h with
  | zero p => rw [Nat.zero_add]; exact g
  | @step p n q hp hg h ih => rw [Nat.add_right_comm]; exact .step hp hg (ih g)
theorem Path.fn {s : ByteArray} {p n q : Nat} (h : Path s p n q) : ∀ r, Path s p n r → q = r := by
  induction h with
  | zero p => intro r g; cases g; rfl
  | @step p n q hp hg h ih => intro r g; cases g with
    | step hp2 hg2 g2 => exact ih r g2
theorem Path.text {s : ByteArray} {p n q : Nat} (h : Path s p n q) : q = s.size → ∀ f, s.size ≤ p + f → textFrom s f p = true ∧ runeCountFrom s f p = n := by
  induction h with
  | zero p =>
    intro e f hf
    exact ⟨textFrom_end s f p (by omega), runeCountFrom_end s f p (by omega)⟩
  | @step p n q hp hg h ih =>
    intro e f hf
    have hw := width_pos s p
    cases f with
    | zero => omega
    | succ f =>
      obtain ⟨h1, h2⟩ := ih e f (by omega)
      refine ⟨by rw [textFrom_step s f p hp, hg, h1]; rfl, ?_⟩
      simp only [runeCountFrom, if_pos hp, h2]
      omega
theorem Path.split {s : ByteArray} {p N q : Nat} (h : Path s p N q) : ∀ n, n ≤ N → ∃ r, Path s p n r ∧ Path s r (N - n) q := by
  induction h with
  | zero p => intro n hn; obtain rfl : n = 0 := by omega
              exact ⟨p, .zero p, .zero p⟩
  | @step p N q hp hg h ih =>
    intro n hn
    cases n with
    | zero => exact ⟨p, .zero p, .step hp hg h⟩
    | succ n =>
      obtain ⟨r, h1, h2⟩ := ih n (by omega)
      exact ⟨r, .step hp hg h1, by rw [Nat.add_sub_add_right]; exact h2⟩
def placeFrom (s : ByteArray) : Nat → Nat → Nat → Nat
  | 0, _, _ => s.size
  | f + 1, pos, n => if pos < s.size then (if n = 0 then pos else placeFrom s f (pos + (Utf8.decode s pos).2) (n - 1)) else s.size
def place (s : ByteArray) (n : Nat) : Nat := placeFrom s s.size 0 n
theorem Path.place {s : ByteArray} {p n q : Nat} (h : Path s p n q) : ∀ f, s.size ≤ p + f → q ≤ s.size → placeFrom s f p n = q := by
  induction h with
  | zero p =>
    intro f hf hq
    cases f with
    | zero => unfold placeFrom; omega
    | succ f =>
      unfold placeFrom
      split
      · rfl
      · omega
  | @step p n q hp hg h ih =>
    intro f hf hq
    have hw := width_pos s p
    cases f with
    | zero => omega
    | succ f =>
      unfold placeFrom
      rw [if_pos hp, if_neg (by omega), Nat.add_sub_cancel]
      exact ih f (by omega) hq
end Txt
namespace Cal
def lp (y : Int) : Int := if y % 4 = 0 ∧ (¬ y % 100 = 0 ∨ y % 400 = 0) then 1 else 0
theorem lp_01 (y : Int) : 0 ≤ lp y ∧ lp y ≤ 1 := by unfold lp; split <;> omega
def dby (y : Int) : Int := (y - 1) * 365 + (y - 1) / 4 - (y - 1) / 100 + (y - 1) / 400
theorem dby_succ (y : Int) : dby (y + 1) = dby y + 365 + lp y := by unfold dby lp; split <;> omega
theorem dby_bd (a : Int) (h0 : 1 ≤ a) (h : a ≤ 10000) : 0 ≤ dby a ∧ dby a ≤ 3652059 := by unfold dby; omega
def dim (y m : Int) : Int := if m = 2 then 28 + lp y else if m = 4 ∨ m = 6 ∨ m = 9 ∨ m = 11 then 30 else 31
theorem dim_bd (y m : Int) : 28 ≤ dim y m ∧ dim y m ≤ 31 := by
  have := lp_01 y
  unfold dim; split
  · omega
  · split <;> omega
def cum (y m : Int) : Int :=
  if m ≤ 1 then 0 else if m = 2 then 31 else if m = 3 then 59 + lp y else if m = 4 then 90 + lp y else if m = 5 then 120 + lp y
  else if m = 6 then 151 + lp y else if m = 7 then 181 + lp y else if m = 8 then 212 + lp y else if m = 9 then 243 + lp y
  else if m = 10 then 273 + lp y else if m = 11 then 304 + lp y else if m = 12 then 334 + lp y else 365 + lp y
theorem months {m : Int} (h1 : 1 ≤ m) (h2 : m ≤ 12) : m = 1 ∨ m = 2 ∨ m = 3 ∨ m = 4 ∨ m = 5 ∨ m = 6 ∨ m = 7 ∨ m = 8 ∨ m = 9 ∨ m = 10 ∨ m = 11 ∨ m = 12 := by omega
theorem cum_succ (y m : Int) (h1 : 1 ≤ m) (h2 : m ≤ 12) : cum y (m + 1) = cum y m + dim y m := by
  rcases months h1 h2 with rfl | rfl | rfl | rfl | rfl | rfl | rfl | rfl | rfl | rfl | rfl | rfl <;> simp [cum, dim] <;> omega
theorem cum_one (y : Int) : cum y 1 = 0 := rfl
theorem cum_13 (y : Int) : cum y 13 = 365 + lp y := rfl
theorem cum_mono (y m k : Int) (h1 : 1 ≤ m) (h : m ≤ k) (h2 : k ≤ 13) : cum y m ≤ cum y k := by
  have h13 : k = 13 ∨ k ≤ 12 := by omega
  have h13' : m = 13 ∨ m ≤ 12 := by omega
  have := lp_01 y
  rcases h13 with rfl | hk
  · rcases h13' with rfl | hm
    · omega
    · rcases months h1 hm with rfl | rfl | rfl | rfl | rfl | rfl | rfl | rfl | rfl | rfl | rfl | rfl <;> simp [cum] <;> omega
  · rcases months (by omega) hk with rfl | rfl | rfl | rfl | rfl | rfl | rfl | rfl | rfl | rfl | rfl | rfl <;>
    rcases months h1 (by omega) with rfl | rfl | rfl | rfl | rfl | rfl | rfl | rfl | rfl | rfl | rfl | rfl <;> simp [cum] <;> omega
theorem cum_bd (y m : Int) (h1 : 1 ≤ m) (h2 : m ≤ 13) : 0 ≤ cum y m ∧ cum y m ≤ 366 := by
  have a := cum_mono y 1 m (by omega) h1 h2
  have b := cum_mono y m 13 h1 h2 (by omega)
  have := lp_01 y
  rw [cum_one] at a; rw [cum_13] at b
  omega
structure IsDay (n y m d : Int) : Prop where
  y1 : 1 ≤ y
  y2 : y ≤ 9999
  m1 : 1 ≤ m
  m2 : m ≤ 12
  d1 : 1 ≤ d
  d2 : d ≤ dim y m
  num : dby y + cum y m + d = n
theorem IsDay.bd {n y m d : Int} (h : IsDay n y m d) : 1 ≤ n ∧ n ≤ 3652059 := by
  obtain ⟨y1, y2, m1, m2, d1, d2, hn⟩ := h
  have a := cum_succ y m m1 m2
  have b := cum_bd y m m1 (by omega)
  have c := cum_mono y (m + 1) 13 (by omega) (by omega) (by omega)
  have e := dby_succ y
  have f := dby_bd y y1 (by omega)
  have g := dby_bd (y + 1) (by omega) (by omega)
  rw [cum_13] at c
  omega
theorem IsDay.year {n y m d : Int} (h : IsDay n y m d) : dby y < n ∧ n ≤ dby (y + 1) := by
  obtain ⟨y1, y2, m1, m2, d1, d2, hn⟩ := h
  have a := cum_succ y m m1 m2
  have b := cum_bd y m m1 (by omega)
  have c := cum_mono y (m + 1) 13 (by omega) (by omega) (by omega)
  have e := dby_succ y
  rw [cum_13] at c
  omega
theorem IsDay.next {n y m d : Int} (h : IsDay n y m d) (hn : n < 3652059) :
    (d < dim y m → IsDay (n + 1) y m (d + 1)) ∧ (d = dim y m → m < 12 → IsDay (n + 1) y (m + 1) 1) ∧ (d = dim y m → m = 12 → IsDay (n + 1) (y + 1) 1 1) := by
  obtain ⟨y1, y2, m1, m2, d1, d2, hnum⟩ := h
  have s := cum_succ y m m1 m2
  refine ⟨fun hl => ⟨y1, y2, m1, m2, by omega, by omega, by omega⟩, fun he hm => ⟨y1, y2, by omega, by omega, by omega, ?_, by omega⟩, fun he hm => ?_⟩
  · have := dim_bd y (m + 1); omega
  · subst hm
    have e := dby_succ y
    have f : cum y (12 + 1) = 365 + lp y := rfl
    have hy : y ≤ 9998 := by
      rcases Int.lt_or_le 9998 y with h | h
      · have : y = 9999 := by omega
        subst this
        have : dby (9999 + 1) = 3652059 := by decide
        omega
      · exact h
    refine ⟨by omega, by omega, by omega, by omega, by omega, ?_, ?_⟩
    · have := dim_bd (y + 1) 1; omega
    · rw [cum_one]; omega
theorem later (c y m d : Int) (h0 : 0 ≤ c) (h1 : c ≤ 119987) (hy : y = c / 12 + 1) (hm : m = c % 12 + 1) (hd : 1 ≤ d) : IsDay (dby y + cum y m + min d (dim y m)) y m (min d (dim y m)) := by
  have := dim_bd y m
  exact ⟨by omega, by omega, by omega, by omega, by omega, by omega, rfl⟩
end Cal
namespace Go.Proofs.YtalahkincccffaaGreatDoor.Num

def Dig (l : List Nat) : Prop := ∀ d ∈ l, d < 10
theorem Dig.nil : Dig [] := fun _ h => by cases h
theorem Dig.cons {l : List Nat} {d : Nat} (h : Dig l) (hd : d < 10) : Dig (d :: l) := fun x hx => by
  rcases List.mem_cons.1 hx with rfl | hx
  · exact hd
  · exact h x hx
theorem dig_dg (n : Nat) : Dig (dg n) := dg_lt n
theorem Dig.get {l : List Nat} (h : Dig l) {j : Nat} (hj : j < l.length) : l[j] < 10 := h _ (List.getElem_mem hj)
def twL : Nat → List Nat → List Nat
  | b, [] => if 0 < b then [b] else []
  | b, d :: l => (2 * d + b) % 10 :: twL ((2 * d + b) / 10) l
theorem twL_dg : ∀ (n b : Nat), b ≤ 1 → twL b (dg n) = dg (2 * n + b) := by
  intro n
  induction n using Nat.strongRecOn with
  | _ n ih =>
    intro b hb
    rcases Nat.eq_zero_or_pos n with h | h
    · subst h
      rw [dg_zero, twL]
      rcases (show b = 0 ∨ b = 1 by omega) with rfl | rfl
      · rw [if_neg (by decide)]; exact dg_zero.symm
      · rw [if_pos (by decide), dg_pos (by decide), dg_zero]
    · rw [dg_pos h, twL, ih (n / 10) (by omega) _ (by omega), dg_pos (show 0 < 2 * n + b by omega)]
      congr 1
      · omega
      · congr 1; omega
def upd (f : Nat → Int) (k : Nat) (v : Int) : Nat → Int := fun j => if j = k then v else f j
theorem dg_get {n j : Nat} (hj : j < (dg n).length) : (dg n)[j] = n / 10 ^ j % 10 := by
  have h := dg_getElem? n j
  rw [List.getElem?_eq_getElem hj, if_pos (dg_len_lt.1 hj)] at h
  exact Option.some.inj h
end Go.Proofs.YtalahkincccffaaGreatDoor.Num
namespace Go.Proofs.YtalahkincccffaaGreatDoor.Word

theorem halves {n : Nat} (h : n < top4) : hi (n / 340282366920938463463374607431768211456) = w3 n ∧ lo (n / 340282366920938463463374607431768211456) = w2 n ∧ hi (n % 340282366920938463463374607431768211456) = w1 n ∧ lo (n % 340282366920938463463374607431768211456) = w0 n ∧ n / 340282366920938463463374607431768211456 < top2 ∧ n % 340282366920938463463374607431768211456 < top2 := by
  have h1 := words4 h
  have l0 := w0_lt n
  have l1 := w1_lt n
  have l2 := w2_lt n
  have l3 := w3_lt n
  generalize w0 n = a at *
  generalize w1 n = b at *
  generalize w2 n = c at *
  generalize w3 n = d at *
  obtain ⟨X, hX⟩ : ∃ X, X = c + d * 18446744073709551616 := ⟨_, rfl⟩
  obtain ⟨Y, hY⟩ : ∃ Y, Y = a + b * 18446744073709551616 := ⟨_, rfl⟩
  have e1 : n / 340282366920938463463374607431768211456 = X := by omega
  have e2 : n % 340282366920938463463374607431768211456 = Y := by omega
  rw [e1, e2]
  unfold hi lo top2
  clear e1 e2 h1 h
  omega
end Go.Proofs.YtalahkincccffaaGreatDoor.Word
namespace Go.Proofs.YtalahkincccffaaGreatDoor.Num

end Go.Proofs.YtalahkincccffaaGreatDoor.Num
