/-
  The contract of bits.Div64: quotient and rest of a number of two words by a greater word.
  The contract of wide.divWord: a number of four words divided by one word.
  The contract of wide.divThree: three words divided by two, of which the higher one isn't nought.
  The contract of wide.divPair: four words divided by two, of which the higher one isn't nought.
  The contract of wide.Div: the whole part of a quotient, and what is left.
  The contract of wide.Round: n / 10^k to the nearest, ties to even.
-/
import Derived.Test.YtonajmngchfjeaaDoorBb
import Derived.Test.YtonajmngchfjeaaDoorBa
import Derived.Lib.ItoaNum
import Derived.Deep.DeepCutAuto
import Derived.Deep.CutBlock
import Derived.Test.YtonajmngchfjeaaDoorBn
import Derived.BigRegion
namespace Go.Proofs.YtonajmngchfjeaaDoor
open Go.RowKit Word
attribute [local go_sem] setCell_drewN cell?_ext frozen?_ext shape?_ext setCell_ext lt_1' ne_1' en_1' le_1' lt_2' ne_2' en_2' le_2' lt_3' ne_3' en_3' le_3' lt_4' ne_4' en_4' le_4' lt_5' ne_5' en_5' le_5' lt_6' ne_6' en_6' le_6' lt_7' ne_7' en_7' le_7' lt_8' ne_8' en_8' le_8' lt_9' ne_9' en_9' le_9' lt_10' ne_10' en_10' le_10' lt_11' ne_11' en_11' le_11' lt_12' ne_12' en_12' le_12'

theorem bitLen_bounds {y : Nat} (h0 : 0 < y) (h : y < 18446744073709551616) : 1 ≤ Lib.bitLen y ∧ Lib.bitLen y ≤ 64 ∧ 2 ^ (Lib.bitLen y - 1) ≤ y ∧ y < 2 ^ Lib.bitLen y := by
  obtain ⟨a, b, c⟩ := Lib.bitLenAux_bounds 64 y h (by omega)
  exact ⟨a, Lib.bitLen_le y 64 (by omega) h, b, c⟩
theorem shl_eq {a s : Nat} (h : a * 2 ^ s < 18446744073709551616) : IntKind.u64.wrap ((a : Int) * 2 ^ s) = ((a * 2 ^ s : Nat) : Int) := by
  have e : (a : Int) * 2 ^ s = ((a * 2 ^ s : Nat) : Int) := by simp
  rw [e]; exact wrapN _ h
theorem shl_mod (a s : Nat) : IntKind.u64.wrap ((a : Int) * 2 ^ s) = ((a * 2 ^ s % 18446744073709551616 : Nat) : Int) := by
  have e : (a : Int) * 2 ^ s = ((a * 2 ^ s : Nat) : Int) := by simp
  rw [e]; exact wrapM _
theorem shr_eq (a s : Nat) : (a : Int) / 2 ^ s = ((a / 2 ^ s : Nat) : Int) := by simp
theorem or_eq {a b s : Nat} (ha : a * 2 ^ s < 18446744073709551616) (hb : b < 2 ^ s) (hs : s ≤ 63) : bits .or .u64 ((a * 2 ^ s : Nat) : Int) (b : Int) = ((a * 2 ^ s + b : Nat) : Int) := by
  have h2 : 2 ^ s ≤ 2 ^ 63 := Nat.pow_le_pow_right (by decide) hs
  have hb' : b < 18446744073709551616 := by omega
  rw [bits_or_u64_nat _ _ ha hb', nat_join s _ _ (Nat.mul_mod_left _ _) hb]
theorem mulw_eq (a b : Nat) : IntKind.u64.wrap ((a : Int) * (b : Int)) = ((a * b % 18446744073709551616 : Nat) : Int) := by rw [mulN]; exact wrapM _
theorem ret2_nat {a b c d : Nat} (h1 : a = c) (h2 : b = d) : Ending.returned (.tuple #[.int .u64 (a : Int), .int .u64 (b : Int)]) = .returned (.tuple #[.int .u64 (c : Int), .int .u64 (d : Int)]) := by rw [h1, h2]

theorem prod_lt {q y0 : Nat} (h1 : q ≤ 4294967297) (h2 : y0 < 4294967296) : q * y0 < 18446744073709551616 := by
  have : q * y0 ≤ 4294967297 * 4294967295 := Nat.mul_le_mul h1 (by omega)
  omega

/-- quotient and rest of two words by one -/
def dq (h l y : Nat) : Nat := (h * 18446744073709551616 + l) / y
def dr (h l y : Nat) : Nat := (h * 18446744073709551616 + l) % y
end Go.Proofs.YtonajmngchfjeaaDoor
namespace Go.Proofs.YtonajmngchfjeaaDoor
open Go.RowKit Word
attribute [local go_sem] setCell_drewN cell?_ext frozen?_ext shape?_ext setCell_ext lt_1' ne_1' en_1' le_1' lt_2' ne_2' en_2' le_2' lt_3' ne_3' en_3' le_3' lt_4' ne_4' en_4' le_4' lt_5' ne_5' en_5' le_5' lt_6' ne_6' en_6' le_6' lt_7' ne_7' en_7' le_7' lt_8' ne_8' en_8' le_8' lt_9' ne_9' en_9' le_9' lt_10' ne_10' en_10' le_10' lt_11' ne_11' en_11' le_11' lt_12' ne_12' en_12' le_12'

theorem dr_lt (h l : Nat) {d : Nat} (hd : 0 < d) : dr h l d < d := Nat.mod_lt _ hd
theorem dq_lt {h l d : Nat} (hh : h < d) (hl : l < 18446744073709551616) : dq h l d < 18446744073709551616 := by
  unfold dq
  rw [Nat.div_lt_iff_lt_mul (by omega)]
  have : (h + 1) * 18446744073709551616 ≤ d * 18446744073709551616 := Nat.mul_le_mul_right _ hh
  rw [Nat.mul_comm]
  omega
theorem dqr (h l d : Nat) : h * 18446744073709551616 + l = dq h l d * d + dr h l d := (Nat.div_add_mod' _ _).symm
theorem div_words_aux {n d K K2 K3 a0 a1 a2 a3 q0 q1 q2 q3 r0 r1 r2 r3 : Nat} (hK2 : K2 = K * K) (hK3 : K3 = K * K * K) (hn : a0 + a1 * K + a2 * K2 + a3 * K3 = n)
    (h3 : a3 = q3 * d + r3) (h2 : r3 * K + a2 = q2 * d + r2) (h1 : r2 * K + a1 = q1 * d + r1) (h0 : r1 * K + a0 = q0 * d + r0) :
    n = (q0 + q1 * K + q2 * K2 + q3 * K3) * d + r0 := by
  subst hK2 hK3
  have e3 : a3 * (K * K * K) = q3 * d * (K * K * K) + r3 * K * (K * K) := by rw [h3, Nat.add_mul, Nat.mul_assoc r3, Nat.mul_assoc K K K]
  have e2 : (r3 * K + a2) * (K * K) = q2 * d * (K * K) + r2 * K * K := by rw [h2, Nat.add_mul, Nat.mul_assoc r2]
  have e1 : (r2 * K + a1) * K = q1 * d * K + r1 * K := by rw [h1, Nat.add_mul]
  rw [Nat.add_mul] at e2 e1
  have g : (q0 + q1 * K + q2 * (K * K) + q3 * (K * K * K)) * d = q0 * d + q1 * d * K + q2 * d * (K * K) + q3 * d * (K * K * K) := by
    rw [Nat.add_mul, Nat.add_mul, Nat.add_mul, Nat.mul_right_comm q1, Nat.mul_right_comm q2, Nat.mul_right_comm q3]
  rw [g, ← hn]
  omega
theorem quo_rem {n d a r : Nat} (h : n = a * d + r) (hr : r < d) : a = n / d ∧ r = n % d := by
  have hd : 0 < d := by omega
  subst h
  constructor
  · rw [Nat.mul_comm, Nat.mul_add_div hd, Nat.div_eq_of_lt hr, Nat.add_zero]
  · rw [Nat.mul_comm, Nat.mul_add_mod, Nat.mod_eq_of_lt hr]
theorem K2 : 340282366920938463463374607431768211456 = 18446744073709551616 * 18446744073709551616 := rfl
theorem K3 : 6277101735386680763835789423207666416102355444464034512896 = 18446744073709551616 * 18446744073709551616 * 18446744073709551616 := rfl
/-- what is left (ρ) and the quotient's words (κ), place by place -/
theorem places {n d : Nat} (hn : n < top4) (hd : 0 < d) : ∃ ρ κ : Int → Nat, ρ 3 = 0 ∧ (dr (ρ 3) (w3 n) d = ρ 2 ∧ dr (ρ 2) (w2 n) d = ρ 1 ∧ dr (ρ 1) (w1 n) d = ρ 0 ∧ dr (ρ 0) (w0 n) d = ρ (-1)) ∧
    (dq (ρ 3) (w3 n) d = κ 3 ∧ dq (ρ 2) (w2 n) d = κ 2 ∧ dq (ρ 1) (w1 n) d = κ 1 ∧ dq (ρ 0) (w0 n) d = κ 0) ∧ (∀ q, ρ q < d) ∧ (∀ q, κ q < 18446744073709551616) ∧
    num4 (κ 0) (κ 1) (κ 2) (κ 3) = n / d ∧ ρ (-1) = n % d := by
  have h3 := dqr 0 (w3 n) d
  have g3 := dq_lt hd (w3_lt n)
  have l3 := dr_lt 0 (w3 n) hd
  obtain ⟨r3, e3⟩ : ∃ a, dr 0 (w3 n) d = a := ⟨_, rfl⟩
  obtain ⟨k3, f3⟩ : ∃ a, dq 0 (w3 n) d = a := ⟨_, rfl⟩
  rw [e3, f3, Nat.zero_mul, Nat.zero_add] at h3
  rw [f3] at g3
  rw [e3] at l3
  have h2 := dqr r3 (w2 n) d
  have g2 := dq_lt l3 (w2_lt n)
  have l2 := dr_lt r3 (w2 n) hd
  obtain ⟨r2, e2⟩ : ∃ a, dr r3 (w2 n) d = a := ⟨_, rfl⟩
  obtain ⟨k2, f2⟩ : ∃ a, dq r3 (w2 n) d = a := ⟨_, rfl⟩
  rw [e2, f2] at h2
  rw [f2] at g2
  rw [e2] at l2
  have h1 := dqr r2 (w1 n) d
  have g1 := dq_lt l2 (w1_lt n)
  have l1 := dr_lt r2 (w1 n) hd
  obtain ⟨r1, e1⟩ : ∃ a, dr r2 (w1 n) d = a := ⟨_, rfl⟩
  obtain ⟨k1, f1⟩ : ∃ a, dq r2 (w1 n) d = a := ⟨_, rfl⟩
  rw [e1, f1] at h1
  rw [f1] at g1
  rw [e1] at l1
  have h0 := dqr r1 (w0 n) d
  have g0 := dq_lt l1 (w0_lt n)
  have l0 := dr_lt r1 (w0 n) hd
  obtain ⟨r0, e0⟩ : ∃ a, dr r1 (w0 n) d = a := ⟨_, rfl⟩
  obtain ⟨k0, f0⟩ : ∃ a, dq r1 (w0 n) d = a := ⟨_, rfl⟩
  rw [e0, f0] at h0
  rw [f0] at g0
  rw [e0] at l0
  have key := div_words_aux K2 K3 (words4 hn) h3 h2 h1 h0
  obtain ⟨x1, x2⟩ := quo_rem key l0
  refine ⟨fun q => if q = 3 then 0 else if q = 2 then r3 else if q = 1 then r2 else if q = 0 then r1 else r0, fun q => if q = 3 then k3 else if q = 2 then k2 else if q = 1 then k1 else k0, ?_, ⟨?_, ?_, ?_, ?_⟩, ⟨?_, ?_, ?_, ?_⟩, ?_, ?_, ?_, ?_⟩
  · simp
  · simpa using e3
  · simpa using e2
  · simpa using e1
  · simpa using e0
  · simpa using f3
  · simpa using f2
  · simpa using f1
  · simpa using f0
  · intro q; dsimp only; split
    · exact hd
    · split
      · exact l3
      · split
        · exact l2
        · split
          · exact l1
          · exact l0
  · intro q; dsimp only; split
    · exact g3
    · split
      · exact g2
      · split
        · exact g1
        · exact g0
  · simpa [num4] using x1
  · simpa using x2
def qrow (κ : Int → Nat) : Int → Array Value
  | 3 => #[.int .u64 0, .int .u64 0, .int .u64 0, .int .u64 0]
  | 2 => #[.int .u64 0, .int .u64 0, .int .u64 0, .int .u64 (κ 3 : Int)]
  | 1 => #[.int .u64 0, .int .u64 0, .int .u64 (κ 2 : Int), .int .u64 (κ 3 : Int)]
  | 0 => #[.int .u64 0, .int .u64 (κ 1 : Int), .int .u64 (κ 2 : Int), .int .u64 (κ 3 : Int)]
  | _ => #[.int .u64 (κ 0 : Int), .int .u64 (κ 1 : Int), .int .u64 (κ 2 : Int), .int .u64 (κ 3 : Int)]
theorem ret_div {v v' : Value} {a b : Nat} (h1 : v = v') (h2 : a = b) : Ending.returned (.tuple #[v, .int .u64 (a : Int)]) = .returned (.tuple #[v', .int .u64 (b : Int)]) := by rw [h1, h2]
end Go.Proofs.YtonajmngchfjeaaDoor
namespace Go.Proofs.YtonajmngchfjeaaDoor
open Go.RowKit Word
attribute [local go_sem] setCell_drewN cell?_ext frozen?_ext shape?_ext setCell_ext lt_1' ne_1' en_1' le_1' lt_2' ne_2' en_2' le_2' lt_3' ne_3' en_3' le_3' lt_4' ne_4' en_4' le_4' lt_5' ne_5' en_5' le_5' lt_6' ne_6' en_6' le_6' lt_7' ne_7' en_7' le_7' lt_8' ne_8' en_8' le_8' lt_9' ne_9' en_9' le_9' lt_10' ne_10' en_10' le_10' lt_11' ne_11' en_11' le_11' lt_12' ne_12' en_12' le_12'

theorem ext_ext (w : World) (a b : Array Obj) (c d : Nat) : ext (ext w a c) b d = ext w (a ++ b) d := by simp [ext, Array.append_assoc]
theorem ext_ext3 (w : World) (a b c : Array Obj) (i j k : Nat) : ext (ext (ext w a i) b j) c k = ext w (a ++ b ++ c) k := by rw [ext_ext, ext_ext, Array.append_assoc]
theorem ext_self (w : World) : w = ext w #[] w.drawn := by simp [ext]
theorem rest_words {N p R : Nat} (h : N = p + R) (hR : R < top2) : difLo (w1 N) (w1 p) (difHi (w0 N) (w0 p) 0) = hi R ∧ difLo (w0 N) (w0 p) 0 = lo R := by
  subst h
  unfold difLo difHi w1 w0 hi lo top2 at *
  split <;> omega
theorem mul_word (d q : Nat) (hd : d < top2) (hq : q < 18446744073709551616) (w : World) :
    Calls Tryd.prog 47 #[W d, .agg #[.int .u64 0, .int .u64 (q : Int)]] w fun e w' => e = .returned (L (d * q)) ∧ Below w.heap.size w w' := by
  have h := mul_any d q hd (by unfold top2; omega) w
  have e1 : hi q = 0 := by unfold hi; omega
  have e2 : lo q = q := by unfold lo; omega
  have HW : W q = .agg #[.int .u64 0, .int .u64 (q : Int)] := by simp only [W, e1, e2]; rfl
  rw [HW] at h
  exact h
theorem three_start {t l d : Nat} (hl : l < 18446744073709551616) (hd : 0 < hi d) : (t * 18446744073709551616 + l) / d ≤ t / hi d := by
  have e := hilo d
  have hl2 := lo_lt d
  have hp : 0 < d := by omega
  have h1 := Nat.lt_div_mul_add hd (a := t)
  generalize t / hi d = q at *
  rw [← Nat.lt_succ_iff, Nat.div_lt_iff_lt_mul hp]
  have h2 : t + 1 ≤ (q + 1) * hi d := by rw [Nat.add_mul, Nat.one_mul]; exact h1
  have h3 : (t + 1) * 18446744073709551616 ≤ (q + 1) * hi d * 18446744073709551616 := Nat.mul_le_mul_right _ h2
  have h4 : q.succ * d = (q + 1) * hi d * 18446744073709551616 + (q + 1) * lo d := by
    show (q + 1) * d = _
    rw [Nat.mul_assoc, ← Nat.mul_add, e]
  rw [h4]
  rw [Nat.add_mul, Nat.one_mul] at h3
  omega
theorem three_top {t l d : Nat} (ht : t < d) (hl : l < 18446744073709551616) : (t * 18446744073709551616 + l) / d ≤ 18446744073709551615 := by
  rw [← Nat.lt_succ_iff, Nat.div_lt_iff_lt_mul (by omega)]
  have : (t + 1) * 18446744073709551616 ≤ d * 18446744073709551616 := Nat.mul_le_mul_right _ ht
  rw [Nat.mul_comm]
  omega
end Go.Proofs.YtonajmngchfjeaaDoor
namespace Go.Proofs.YtonajmngchfjeaaDoor
open Go.RowKit Word
attribute [local go_sem] setCell_drewN cell?_ext frozen?_ext shape?_ext setCell_ext lt_1' ne_1' en_1' le_1' lt_2' ne_2' en_2' le_2' lt_3' ne_3' en_3' le_3' lt_4' ne_4' en_4' le_4' lt_5' ne_5' en_5' le_5' lt_6' ne_6' en_6' le_6' lt_7' ne_7' en_7' le_7' lt_8' ne_8' en_8' le_8' lt_9' ne_9' en_9' le_9' lt_10' ne_10' en_10' le_10' lt_11' ne_11' en_11' le_11' lt_12' ne_12' en_12' le_12'

theorem or_mod {a b s : Nat} (hb : b < 2 ^ s) (hs : s ≤ 64) : bits .or .u64 ((a * 2 ^ s % 18446744073709551616 : Nat) : Int) (b : Int) = ((a * 2 ^ s % 18446744073709551616 + b : Nat) : Int) := by
  have h2 : 2 ^ s ≤ 2 ^ 64 := Nat.pow_le_pow_right (by decide) hs
  have hb' : b < 18446744073709551616 := by omega
  have hd : 2 ^ s ∣ 18446744073709551616 := ⟨2 ^ (64 - s), by rw [← Nat.pow_add, show s + (64 - s) = 64 by omega]⟩
  rw [bits_or_u64_nat _ _ (Nat.mod_lt _ (by decide)) hb', nat_join s _ _ (by rw [Nat.mod_mod_of_dvd _ hd, Nat.mul_mod_left]) hb]
theorem or_mod' {a b s : Nat} (hb : b < 2 ^ s) (hs : s ≤ 64) : bits .or .u64 (b : Int) ((a * 2 ^ s % 18446744073709551616 : Nat) : Int) = ((a * 2 ^ s % 18446744073709551616 + b : Nat) : Int) := by
  have h2 : 2 ^ s ≤ 2 ^ 64 := Nat.pow_le_pow_right (by decide) hs
  have hb' : b < 18446744073709551616 := by omega
  have hd : 2 ^ s ∣ 18446744073709551616 := ⟨2 ^ (64 - s), by rw [← Nat.pow_add, show s + (64 - s) = 64 by omega]⟩
  rw [bits_or_u64_nat _ _ hb' (Nat.mod_lt _ (by decide)), Nat.or_comm, nat_join s _ _ (by rw [Nat.mod_mod_of_dvd _ hd, Nat.mul_mod_left]) hb]
theorem orI {a b s : Nat} (hb : b < 18446744073709551616) (hs : s ≤ 64) :
    bits .or .u64 (IntKind.u64.wrap ((a : Int) * 2 ^ s)) ((b : Int) / 2 ^ (64 - s)) = ((a * 2 ^ s % 18446744073709551616 + b / 2 ^ (64 - s) : Nat) : Int) := by
  rw [shl_mod, shr_eq]; exact or_mod (DivP.shr_lt hs hb) hs
theorem or_lt {a b s : Nat} (hb : b < 18446744073709551616) (hs : s ≤ 64) : a * 2 ^ s % 18446744073709551616 + b / 2 ^ (64 - s) < 18446744073709551616 := by
  have h1 := DivP.shr_lt hs hb
  have hd : 2 ^ s ∣ 18446744073709551616 := ⟨2 ^ (64 - s), by rw [← Nat.pow_add, show s + (64 - s) = 64 by omega]⟩
  have e64 : 2 ^ s * 2 ^ (64 - s) = 18446744073709551616 := by rw [← Nat.pow_add, show s + (64 - s) = 64 by omega]
  have h2 : a * 2 ^ s % 18446744073709551616 % 2 ^ s = 0 := by rw [Nat.mod_mod_of_dvd _ hd, Nat.mul_mod_left]
  have h3 : a * 2 ^ s % 18446744073709551616 < 18446744073709551616 := Nat.mod_lt _ (by decide)
  generalize a * 2 ^ s % 18446744073709551616 = c at *
  obtain ⟨k, hk⟩ := Nat.dvd_of_mod_eq_zero h2
  rw [hk, ← e64] at h3
  have h4 : k < 2 ^ (64 - s) := Nat.lt_of_mul_lt_mul_left h3
  have h5 : 2 ^ s * (k + 1) ≤ 2 ^ s * 2 ^ (64 - s) := Nat.mul_le_mul_left _ h4
  rw [Nat.mul_add, Nat.mul_one, ← hk, e64] at h5
  omega
end Go.Proofs.YtonajmngchfjeaaDoor
namespace Go.Proofs.YtonajmngchfjeaaDoor
open Go.RowKit Word
attribute [local go_sem] setCell_drewN cell?_ext frozen?_ext shape?_ext setCell_ext lt_1' ne_1' en_1' le_1' lt_2' ne_2' en_2' le_2' lt_3' ne_3' en_3' le_3' lt_4' ne_4' en_4' le_4' lt_5' ne_5' en_5' le_5' lt_6' ne_6' en_6' le_6' lt_7' ne_7' en_7' le_7' lt_8' ne_8' en_8' le_8' lt_9' ne_9' en_9' le_9' lt_10' ne_10' en_10' le_10' lt_11' ne_11' en_11' le_11' lt_12' ne_12' en_12' le_12'

end Go.Proofs.YtonajmngchfjeaaDoor
namespace Go.Proofs.YtonajmngchfjeaaDoor
open Go.RowKit Word
attribute [local go_sem] setCell_drewN cell?_ext frozen?_ext shape?_ext setCell_ext lt_1' ne_1' en_1' le_1' lt_2' ne_2' en_2' le_2' lt_3' ne_3' en_3' le_3' lt_4' ne_4' en_4' le_4' lt_5' ne_5' en_5' le_5' lt_6' ne_6' en_6' le_6' lt_7' ne_7' en_7' le_7' lt_8' ne_8' en_8' le_8' lt_9' ne_9' en_9' le_9' lt_10' ne_10' en_10' le_10' lt_11' ne_11' en_11' le_11' lt_12' ne_12' en_12' le_12'

theorem lt_13' (a k1 k2 k3 k4 k5 k6 k7 k8 k9 k10 k11 k12 k13 : Nat) : a < a + 1 + k1 + k2 + k3 + k4 + k5 + k6 + k7 + k8 + k9 + k10 + k11 + k12 + k13 := by omega
theorem ne_13' (a k1 k2 k3 k4 k5 k6 k7 k8 k9 k10 k11 k12 k13 : Nat) : (a = a + 1 + k1 + k2 + k3 + k4 + k5 + k6 + k7 + k8 + k9 + k10 + k11 + k12 + k13) = False := by simp; omega
theorem en_13' (a k1 k2 k3 k4 k5 k6 k7 k8 k9 k10 k11 k12 k13 : Nat) : (a + 1 + k1 + k2 + k3 + k4 + k5 + k6 + k7 + k8 + k9 + k10 + k11 + k12 + k13 = a) = False := by simp; omega
theorem le_13' (a k1 k2 k3 k4 k5 k6 k7 k8 k9 k10 k11 k12 k13 : Nat) : a ≤ a + k1 + k2 + k3 + k4 + k5 + k6 + k7 + k8 + k9 + k10 + k11 + k12 + k13 := by omega
theorem lt_14' (a k1 k2 k3 k4 k5 k6 k7 k8 k9 k10 k11 k12 k13 k14 : Nat) : a < a + 1 + k1 + k2 + k3 + k4 + k5 + k6 + k7 + k8 + k9 + k10 + k11 + k12 + k13 + k14 := by omega
theorem ne_14' (a k1 k2 k3 k4 k5 k6 k7 k8 k9 k10 k11 k12 k13 k14 : Nat) : (a = a + 1 + k1 + k2 + k3 + k4 + k5 + k6 + k7 + k8 + k9 + k10 + k11 + k12 + k13 + k14) = False := by simp; omega
theorem en_14' (a k1 k2 k3 k4 k5 k6 k7 k8 k9 k10 k11 k12 k13 k14 : Nat) : (a + 1 + k1 + k2 + k3 + k4 + k5 + k6 + k7 + k8 + k9 + k10 + k11 + k12 + k13 + k14 = a) = False := by simp; omega
theorem le_14' (a k1 k2 k3 k4 k5 k6 k7 k8 k9 k10 k11 k12 k13 k14 : Nat) : a ≤ a + k1 + k2 + k3 + k4 + k5 + k6 + k7 + k8 + k9 + k10 + k11 + k12 + k13 + k14 := by omega
theorem lt_15' (a k1 k2 k3 k4 k5 k6 k7 k8 k9 k10 k11 k12 k13 k14 k15 : Nat) : a < a + 1 + k1 + k2 + k3 + k4 + k5 + k6 + k7 + k8 + k9 + k10 + k11 + k12 + k13 + k14 + k15 := by omega
theorem ne_15' (a k1 k2 k3 k4 k5 k6 k7 k8 k9 k10 k11 k12 k13 k14 k15 : Nat) : (a = a + 1 + k1 + k2 + k3 + k4 + k5 + k6 + k7 + k8 + k9 + k10 + k11 + k12 + k13 + k14 + k15) = False := by simp; omega
theorem en_15' (a k1 k2 k3 k4 k5 k6 k7 k8 k9 k10 k11 k12 k13 k14 k15 : Nat) : (a + 1 + k1 + k2 + k3 + k4 + k5 + k6 + k7 + k8 + k9 + k10 + k11 + k12 + k13 + k14 + k15 = a) = False := by simp; omega
theorem le_15' (a k1 k2 k3 k4 k5 k6 k7 k8 k9 k10 k11 k12 k13 k14 k15 : Nat) : a ≤ a + k1 + k2 + k3 + k4 + k5 + k6 + k7 + k8 + k9 + k10 + k11 + k12 + k13 + k14 + k15 := by omega
theorem lt_16' (a k1 k2 k3 k4 k5 k6 k7 k8 k9 k10 k11 k12 k13 k14 k15 k16 : Nat) : a < a + 1 + k1 + k2 + k3 + k4 + k5 + k6 + k7 + k8 + k9 + k10 + k11 + k12 + k13 + k14 + k15 + k16 := by omega
theorem ne_16' (a k1 k2 k3 k4 k5 k6 k7 k8 k9 k10 k11 k12 k13 k14 k15 k16 : Nat) : (a = a + 1 + k1 + k2 + k3 + k4 + k5 + k6 + k7 + k8 + k9 + k10 + k11 + k12 + k13 + k14 + k15 + k16) = False := by simp; omega
theorem en_16' (a k1 k2 k3 k4 k5 k6 k7 k8 k9 k10 k11 k12 k13 k14 k15 k16 : Nat) : (a + 1 + k1 + k2 + k3 + k4 + k5 + k6 + k7 + k8 + k9 + k10 + k11 + k12 + k13 + k14 + k15 + k16 = a) = False := by simp; omega
theorem le_16' (a k1 k2 k3 k4 k5 k6 k7 k8 k9 k10 k11 k12 k13 k14 k15 k16 : Nat) : a ≤ a + k1 + k2 + k3 + k4 + k5 + k6 + k7 + k8 + k9 + k10 + k11 + k12 + k13 + k14 + k15 + k16 := by omega
theorem lt_17' (a k1 k2 k3 k4 k5 k6 k7 k8 k9 k10 k11 k12 k13 k14 k15 k16 k17 : Nat) : a < a + 1 + k1 + k2 + k3 + k4 + k5 + k6 + k7 + k8 + k9 + k10 + k11 + k12 + k13 + k14 + k15 + k16 + k17 := by omega
theorem ne_17' (a k1 k2 k3 k4 k5 k6 k7 k8 k9 k10 k11 k12 k13 k14 k15 k16 k17 : Nat) : (a = a + 1 + k1 + k2 + k3 + k4 + k5 + k6 + k7 + k8 + k9 + k10 + k11 + k12 + k13 + k14 + k15 + k16 + k17) = False := by simp; omega
theorem en_17' (a k1 k2 k3 k4 k5 k6 k7 k8 k9 k10 k11 k12 k13 k14 k15 k16 k17 : Nat) : (a + 1 + k1 + k2 + k3 + k4 + k5 + k6 + k7 + k8 + k9 + k10 + k11 + k12 + k13 + k14 + k15 + k16 + k17 = a) = False := by simp; omega
theorem le_17' (a k1 k2 k3 k4 k5 k6 k7 k8 k9 k10 k11 k12 k13 k14 k15 k16 k17 : Nat) : a ≤ a + k1 + k2 + k3 + k4 + k5 + k6 + k7 + k8 + k9 + k10 + k11 + k12 + k13 + k14 + k15 + k16 + k17 := by omega
theorem lt_18' (a k1 k2 k3 k4 k5 k6 k7 k8 k9 k10 k11 k12 k13 k14 k15 k16 k17 k18 : Nat) : a < a + 1 + k1 + k2 + k3 + k4 + k5 + k6 + k7 + k8 + k9 + k10 + k11 + k12 + k13 + k14 + k15 + k16 + k17 + k18 := by omega
theorem ne_18' (a k1 k2 k3 k4 k5 k6 k7 k8 k9 k10 k11 k12 k13 k14 k15 k16 k17 k18 : Nat) : (a = a + 1 + k1 + k2 + k3 + k4 + k5 + k6 + k7 + k8 + k9 + k10 + k11 + k12 + k13 + k14 + k15 + k16 + k17 + k18) = False := by simp; omega
theorem en_18' (a k1 k2 k3 k4 k5 k6 k7 k8 k9 k10 k11 k12 k13 k14 k15 k16 k17 k18 : Nat) : (a + 1 + k1 + k2 + k3 + k4 + k5 + k6 + k7 + k8 + k9 + k10 + k11 + k12 + k13 + k14 + k15 + k16 + k17 + k18 = a) = False := by simp; omega
theorem le_18' (a k1 k2 k3 k4 k5 k6 k7 k8 k9 k10 k11 k12 k13 k14 k15 k16 k17 k18 : Nat) : a ≤ a + k1 + k2 + k3 + k4 + k5 + k6 + k7 + k8 + k9 + k10 + k11 + k12 + k13 + k14 + k15 + k16 + k17 + k18 := by omega
theorem lt_19' (a k1 k2 k3 k4 k5 k6 k7 k8 k9 k10 k11 k12 k13 k14 k15 k16 k17 k18 k19 : Nat) : a < a + 1 + k1 + k2 + k3 + k4 + k5 + k6 + k7 + k8 + k9 + k10 + k11 + k12 + k13 + k14 + k15 + k16 + k17 + k18 + k19 := by omega
theorem ne_19' (a k1 k2 k3 k4 k5 k6 k7 k8 k9 k10 k11 k12 k13 k14 k15 k16 k17 k18 k19 : Nat) : (a = a + 1 + k1 + k2 + k3 + k4 + k5 + k6 + k7 + k8 + k9 + k10 + k11 + k12 + k13 + k14 + k15 + k16 + k17 + k18 + k19) = False := by simp; omega
theorem en_19' (a k1 k2 k3 k4 k5 k6 k7 k8 k9 k10 k11 k12 k13 k14 k15 k16 k17 k18 k19 : Nat) : (a + 1 + k1 + k2 + k3 + k4 + k5 + k6 + k7 + k8 + k9 + k10 + k11 + k12 + k13 + k14 + k15 + k16 + k17 + k18 + k19 = a) = False := by simp; omega
theorem le_19' (a k1 k2 k3 k4 k5 k6 k7 k8 k9 k10 k11 k12 k13 k14 k15 k16 k17 k18 k19 : Nat) : a ≤ a + k1 + k2 + k3 + k4 + k5 + k6 + k7 + k8 + k9 + k10 + k11 + k12 + k13 + k14 + k15 + k16 + k17 + k18 + k19 := by omega
theorem lt_20' (a k1 k2 k3 k4 k5 k6 k7 k8 k9 k10 k11 k12 k13 k14 k15 k16 k17 k18 k19 k20 : Nat) : a < a + 1 + k1 + k2 + k3 + k4 + k5 + k6 + k7 + k8 + k9 + k10 + k11 + k12 + k13 + k14 + k15 + k16 + k17 + k18 + k19 + k20 := by omega
theorem ne_20' (a k1 k2 k3 k4 k5 k6 k7 k8 k9 k10 k11 k12 k13 k14 k15 k16 k17 k18 k19 k20 : Nat) : (a = a + 1 + k1 + k2 + k3 + k4 + k5 + k6 + k7 + k8 + k9 + k10 + k11 + k12 + k13 + k14 + k15 + k16 + k17 + k18 + k19 + k20) = False := by simp; omega
theorem en_20' (a k1 k2 k3 k4 k5 k6 k7 k8 k9 k10 k11 k12 k13 k14 k15 k16 k17 k18 k19 k20 : Nat) : (a + 1 + k1 + k2 + k3 + k4 + k5 + k6 + k7 + k8 + k9 + k10 + k11 + k12 + k13 + k14 + k15 + k16 + k17 + k18 + k19 + k20 = a) = False := by simp; omega
theorem le_20' (a k1 k2 k3 k4 k5 k6 k7 k8 k9 k10 k11 k12 k13 k14 k15 k16 k17 k18 k19 k20 : Nat) : a ≤ a + k1 + k2 + k3 + k4 + k5 + k6 + k7 + k8 + k9 + k10 + k11 + k12 + k13 + k14 + k15 + k16 + k17 + k18 + k19 + k20 := by omega
attribute [local go_sem] lt_13' ne_13' en_13' le_13' lt_14' ne_14' en_14' le_14' lt_15' ne_15' en_15' le_15' lt_16' ne_16' en_16' le_16' lt_17' ne_17' en_17' le_17' lt_18' ne_18' en_18' le_18' lt_19' ne_19' en_19' le_19' lt_20' ne_20' en_20' le_20'
theorem meet_box {Wb X : World} {b : Nat} {v0 v1 v2 v3 : Value} (hb : Below Wb.heap.size Wb X) (hlt : b < X.heap.size) (h0 : X.cell? ⟨b, 0, none⟩ = some v0) (h1 : X.cell? ⟨b, 1, none⟩ = some v1) (h2 : X.cell? ⟨b, 2, none⟩ = some v2) (h3 : X.cell? ⟨b, 3, none⟩ = some v3) :
    ∃ (os : Array Obj) (d' b' : Nat), Value.pointer (some ⟨b, 0, none⟩) = .pointer (some ⟨b', 0, none⟩) ∧ X = ext Wb os d' ∧ b' < X.heap.size ∧ X.cell? ⟨b', 0, none⟩ = some v0 ∧ X.cell? ⟨b', 1, none⟩ = some v1 ∧ X.cell? ⟨b', 2, none⟩ = some v2 ∧ X.cell? ⟨b', 3, none⟩ = some v3 := by
  obtain ⟨os, d', he⟩ := ext_of_below hb
  exact ⟨os, d', b, rfl, he, hlt, h0, h1, h2, h3⟩
theorem p10_pos (j : Nat) : 0 < p10 j := Nat.pow_pos (by decide)
theorem p10_lt {j : Nat} (h : j ≤ 38) : p10 j < top2 := by
  have : p10 j ≤ 10 ^ 38 := Nat.pow_le_pow_right (by decide) h
  unfold top2
  omega
theorem near_lt {n t q : Nat} (hn : n < top4) (hq : q = n / t) (ht : 2 ≤ t) : q + 1 < top4 := by
  have h : n / t ≤ n / 2 := Nat.div_le_div_left ht (by decide)
  rw [← hq] at h
  unfold top4 at *
  omega
theorem two_steps {n a b q1 r1 q2 r2 : Nat} (hq1 : q1 = n / a) (hr1 : r1 = n % a) (hq2 : q2 = q1 / b) (hr2 : r2 = q1 % b) (ha : 0 < a) (hb : 0 < b) :
    q2 = n / (a * b) ∧ r2 * a + r1 = n % (a * b) ∧ r2 * a + r1 < a * b := by
  have h1 : n = q1 * a + r1 := by rw [hq1, hr1]; exact (Nat.div_add_mod' _ _).symm
  have h2 : q1 = q2 * b + r2 := by rw [hq2, hr2]; exact (Nat.div_add_mod' _ _).symm
  have l1 : r1 < a := by rw [hr1]; exact Nat.mod_lt _ ha
  have l2 : r2 < b := by rw [hr2]; exact Nat.mod_lt _ hb
  have h3 : r2 * a + r1 < a * b := by
    have : (r2 + 1) * a ≤ b * a := Nat.mul_le_mul_right _ l2
    rw [Nat.add_mul, Nat.one_mul] at this
    rw [Nat.mul_comm a b]; omega
  have h4 : n = q2 * (a * b) + (r2 * a + r1) := by
    have e : q1 * a = q2 * (a * b) + r2 * a := by rw [h2, Nat.add_mul, Nat.mul_assoc, Nat.mul_comm b a]
    omega
  obtain ⟨x, y⟩ := quo_rem h4 h3
  exact ⟨x, y, h3⟩
/-- what Narrow answers: the number or nought, and the error -/
def nw (m : Nat) : Nat := if m < top2 then m else 0
def ne (m : Nat) : Int := if m < top2 then 0 else 3
theorem narrow_any (m : Nat) (hm : m < top4) (w : World) :
    Calls Tryd.prog 48 #[L m] w fun e w' => e = .returned (.tuple #[W (nw m), .int .i64 (ne m)]) ∧ Below w.heap.size w w' := by
  by_cases h : m < top2
  · rw [show nw m = m from if_pos h, show ne m = 0 from if_pos h]; exact narrow_ok m h w
  · rw [show nw m = 0 from if_neg h, show ne m = 3 from if_neg h]; exact narrow_over m hm (by omega) w
theorem addLong_one (q : Nat) (hq : q + 1 < top4) (w : World) :
    Calls Tryd.prog 46 #[L q, .agg #[.int .u64 1, .int .u64 0, .int .u64 0, .int .u64 0]] w fun e w' => e = .returned (L (q + 1)) ∧ Below w.heap.size w w' := by
  have h1 : L 1 = .agg #[.int .u64 1, .int .u64 0, .int .u64 0, .int .u64 0] := rfl
  have := addLong_any q 1 (by omega) (by unfold top4; omega) hq w
  rw [h1] at this
  exact this
theorem odd_word {q : Nat} (h : q % 2 = 1) : (w0 q : Int) % 2 = 1 := by unfold w0; omega
theorem even_word {q : Nat} (h : q % 2 = 0) : (w0 q : Int) % 2 = 0 := by unfold w0; omega
/-- m is n / t to the nearest, ties to even -/
def NearIs (n t m : Nat) : Prop := (t < n % t + n % t ∧ m = n / t + 1) ∨ (n % t + n % t = t ∧ n / t % 2 = 1 ∧ m = n / t + 1) ∨ (n % t + n % t = t ∧ n / t % 2 = 0 ∧ m = n / t) ∨ (n % t + n % t < t ∧ m = n / t)
end Go.Proofs.YtonajmngchfjeaaDoor
