/-
  The contract of wide.Round: n / 10^k to the nearest, ties to even.
-/
import Derived.Test.YtjkallelniggpaaGreatDoorDiv
import Derived.Deep.DeepCutAuto
namespace Go.Proofs.YtjkallelniggpaaGreatDoor
open Go.RowKit Word
attribute [local go_sem] setCell_drewN cell?_ext frozen?_ext shape?_ext setCell_ext lt_1' ne_1' en_1' le_1' lt_2' ne_2' en_2' le_2' lt_3' ne_3' en_3' le_3' lt_4' ne_4' en_4' le_4' lt_5' ne_5' en_5' le_5' lt_6' ne_6' en_6' le_6' lt_7' ne_7' en_7' le_7' lt_8' ne_8' en_8' le_8' lt_9' ne_9' en_9' le_9' lt_10' ne_10' en_10' le_10' lt_11' ne_11' en_11' le_11' lt_12' ne_12' en_12' le_12'

theorem lt_13' (a k1 k2 k3 k4 k5 k6 k7 k8 k9 k10 k11 k12 k13 : Nat) : a < a + 1 + k1 + k2 + k3 + k4 + k5 + k6 + k7 + k8 + k9 + k10 + k11 + k12 + k13 := by omega
theorem ne_13' (a k1 k2 k3 k4 k5 k6 k7 k8 k9 k10 k11 k12 k13 : Nat) : (a = a + 1 + k1 + k2 + k3 + k4 + k5 + k6 + k7 + k8 + k9 + k10 + k11 + k12 + k13) = False := by simp; omega
theorem en_13' (a k1 k2 k3 k4 k5 k6 k7 k8 k9 k10 k11 k12 k13 : Nat) : (a + 1 + k1 + k2 + k3 + k4 + k5 + k6 + k7 + k8 + k9 + k10 + k11 + k12 + k13 = a) = False := by simp; omega
theorem le_13' (a k1 k2 k3 k4 k5 k6 k7 k8 k9 k10 k11 k12 k13 : Nat) : a ≤ a + k1 + k2 + k3 + k4 + k5 + k6 + k7 + k8 + k9 + k10 + k11 + k12 + k13 := by omega
theorem lt_14' (a k1 k2 k3 k4 k5 k6 k7 k8 k9 k10 k11 k12 k13 k14 : Nat) : a < a + 1 + k1 + k2 + k3 + k4 + k5 + k6 + k7 + k8 + k9 + k10 + k11 + k12 + k13 + k14 := by omega
theorem ne_14' (a k1 k2 k3 k4 k5 k6 k7 k8 k9 k10 k11 k12 k13 k14 : Nat) : (a = a + 1 + k1 + k2 + k3 + k4 + k5 + k6 + k7 + k8 + k9 + k10 + k11 + k12 + k13 + k14) = False := by simp; omega
theorem en_14' (a k1 k2 k3 k4 k5 k6 k7 k8 k9 k10 k11 k12 k13 k14 : Nat) : (a + 1 + k1 + k2 + k3 + k4 + k5 + k6 + k7 + k8 + k9 + k10 + k11 + k12 + k13 + k14 = a) = False := by simp; omega
theorem le_14' (a k1 k2 k3 k4 k5 k6 k7 k8 k9 k10 k11 k12 k13 k14 : Nat) : a ≤ a + k1 + k2 + k3 + k4 + k5 + k6 + k7 + k8 + k9 + k10 + k11 + k12 + k13 + k14 := by omega
theorem lt_15' (a k1 k2 k3 k4 k5 k6 k7 k8 k9 k10 k11 k12 k13 k14 k15 : Nat) : a < a + 1 + k1 + k2 + k3 + k4 + k5 + k6 + k7 + k8 + k9 + k10 + k11 + k12 + k13 + k14 + k15 := by omega
theorem ne_15' (a k1 k2 k3 k4 k5 k6 k7 k8 k9 k10 k11 k12 k13 k14 k15 : Nat) : (a = a + 1 + k1 + k2 + k3 + k4 + k5 + k6 + k7 + k8 + k9 + k10 + k11 + k12 + k13 + k14 + k15) = False := by simp; omega
theorem en_15' (a k1 k2 k3 k4 k5 k6 k7 k8 k9 k10 k11 k12 k13 k14 k15 : Nat) : (a + 1 + k1 + k2 + k3 + k4 + k5 + k6 + k7 + k8 + k9 + k10 + k11 + k12 + k13 + k14 + k15 = a) = False := by simp; omega
theorem le_15' (a k1 k2 k3 k4 k5 k6 k7 k8 k9 k10 k11 k12 k13 k14 k15 : Nat) : a ≤ a + k1 + k2 + k3 + k4 + k5 + k6 + k7 + k8 + k9 + k10 + k11 + k12 + k13 + k14 + k15 := by omega
theorem lt_16' (a k1 k2 k3 k4 k5 k6 k7 k8 k9 k10 k11 k12 k13 k14 k15 k16 : Nat) : a < a + 1 + k1 + k2 + k3 + k4 + k5 + k6 + k7 + k8 + k9 + k10 + k11 + k12 + k13 + k14 + k15 + k16 := by omega
theorem ne_16' (a k1 k2 k3 k4 k5 k6 k7 k8 k9 k10 k11 k12 k13 k14 k15 k16 : Nat) : (a = a + 1 + k1 + k2 + k3 + k4 + k5 + k6 + k7 + k8 + k9 + k10 + k11 + k12 + k13 + k14 + k15 + k16) = False := by simp; omega
theorem en_16' (a k1 k2 k3 k4 k5 k6 k7 k8 k9 k10 k11 k12 k13 k14 k15 k16 : Nat) : (a + 1 + k1 + k2 + k3 + k4 + k5 + k6 + k7 + k8 + k9 + k10 + k11 + k12 + k13 + k14 + k15 + k16 = a) = False := by simp; omega
theorem le_16' (a k1 k2 k3 k4 k5 k6 k7 k8 k9 k10 k11 k12 k13 k14 k15 k16 : Nat) : a ≤ a + k1 + k2 + k3 + k4 + k5 + k6 + k7 + k8 + k9 + k10 + k11 + k12 + k13 + k14 + k15 + k16 := by omega
theorem lt_17' (a k1 k2 k3 k4 k5 k6 k7 k8 k9 k10 k11 k12 k13 k14 k15 k16 k17 : Nat) : a < a + 1 + k1 + k2 + k3 + k4 + k5 + k6 + k7 + k8 + k9 + k10 + k11 + k12 + k13 + k14 + k15 + k16 + k17 := by omega
theorem ne_17' (a k1 k2 k3 k4 k5 k6 k7 k8 k9 k10 k11 k12 k13 k14 k15 k16 k17 : Nat) : (a = a + 1 + k1 + k2 + k3 + k4 + k5 + k6 + k7 + k8 + k9 + k10 + k11 + k12 + k13 + k14 + k15 + k16 + k17) = False := by simp; omega
theorem en_17' (a k1 k2 k3 k4 k5 k6 k7 k8 k9 k10 k11 k12 k13 k14 k15 k16 k17 : Nat) : (a + 1 + k1 + k2 + k3 + k4 + k5 + k6 + k7 + k8 + k9 + k10 + k11 + k12 + k13 + k14 + k15 + k16 + k17 = a) = False := by simp; omega
theorem le_17' (a k1 k2 k3 k4 k5 k6 k7 k8 k9 k10 k11 k12 k13 k14 k15 k16 k17 : Nat) : a ≤ a + k1 + k2 + k3 + k4 + k5 + k6 + k7 + k8 + k9 + k10 + k11 + k12 + k13 + k14 + k15 + k16 + k17 := by omega
theorem lt_18' (a k1 k2 k3 k4 k5 k6 k7 k8 k9 k10 k11 k12 k13 k14 k15 k16 k17 k18 : Nat) : a < a + 1 + k1 + k2 + k3 + k4 + k5 + k6 + k7 + k8 + k9 + k10 + k11 + k12 + k13 + k14 + k15 + k16 + k17 + k18 := by omega
theorem ne_18' (a k1 k2 k3 k4 k5 k6 k7 k8 k9 k10 k11 k12 k13 k14 k15 k16 k17 k18 : Nat) : (a = a + 1 + k1 + k2 + k3 + k4 + k5 + k6 + k7 + k8 + k9 + k10 + k11 + k12 + k13 + k14 + k15 + k16 + k17 + k18) = False := by simp; omega
theorem en_18' (a k1 k2 k3 k4 k5 k6 k7 k8 k9 k10 k11 k12 k13 k14 k15 k16 k17 k18 : Nat) : (a + 1 + k1 + k2 + k3 + k4 + k5 + k6 + k7 + k8 + k9 + k10 + k11 + k12 + k13 + k14 + k15 + k16 + k17 + k18 = a) = False := by simp; omega
theorem le_18' (a k1 k2 k3 k4 k5 k6 k7 k8 k9 k10 k11 k12 k13 k14 k15 k16 k17 k18 : Nat) : a ≤ a + k1 + k2 + k3 + k4 + k5 + k6 + k7 + k8 + k9 + k10 + k11 + k12 + k13 + k14 + k15 + k16 + k17 + k18 := by omega
theorem lt_19' (a k1 k2 k3 k4 k5 k6 k7 k8 k9 k10 k11 k12 k13 k14 k15 k16 k17 k18 k19 : Nat) : a < a + 1 + k1 + k2 + k3 + k4 + k5 + k6 + k7 + k8 + k9 + k10 + k11 + k12 + k13 + k14 + k15 + k16 + k17 + k18 + k19 := by omega
theorem ne_19' (a k1 k2 k3 k4 k5 k6 k7 k8 k9 k10 k11 k12 k13 k14 k15 k16 k17 k18 k19 : Nat) : (a = a + 1 + k1 + k2 + k3 + k4 + k5 + k6 + k7 + k8 + k9 + k10 + k11 + k12 + k13 + k14 + k15 + k16 + k17 + k18 + k19) = False := by simp; omega
theorem en_19' (a k1 k2 k3 k4 k5 k6 k7 k8 k9 k10 k11 k12 k13 k14 k15 k16 k17 k18 k19 : Nat) : (a + 1 + k1 + k2 + k3 + k4 + k5 + k6 + k7 + k8 + k9 + k10 + k11 + k12 + k13 + k14 + k15 + k16 + k17 + k18 + k19 = a) = False := by simp; omega
theorem le_19' (a k1 k2 k3 k4 k5 k6 k7 k8 k9 k10 k11 k12 k13 k14 k15 k16 k17 k18 k19 : Nat) : a ≤ a + k1 + k2 + k3 + k4 + k5 + k6 + k7 + k8 + k9 + k10 + k11 + k12 + k13 + k14 + k15 + k16 + k17 + k18 + k19 := by omega
theorem lt_20' (a k1 k2 k3 k4 k5 k6 k7 k8 k9 k10 k11 k12 k13 k14 k15 k16 k17 k18 k19 k20 : Nat) : a < a + 1 + k1 + k2 + k3 + k4 + k5 + k6 + k7 + k8 + k9 + k10 + k11 + k12 + k13 + k14 + k15 + k16 + k17 + k18 + k19 + k20 := by omega
theorem ne_20' (a k1 k2 k3 k4 k5 k6 k7 k8 k9 k10 k11 k12 k13 k14 k15 k16 k17 k18 k19 k20 : Nat) : (a = a + 1 + k1 + k2 + k3 + k4 + k5 + k6 + k7 + k8 + k9 + k10 + k11 + k12 + k13 + k14 + k15 + k16 + k17 + k18 + k19 + k20) = False := by simp; omega
theorem en_20' (a k1 k2 k3 k4 k5 k6 k7 k8 k9 k10 k11 k12 k13 k14 k15 k16 k17 k18 k19 k20 : Nat) : (a + 1 + k1 + k2 + k3 + k4 + k5 + k6 + k7 + k8 + k9 + k10 + k11 + k12 + k13 + k14 + k15 + k16 + k17 + k18 + k19 + k20 = a) = False := by simp; omega
theorem le_20' (a k1 k2 k3 k4 k5 k6 k7 k8 k9 k10 k11 k12 k13 k14 k15 k16 k17 k18 k19 k20 : Nat) : a ≤ a + k1 + k2 + k3 + k4 + k5 + k6 + k7 + k8 + k9 + k10 + k11 + k12 + k13 + k14 + k15 + k16 + k17 + k18 + k19 + k20 := by omega
attribute [local go_sem] lt_13' ne_13' en_13' le_13' lt_14' ne_14' en_14' le_14' lt_15' ne_15' en_15' le_15' lt_16' ne_16' en_16' le_16' lt_17' ne_17' en_17' le_17' lt_18' ne_18' en_18' le_18' lt_19' ne_19' en_19' le_19' lt_20' ne_20' en_20' le_20'
theorem Tens.below {w w' : World} (h : Tens w) (hb : Below w.heap.size w w') : Tens w' := by
  obtain ⟨os, d, rfl⟩ := ext_of_below hb
  exact h.ext os d
theorem meet_box {Wb X : World} {b : Nat} {v0 v1 v2 v3 : Value} (hb : Below Wb.heap.size Wb X) (hlt : b < X.heap.size) (h0 : X.cell? ⟨b, 0, none⟩ = some v0) (h1 : X.cell? ⟨b, 1, none⟩ = some v1) (h2 : X.cell? ⟨b, 2, none⟩ = some v2) (h3 : X.cell? ⟨b, 3, none⟩ = some v3) :
    ∃ (os : Array Obj) (d' b' : Nat), Value.pointer (some ⟨b, 0, none⟩) = .pointer (some ⟨b', 0, none⟩) ∧ X = ext Wb os d' ∧ b' < X.heap.size ∧ X.cell? ⟨b', 0, none⟩ = some v0 ∧ X.cell? ⟨b', 1, none⟩ = some v1 ∧ X.cell? ⟨b', 2, none⟩ = some v2 ∧ X.cell? ⟨b', 3, none⟩ = some v3 := by
  obtain ⟨os, d', he⟩ := ext_of_below hb
  exact ⟨os, d', b, rfl, he, hlt, h0, h1, h2, h3⟩
theorem p10_pos (j : Nat) : 0 < p10 j := Nat.pow_pos (by decide)
theorem p10_lt {j : Nat} (h : j ≤ 38) : p10 j < top2 := by
  have : p10 j ≤ 10 ^ 38 := Nat.pow_le_pow_right (by decide) h
  unfold top2
  omega
theorem near_lt {n t q : Nat} (hn : n < top4) (hq : q = n / t) (ht : 2 ≤ t) : q + 1 < top4 := by
  have h : n / t ≤ n / 2 := Nat.div_le_div_left ht (by decide)
  rw [← hq] at h
  unfold top4 at *
  omega
theorem two_steps {n a b q1 r1 q2 r2 : Nat} (hq1 : q1 = n / a) (hr1 : r1 = n % a) (hq2 : q2 = q1 / b) (hr2 : r2 = q1 % b) (ha : 0 < a) (hb : 0 < b) :
    q2 = n / (a * b) ∧ r2 * a + r1 = n % (a * b) ∧ r2 * a + r1 < a * b := by
  have h1 : n = q1 * a + r1 := by rw [hq1, hr1]; exact (Nat.div_add_mod' _ _).symm
  have h2 : q1 = q2 * b + r2 := by rw [hq2, hr2]; exact (Nat.div_add_mod' _ _).symm
  have l1 : r1 < a := by rw [hr1]; exact Nat.mod_lt _ ha
  have l2 : r2 < b := by rw [hr2]; exact Nat.mod_lt _ hb
  have h3 : r2 * a + r1 < a * b := by
    have : (r2 + 1) * a ≤ b * a := Nat.mul_le_mul_right _ l2
    rw [Nat.add_mul, Nat.one_mul] at this
    rw [Nat.mul_comm a b]; omega
  have h4 : n = q2 * (a * b) + (r2 * a + r1) := by
    have e : q1 * a = q2 * (a * b) + r2 * a := by rw [h2, Nat.add_mul, Nat.mul_assoc, Nat.mul_comm b a]
    omega
  obtain ⟨x, y⟩ := quo_rem h4 h3
  exact ⟨x, y, h3⟩
/-- what Narrow answers: the number or nought, and the error -/
def nw (m : Nat) : Nat := if m < top2 then m else 0
def ne (m : Nat) : Int := if m < top2 then 0 else 3
theorem narrow_any (m : Nat) (hm : m < top4) (w : World) :
    Calls Tryz.prog 112 #[L m] w fun e w' => e = .returned (.tuple #[W (nw m), .int .i64 (ne m)]) ∧ Below w.heap.size w w' := by
  by_cases h : m < top2
  · rw [show nw m = m from if_pos h, show ne m = 0 from if_pos h]; exact narrow_ok m h w
  · rw [show nw m = 0 from if_neg h, show ne m = 3 from if_neg h]; exact narrow_over m hm (by omega) w
theorem addLong_one (q : Nat) (hq : q + 1 < top4) (w : World) :
    Calls Tryz.prog 67 #[L q, .agg #[.int .u64 1, .int .u64 0, .int .u64 0, .int .u64 0]] w fun e w' => e = .returned (L (q + 1)) ∧ Below w.heap.size w w' := by
  have h1 : L 1 = .agg #[.int .u64 1, .int .u64 0, .int .u64 0, .int .u64 0] := rfl
  have := addLong_any q 1 (by omega) (by unfold top4; omega) hq w
  rw [h1] at this
  exact this
theorem odd_word {q : Nat} (h : q % 2 = 1) : (w0 q : Int) % 2 = 1 := by unfold w0; omega
theorem even_word {q : Nat} (h : q % 2 = 0) : (w0 q : Int) % 2 = 0 := by unfold w0; omega
/-- m is n / t to the nearest, ties to even -/
def NearIs (n t m : Nat) : Prop := (t < n % t + n % t ∧ m = n / t + 1) ∨ (n % t + n % t = t ∧ n / t % 2 = 1 ∧ m = n / t + 1) ∨ (n % t + n % t = t ∧ n / t % 2 = 0 ∧ m = n / t) ∨ (n % t + n % t < t ∧ m = n / t)
set_option maxHeartbeats 4000000 in
theorem round_core (n k f g m : Nat) (hcase0 : NearIs n (p10 f * p10 g) m) (hk : k ≤ 76) (hf : f = min k 38) (hg : g = k - f) (hn : n < top4) (w : World) (ht : Tens w) :
    Calls Tryz.prog 105 #[L n, .int .i64 k] w fun e w' => e = .returned (.tuple #[W (nw m), .int .i64 (ne m)]) ∧ Below w.heap.size w w' := by
  have hf38 : f ≤ 38 := by omega
  have hg38 : g ≤ 38 := by omega
  have hp : ∀ j, j ≤ 38 → 0 < p10 j ∧ p10 j < top2 := fun j hj => ⟨p10_pos j, p10_lt hj⟩
  obtain ⟨pf0, pf1⟩ := hp f hf38
  obtain ⟨pg0, pg1⟩ := hp g hg38
  obtain ⟨r1, hr1⟩ : ∃ a, a = n % p10 f := ⟨_, rfl⟩
  obtain ⟨q1, hq1⟩ : ∃ a, a = n / p10 f := ⟨_, rfl⟩
  obtain ⟨q2, hq2⟩ : ∃ a, a = q1 / p10 g := ⟨_, rfl⟩
  obtain ⟨r2, hr2⟩ : ∃ a, a = q1 % p10 g := ⟨_, rfl⟩
  have hq1b : q1 < top4 := by rw [hq1]; exact Nat.lt_of_le_of_lt (Nat.div_le_self _ _) hn
  have hT76 : p10 f * p10 g ≤ 10 ^ 76 := by unfold p10; rw [← Nat.pow_add]; exact Nat.pow_le_pow_right (by decide) (by omega)
  obtain ⟨eq, er, hrlt⟩ := two_steps hq1 hr1 hq2 hr2 pf0 pg0
  have h76 : 10 ^ 76 + 10 ^ 76 < top4 := by unfold top4; decide
  have hlr1 : r1 < p10 f := by rw [hr1]; exact Nat.mod_lt _ pf0
  have hlr2 : r2 < p10 g := by rw [hr2]; exact Nat.mod_lt _ pg0
  have hq2b : q2 < top4 := by rw [hq2]; exact Nat.lt_of_le_of_lt (Nat.div_le_self _ _) hq1b
  have hcase := hcase0
  unfold NearIs at hcase
  rw [← eq, ← er] at hcase
  have HC := Lib.hid hcase; have EQ := Lib.hid eq; have HRL := Lib.hid hrlt
  clear hcase0 hcase
  have hr2b : r2 < top2 := by omega
  have hr1b : r1 < top2 := by omega
  have hr1c : r1 < top4 := by unfold top2 top4 at *; omega
  have hm1 : r2 * p10 f < top4 := by omega
  have hsum : r2 * p10 f + r1 < top4 := by omega
  have hsum2 : r2 * p10 f + r1 + (r2 * p10 f + r1) < top4 := by omega
  have hpp : p10 f * p10 g < top4 := by omega
  have E1 : min (k : Int) 38 = (f : Int) := by omega
  have E2 : (k : Int) - (f : Int) = (g : Int) := by omega
  have HT : ∀ w', Below w.heap.size w w' → Tens w' := fun w' hb => ht.below hb
  have HT' := Lib.hid HT
  have HR1 := Lib.hid hr1; have HR2 := Lib.hid hr2; have HQ1 := Lib.hid hq1; have HQ2 := Lib.hid hq2
  clear hf hg hp HT ht hr1 hr2 hq1 hq2 eq er hrlt hT76 h76 hlr1 hlr2
  go_enter Tryz.func105, Tryz.ntmps105
  go_upto_region 7 with (first
    | (go_at_call 65; ((with_reducible refine (power_any f hf38 _ (HT'.out _ (by (repeat' (first | (with_reducible exact Below.refl _ _) | (with_reducible assumption) | (with_reducible refine Below.alloc ?_ ?_ _) | (with_reducible refine below_drewN ?_ _) | (with_reducible refine below_drew ?_) | (with_reducible refine below_ext ?_ ?_ _ _) | (with_reducible refine Below.setCell ?_ ?_ _) | (simp; done) | (simp; omega) | omega))))).mono ?_); rintro e w1 ⟨rfl, hb1⟩; obtain ⟨osA, dA, rfl⟩ := ext_of_below hb1; clear hb1))
    | (go_at_call 65; ((with_reducible refine (power_any g hg38 _ (HT'.out _ (by (repeat' (first | (with_reducible exact Below.refl _ _) | (with_reducible assumption) | (with_reducible refine Below.alloc ?_ ?_ _) | (with_reducible refine below_drewN ?_ _) | (with_reducible refine below_drew ?_) | (with_reducible refine below_ext ?_ ?_ _ _) | (with_reducible refine Below.setCell ?_ ?_ _) | (simp; done) | (simp; omega) | omega))))).mono ?_); rintro e w1 ⟨rfl, hb1⟩; obtain ⟨osB, dB, rfl⟩ := ext_of_below hb1; clear hb1))
    | (go_at_call 62; ((with_reducible refine (div_q n (p10 f) q1 r1 HQ1.out HR1.out hn pf0 pf1 _).mono ?_); rintro e w1 ⟨rfl, hb1⟩; obtain ⟨osC, dC, rfl⟩ := ext_of_below hb1; clear hb1))
    | (go_at_call 62; ((with_reducible refine (div_q q1 (p10 g) q2 r2 HQ2.out HR2.out hq1b pg0 pg1 _).mono ?_); rintro e w1 ⟨rfl, hb1⟩; obtain ⟨osD, dD, rfl⟩ := ext_of_below hb1; clear hb1)))
  go_cut [14] (fun s14 wx => ∃ (os : Array Obj) (d' b : Nat), s14 = .pointer (some ⟨b, 0, none⟩) ∧ wx = ext ((ext (((ext (((ext (ext ((w.alloc (.cells #[.int .u64 (w0 n : Int), .int .u64 (w1 n : Int), .int .u64 (w2 n : Int), .int .u64 (w3 n : Int)] 58)).alloc (.cells #[.int .u64 0, .int .u64 0] 30)) osA dA) osB dB).alloc (.cells #[.int .u64 (hi (p10 f) : Int), .int .u64 (lo (p10 f) : Int)] 30)).alloc (.cells #[.int .u64 (hi (p10 g) : Int), .int .u64 (lo (p10 g) : Int)] 30)) osC dC).alloc (.cells #[.int .u64 (w0 q2 : Int), .int .u64 (w1 q2 : Int), .int .u64 (w2 q2 : Int), .int .u64 (w3 q2 : Int)] 58)).alloc (.cells #[.int .u64 (hi r1 : Int), .int .u64 (lo r1 : Int)] 30)) osD dD).alloc (.cells #[.int .u64 (hi r2 : Int), .int .u64 (lo r2 : Int)] 30)) os d' ∧ b < wx.heap.size ∧ wx.cell? ⟨b, 0, none⟩ = some (.int .u64 (w0 (r2 * p10 f + r1) : Int)) ∧ wx.cell? ⟨b, 1, none⟩ = some (.int .u64 (w1 (r2 * p10 f + r1) : Int)) ∧ wx.cell? ⟨b, 2, none⟩ = some (.int .u64 (w2 (r2 * p10 f + r1) : Int)) ∧ wx.cell? ⟨b, 3, none⟩ = some (.int .u64 (w3 (r2 * p10 f + r1) : Int)))
  case first =>
    go_region_held3 (fun w' => w'.cell? ⟨w.heap.size + 1 + 1 + osA.size + osB.size + 1 + 1 + osC.size + 1 + 1 + osD.size, 0, none⟩ = some (.int .u64 (hi r2 : Int)) ∧ w'.cell? ⟨w.heap.size + 1 + 1 + osA.size + osB.size + 1 + 1 + osC.size + 1 + 1 + osD.size, 1, none⟩ = some (.int .u64 (lo r2 : Int)) ∧ w'.cell? ⟨w.heap.size + 1 + 1 + osA.size + osB.size, 0, none⟩ = some (.int .u64 (hi (p10 f) : Int)) ∧ w'.cell? ⟨w.heap.size + 1 + 1 + osA.size + osB.size, 1, none⟩ = some (.int .u64 (lo (p10 f) : Int)) ∧ w'.cell? ⟨w.heap.size + 1 + 1 + osA.size + osB.size + 1 + 1 + osC.size + 1, 0, none⟩ = some (.int .u64 (hi r1 : Int)) ∧ w'.cell? ⟨w.heap.size + 1 + 1 + osA.size + osB.size + 1 + 1 + osC.size + 1, 1, none⟩ = some (.int .u64 (lo r1 : Int))) (first | (simp [go_sem]; done) | go_keep) (first
      | (go_at_call 44; ((with_reducible refine (mul_any r2 (p10 f) hr2b pf1 _).mono ?_); rintro e w1 ⟨rfl, hb1⟩; obtain ⟨osE, dE, rfl⟩ := ext_of_below hb1; clear hb1))
      | (go_at_call 64; ((with_reducible refine (long_any r1 hr1b _).mono ?_); rintro e w1 ⟨rfl, hb1⟩; obtain ⟨osF, dF, rfl⟩ := ext_of_below hb1; clear hb1))
      | (go_at_call 67; ((with_reducible refine (addLong_any (r2 * p10 f) r1 hm1 hr1c hsum _).mono ?_); rintro e w1 ⟨rfl, hb1⟩; obtain ⟨osG, dG, rfl⟩ := ext_of_below hb1; clear hb1)))

    all_goals
      go_wp2_with fail
      go_meet
      exact meet_box (by (repeat' (first | (with_reducible exact Below.refl _ _) | (with_reducible assumption) | (with_reducible refine Below.alloc ?_ ?_ _) | (with_reducible refine below_drewN ?_ _) | (with_reducible refine below_drew ?_) | (with_reducible refine below_ext ?_ ?_ _ _) | (with_reducible refine Below.setCell ?_ ?_ _) | (simp; done) | (simp; omega) | omega))) (by first | (simp; done) | (simp; omega)) (by simp [go_sem]) (by simp [go_sem]) (by simp [go_sem]) (by simp [go_sem])
  case rest =>
    obtain ⟨osR, dR, b, rfl, rfl, hbl, c0, c1, c2, c3⟩ := hcut
    simp only [ext_size, World.size_alloc] at hbl
    have hbl1 := fun k => Nat.lt_add_right k hbl
    have hbl2 := fun k l => Nat.lt_add_right l (hbl1 k)
    go_wp2_with fail
    go_region_held3 (fun w' => w'.cell? ⟨b, 0, none⟩ = some (.int .u64 (w0 (r2 * p10 f + r1) : Int)) ∧ w'.cell? ⟨b, 1, none⟩ = some (.int .u64 (w1 (r2 * p10 f + r1) : Int)) ∧ w'.cell? ⟨b, 2, none⟩ = some (.int .u64 (w2 (r2 * p10 f + r1) : Int)) ∧ w'.cell? ⟨b, 3, none⟩ = some (.int .u64 (w3 (r2 * p10 f + r1) : Int)) ∧ w'.cell? ⟨w.heap.size + 1 + 1 + osA.size + osB.size, 0, none⟩ = some (.int .u64 (hi (p10 f) : Int)) ∧ w'.cell? ⟨w.heap.size + 1 + 1 + osA.size + osB.size, 1, none⟩ = some (.int .u64 (lo (p10 f) : Int)) ∧ w'.cell? ⟨w.heap.size + 1 + 1 + osA.size + osB.size + 1, 0, none⟩ = some (.int .u64 (hi (p10 g) : Int)) ∧ w'.cell? ⟨w.heap.size + 1 + 1 + osA.size + osB.size + 1, 1, none⟩ = some (.int .u64 (lo (p10 g) : Int))) (first | (simp [go_sem, c0, c1, c2, c3, hbl, hbl1, hbl2]; done) | go_keep) (first
      | (go_at_call 67; ((with_reducible refine (addLong_any (r2 * p10 f + r1) (r2 * p10 f + r1) hsum hsum hsum2 _).mono ?_); rintro e w1 ⟨rfl, hb1⟩; obtain ⟨osH, dH, rfl⟩ := ext_of_below hb1; clear hb1))
      | (go_at_call 44; ((with_reducible refine (mul_any (p10 f) (p10 g) pf1 pg1 _).mono ?_); rintro e w1 ⟨rfl, hb1⟩; obtain ⟨osI, dI, rfl⟩ := ext_of_below hb1; clear hb1))
      | (go_at_call 63; ((with_reducible refine (cmpLong_any (r2 * p10 f + r1 + (r2 * p10 f + r1)) (p10 f * p10 g) hsum2 hpp _).mono ?_); rintro e w1 ⟨rfl, hb1⟩; obtain ⟨osJ, dJ, rfl⟩ := ext_of_below hb1; clear hb1)))
    rcases HC.out with ⟨hA, rfl⟩ | ⟨hB, hodd, rfl⟩ | ⟨hC, hev, rfl⟩ | ⟨hD, rfl⟩
    · have hq2c := near_lt hn EQ.out (by have := HRL.out; omega)
      have hc := cmpv_gt hA
      clear hA
      go_wp2_with (first
        | (go_at_call 67; ((with_reducible refine (addLong_one q2 hq2c _).mono ?_); rintro e w1 ⟨rfl, hb1⟩; obtain ⟨osL, dL, rfl⟩ := ext_of_below hb1; clear hb1))
        | (go_at_call 112; ((with_reducible refine (narrow_any (q2 + 1) hq2c _).mono ?_); rintro e w1 ⟨rfl, hb1⟩; obtain ⟨osM, dM, rfl⟩ := ext_of_below hb1; clear hb1)))
      go_returns
      exact ⟨rfl, by (repeat' (first | (with_reducible exact Below.refl _ _) | (with_reducible assumption) | (with_reducible refine Below.alloc ?_ ?_ _) | (with_reducible refine below_drewN ?_ _) | (with_reducible refine below_drew ?_) | (with_reducible refine below_ext ?_ ?_ _ _) | (with_reducible refine Below.setCell ?_ ?_ _) | (simp; done) | (simp; omega) | omega))⟩
    · have hc : cmpv (r2 * p10 f + r1 + (r2 * p10 f + r1)) (p10 f * p10 g) = 0 := by rw [hB]; exact cmpv_eq _
      have hq2c := near_lt hn EQ.out (by have := HRL.out; omega)
      have ho := odd_word hodd
      clear hB hodd
      go_wp2_with (first
        | (go_at_call 67; ((with_reducible refine (addLong_one q2 hq2c _).mono ?_); rintro e w1 ⟨rfl, hb1⟩; obtain ⟨osL, dL, rfl⟩ := ext_of_below hb1; clear hb1))
        | (go_at_call 112; ((with_reducible refine (narrow_any (q2 + 1) hq2c _).mono ?_); rintro e w1 ⟨rfl, hb1⟩; obtain ⟨osM, dM, rfl⟩ := ext_of_below hb1; clear hb1)))
      go_returns
      exact ⟨rfl, by (repeat' (first | (with_reducible exact Below.refl _ _) | (with_reducible assumption) | (with_reducible refine Below.alloc ?_ ?_ _) | (with_reducible refine below_drewN ?_ _) | (with_reducible refine below_drew ?_) | (with_reducible refine below_ext ?_ ?_ _ _) | (with_reducible refine Below.setCell ?_ ?_ _) | (simp; done) | (simp; omega) | omega))⟩
    · have hc : cmpv (r2 * p10 f + r1 + (r2 * p10 f + r1)) (p10 f * p10 g) = 0 := by rw [hC]; exact cmpv_eq _
      have ho := even_word hev
      clear hC hev
      go_wp2_with (go_at_call 112; ((with_reducible refine (narrow_any m hq2b _).mono ?_); rintro e w1 ⟨rfl, hb1⟩; obtain ⟨osM, dM, rfl⟩ := ext_of_below hb1; clear hb1))
      go_returns
      exact ⟨rfl, by (repeat' (first | (with_reducible exact Below.refl _ _) | (with_reducible assumption) | (with_reducible refine Below.alloc ?_ ?_ _) | (with_reducible refine below_drewN ?_ _) | (with_reducible refine below_drew ?_) | (with_reducible refine below_ext ?_ ?_ _ _) | (with_reducible refine Below.setCell ?_ ?_ _) | (simp; done) | (simp; omega) | omega))⟩
    · have hc := cmpv_lt hD
      clear hD
      go_wp2_with (go_at_call 112; ((with_reducible refine (narrow_any m hq2b _).mono ?_); rintro e w1 ⟨rfl, hb1⟩; obtain ⟨osM, dM, rfl⟩ := ext_of_below hb1; clear hb1))
      go_returns
      exact ⟨rfl, by (repeat' (first | (with_reducible exact Below.refl _ _) | (with_reducible assumption) | (with_reducible refine Below.alloc ?_ ?_ _) | (with_reducible refine below_drewN ?_ _) | (with_reducible refine below_drew ?_) | (with_reducible refine below_ext ?_ ?_ _ _) | (with_reducible refine Below.setCell ?_ ?_ _) | (simp; done) | (simp; omega) | omega))⟩
theorem round_ok (n k m : Nat) (hm : NearIs n (p10 k) m) (hk : k ≤ 76) (hn : n < top4) (w : World) (ht : Tens w) :
    Calls Tryz.prog 105 #[L n, .int .i64 k] w fun e w' => e = .returned (.tuple #[W (nw m), .int .i64 (ne m)]) ∧ Below w.heap.size w w' := by
  have e : p10 (min k 38) * p10 (k - min k 38) = p10 k := by unfold p10; rw [← Nat.pow_add]; congr 1; omega
  exact round_core n k (min k 38) (k - min k 38) m (by rw [e]; exact hm) hk rfl rfl hn w ht
end Go.Proofs.YtjkallelniggpaaGreatDoor
