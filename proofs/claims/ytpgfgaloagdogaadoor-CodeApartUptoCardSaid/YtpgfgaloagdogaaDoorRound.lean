/-
  The contract of wide.Round: n / 10^k to the nearest, ties to even.
-/
import Derived.Test.YtpgfgaloagdogaaDoorDiv
import Derived.Deep.DeepCutAuto
namespace Go.Proofs.YtpgfgaloagdogaaDoor
open Go.RowKit Word
attribute [local go_sem] setCell_drewN cell?_ext frozen?_ext shape?_ext setCell_ext lt_1' ne_1' en_1' le_1' lt_2' ne_2' en_2' le_2' lt_3' ne_3' en_3' le_3' lt_4' ne_4' en_4' le_4' lt_5' ne_5' en_5' le_5' lt_6' ne_6' en_6' le_6' lt_7' ne_7' en_7' le_7' lt_8' ne_8' en_8' le_8' lt_9' ne_9' en_9' le_9' lt_10' ne_10' en_10' le_10' lt_11' ne_11' en_11' le_11' lt_12' ne_12' en_12' le_12'

theorem lt_13' (a k1 k2 k3 k4 k5 k6 k7 k8 k9 k10 k11 k12 k13 : Nat) : a < a + 1 + k1 + k2 + k3 + k4 + k5 + k6 + k7 + k8 + k9 + k10 + k11 + k12 + k13 := by omega
theorem ne_13' (a k1 k2 k3 k4 k5 k6 k7 k8 k9 k10 k11 k12 k13 : Nat) : (a = a + 1 + k1 + k2 + k3 + k4 + k5 + k6 + k7 + k8 + k9 + k10 + k11 + k12 + k13) = False := by simp; omega
theorem en_13' (a k1 k2 k3 k4 k5 k6 k7 k8 k9 k10 k11 k12 k13 : Nat) : (a + 1 + k1 + k2 + k3 + k4 + k5 + k6 + k7 + k8 + k9 + k10 + k11 + k12 + k13 = a) = False := by simp; omega
theorem le_13' (a k1 k2 k3 k4 k5 k6 k7 k8 k9 k10 k11 k12 k13 : Nat) : a ≤ a + k1 + k2 + k3 + k4 + k5 + k6 + k7 + k8 + k9 + k10 + k11 + k12 + k13 := by omega
theorem lt_14' (a k1 k2 k3 k4 k5 k6 k7 k8 k9 k10 k11 k12 k13 k14 : Nat) : a < a + 1 + k1 + k2 + k3 + k4 + k5 + k6 + k7 + k8 + k9 + k10 + k11 + k12 + k13 + k14 := by omega
theorem ne_14' (a k1 k2 k3 k4 k5 k6 k7 k8 k9 k10 k11 k12 k13 k14 : Nat) : (a = a + 1 + k1 + k2 + k3 + k4 + k5 + k6 + k7 + k8 + k9 + k10 + k11 + k12 + k13 + k14) = False := by simp; omega
theorem en_14' (a k1 k2 k3 k4 k5 k6 k7 k8 k9 k10 k11 k12 k13 k14 : Nat) : (a + 1 + k1 + k2 + k3 + k4 + k5 + k6 + k7 + k8 + k9 + k10 + k11 + k12 + k13 + k14 = a) = False := by simp; omega
theorem le_14' (a k1 k2 k3 k4 k5 k6 k7 k8 k9 k10 k11 k12 k13 k14 : Nat) : a ≤ a + k1 + k2 + k3 + k4 + k5 + k6 + k7 + k8 + k9 + k10 + k11 + k12 + k13 + k14 := by omega
theorem lt_15' (a k1 k2 k3 k4 k5 k6 k7 k8 k9 k10 k11 k12 k13 k14 k15 : Nat) : a < a + 1 + k1 + k2 + k3 + k4 + k5 + k6 + k7 + k8 + k9 + k10 + k11 + k12 + k13 + k14 + k15 := by omega
theorem ne_15' (a k1 k2 k3 k4 k5 k6 k7 k8 k9 k10 k11 k12 k13 k14 k15 : Nat) : (a = a + 1 + k1 + k2 + k3 + k4 + k5 + k6 + k7 + k8 + k9 + k10 + k11 + k12 + k13 + k14 + k15) = False := by simp; omega
theorem en_15' (a k1 k2 k3 k4 k5 k6 k7 k8 k9 k10 k11 k12 k13 k14 k15 : Nat) : (a + 1 + k1 + k2 + k3 + k4 + k5 + k6 + k7 + k8 + k9 + k10 + k11 + k12 + k13 + k14 + k15 = a) = False := by simp; omega
theorem le_15' (a k1 k2 k3 k4 k5 k6 k7 k8 k9 k10 k11 k12 k13 k14 k15 : Nat) : a ≤ a + k1 + k2 + k3 + k4 + k5 + k6 + k7 + k8 + k9 + k10 + k11 + k12 + k13 + k14 + k15 := by omega
theorem lt_16' (a k1 k2 k3 k4 k5 k6 k7 k8 k9 k10 k11 k12 k13 k14 k15 k16 : Nat) : a < a + 1 + k1 + k2 + k3 + k4 + k5 + k6 + k7 + k8 + k9 + k10 + k11 + k12 + k13 + k14 + k15 + k16 := by omega
theorem ne_16' (a k1 k2 k3 k4 k5 k6 k7 k8 k9 k10 k11 k12 k13 k14 k15 k16 : Nat) : (a = a + 1 + k1 + k2 + k3 + k4 + k5 + k6 + k7 + k8 + k9 + k10 + k11 + k12 + k13 + k14 + k15 + k16) = False := by simp; omega
theorem en_16' (a k1 k2 k3 k4 k5 k6 k7 k8 k9 k10 k11 k12 k13 k14 k15 k16 : Nat) : (a + 1 + k1 + k2 + k3 + k4 + k5 + k6 + k7 + k8 + k9 + k10 + k11 + k12 + k13 + k14 + k15 + k16 = a) = False := by simp; omega
theorem le_16' (a k1 k2 k3 k4 k5 k6 k7 k8 k9 k10 k11 k12 k13 k14 k15 k16 : Nat) : a ≤ a + k1 + k2 + k3 + k4 + k5 + k6 + k7 + k8 + k9 + k10 + k11 + k12 + k13 + k14 + k15 + k16 := by omega
theorem lt_17' (a k1 k2 k3 k4 k5 k6 k7 k8 k9 k10 k11 k12 k13 k14 k15 k16 k17 : Nat) : a < a + 1 + k1 + k2 + k3 + k4 + k5 + k6 + k7 + k8 + k9 + k10 + k11 + k12 + k13 + k14 + k15 + k16 + k17 := by omega
theorem ne_17' (a k1 k2 k3 k4 k5 k6 k7 k8 k9 k10 k11 k12 k13 k14 k15 k16 k17 : Nat) : (a = a + 1 + k1 + k2 + k3 + k4 + k5 + k6 + k7 + k8 + k9 + k10 + k11 + k12 + k13 + k14 + k15 + k16 + k17) = False := by simp; omega
theorem en_17' (a k1 k2 k3 k4 k5 k6 k7 k8 k9 k10 k11 k12 k13 k14 k15 k16 k17 : Nat) : (a + 1 + k1 + k2 + k3 + k4 + k5 + k6 + k7 + k8 + k9 + k10 + k11 + k12 + k13 + k14 + k15 + k16 + k17 = a) = False := by simp; omega
theorem le_17' (a k1 k2 k3 k4 k5 k6 k7 k8 k9 k10 k11 k12 k13 k14 k15 k16 k17 : Nat) : a ≤ a + k1 + k2 + k3 + k4 + k5 + k6 + k7 + k8 + k9 + k10 + k11 + k12 + k13 + k14 + k15 + k16 + k17 := by omega
theorem lt_18' (a k1 k2 k3 k4 k5 k6 k7 k8 k9 k10 k11 k12 k13 k14 k15 k16 k17 k18 : Nat) : a < a + 1 + k1 + k2 + k3 + k4 + k5 + k6 + k7 + k8 + k9 + k10 + k11 + k12 + k13 + k14 + k15 + k16 + k17 + k18 := by omega
theorem ne_18' (a k1 k2 k3 k4 k5 k6 k7 k8 k9 k10 k11 k12 k13 k14 k15 k16 k17 k18 : Nat) : (a = a + 1 + k1 + k2 + k3 + k4 + k5 + k6 + k7 + k8 + k9 + k10 + k11 + k12 + k13 + k14 + k15 + k16 + k17 + k18) = False := by simp; omega
theorem en_18' (a k1 k2 k3 k4 k5 k6 k7 k8 k9 k10 k11 k12 k13 k14 k15 k16 k17 k18 : Nat) : (a + 1 + k1 + k2 + k3 + k4 + k5 + k6 + k7 + k8 + k9 + k10 + k11 + k12 + k13 + k14 + k15 + k16 + k17 + k18 = a) = False := by simp; omega
theorem le_18' (a k1 k2 k3 k4 k5 k6 k7 k8 k9 k10 k11 k12 k13 k14 k15 k16 k17 k18 : Nat) : a ≤ a + k1 + k2 + k3 + k4 + k5 + k6 + k7 + k8 + k9 + k10 + k11 + k12 + k13 + k14 + k15 + k16 + k17 + k18 := by omega
theorem lt_19' (a k1 k2 k3 k4 k5 k6 k7 k8 k9 k10 k11 k12 k13 k14 k15 k16 k17 k18 k19 : Nat) : a < a + 1 + k1 + k2 + k3 + k4 + k5 + k6 + k7 + k8 + k9 + k10 + k11 + k12 + k13 + k14 + k15 + k16 + k17 + k18 + k19 := by omega
theorem ne_19' (a k1 k2 k3 k4 k5 k6 k7 k8 k9 k10 k11 k12 k13 k14 k15 k16 k17 k18 k19 : Nat) : (a = a + 1 + k1 + k2 + k3 + k4 + k5 + k6 + k7 + k8 + k9 + k10 + k11 + k12 + k13 + k14 + k15 + k16 + k17 + k18 + k19) = False := by simp; omega
theorem en_19' (a k1 k2 k3 k4 k5 k6 k7 k8 k9 k10 k11 k12 k13 k14 k15 k16 k17 k18 k19 : Nat) : (a + 1 + k1 + k2 + k3 + k4 + k5 + k6 + k7 + k8 + k9 + k10 + k11 + k12 + k13 + k14 + k15 + k16 + k17 + k18 + k19 = a) = False := by simp; omega
theorem le_19' (a k1 k2 k3 k4 k5 k6 k7 k8 k9 k10 k11 k12 k13 k14 k15 k16 k17 k18 k19 : Nat) : a ≤ a + k1 + k2 + k3 + k4 + k5 + k6 + k7 + k8 + k9 + k10 + k11 + k12 + k13 + k14 + k15 + k16 + k17 + k18 + k19 := by omega
theorem lt_20' (a k1 k2 k3 k4 k5 k6 k7 k8 k9 k10 k11 k12 k13 k14 k15 k16 k17 k18 k19 k20 : Nat) : a < a + 1 + k1 + k2 + k3 + k4 + k5 + k6 + k7 + k8 + k9 + k10 + k11 + k12 + k13 + k14 + k15 + k16 + k17 + k18 + k19 + k20 := by omega
theorem ne_20' (a k1 k2 k3 k4 k5 k6 k7 k8 k9 k10 k11 k12 k13 k14 k15 k16 k17 k18 k19 k20 : Nat) : (a = a + 1 + k1 + k2 + k3 + k4 + k5 + k6 + k7 + k8 + k9 + k10 + k11 + k12 + k13 + k14 + k15 + k16 + k17 + k18 + k19 + k20) = False := by simp; omega
theorem en_20' (a k1 k2 k3 k4 k5 k6 k7 k8 k9 k10 k11 k12 k13 k14 k15 k16 k17 k18 k19 k20 : Nat) : (a + 1 + k1 + k2 + k3 + k4 + k5 + k6 + k7 + k8 + k9 + k10 + k11 + k12 + k13 + k14 + k15 + k16 + k17 + k18 + k19 + k20 = a) = False := by simp; omega
theorem le_20' (a k1 k2 k3 k4 k5 k6 k7 k8 k9 k10 k11 k12 k13 k14 k15 k16 k17 k18 k19 k20 : Nat) : a ≤ a + k1 + k2 + k3 + k4 + k5 + k6 + k7 + k8 + k9 + k10 + k11 + k12 + k13 + k14 + k15 + k16 + k17 + k18 + k19 + k20 := by omega
attribute [local go_sem] lt_13' ne_13' en_13' le_13' lt_14' ne_14' en_14' le_14' lt_15' ne_15' en_15' le_15' lt_16' ne_16' en_16' le_16' lt_17' ne_17' en_17' le_17' lt_18' ne_18' en_18' le_18' lt_19' ne_19' en_19' le_19' lt_20' ne_20' en_20' le_20'
theorem Tens.below {w w' : World} (h : Tens w) (hb : Below w.heap.size w w') : Tens w' := by
  obtain ⟨os, d, rfl⟩ := ext_of_below hb
  exact h.ext os d
theorem meet_box {Wb X : World} {b : Nat} {v0 v1 v2 v3 : Value} (hb : Below Wb.heap.size Wb X) (hlt : b < X.heap.size) (h0 : X.cell? ⟨b, 0, none⟩ = some v0) (h1 : X.cell? ⟨b, 1, none⟩ = some v1) (h2 : X.cell? ⟨b, 2, none⟩ = some v2) (h3 : X.cell? ⟨b, 3, none⟩ = some v3) :
    ∃ (os : Array Obj) (d' b' : Nat), Value.pointer (some ⟨b, 0, none⟩) = .pointer (some ⟨b', 0, none⟩) ∧ X = ext Wb os d' ∧ b' < X.heap.size ∧ X.cell? ⟨b', 0, none⟩ = some v0 ∧ X.cell? ⟨b', 1, none⟩ = some v1 ∧ X.cell? ⟨b', 2, none⟩ = some v2 ∧ X.cell? ⟨b', 3, none⟩ = some v3 := by
  obtain ⟨os, d', he⟩ := ext_of_below hb
  exact ⟨os, d', b, rfl, he, hlt, h0, h1, h2, h3⟩
theorem p10_pos (j : Nat) : 0 < p10 j := Nat.pow_pos (by decide)
theorem p10_lt {j : Nat} (h : j ≤ 38) : p10 j < top2 := by
  have : p10 j ≤ 10 ^ 38 := Nat.pow_le_pow_right (by decide) h
  unfold top2
  omega
theorem near_lt {n t q : Nat} (hn : n < top4) (hq : q = n / t) (ht : 2 ≤ t) : q + 1 < top4 := by
  have h : n / t ≤ n / 2 := Nat.div_le_div_left ht (by decide)
  rw [← hq] at h
  unfold top4 at *
  omega
theorem two_steps {n a b q1 r1 q2 r2 : Nat} (hq1 : q1 = n / a) (hr1 : r1 = n % a) (hq2 : q2 = q1 / b) (hr2 : r2 = q1 % b) (ha : 0 < a) (hb : 0 < b) :
    q2 = n / (a * b) ∧ r2 * a + r1 = n % (a * b) ∧ r2 * a + r1 < a * b := by
  have h1 : n = q1 * a + r1 := by rw [hq1, hr1]; exact (Nat.div_add_mod' _ _).symm
  have h2 : q1 = q2 * b + r2 := by rw [hq2, hr2]; exact (Nat.div_add_mod' _ _).symm
  have l1 : r1 < a := by rw [hr1]; exact Nat.mod_lt _ ha
  have l2 : r2 < b := by rw [hr2]; exact Nat.mod_lt _ hb
  have h3 : r2 * a + r1 < a * b := by
    have : (r2 + 1) * a ≤ b * a := Nat.mul_le_mul_right _ l2
    rw [Nat.add_mul, Nat.one_mul] at this
    rw [Nat.mul_comm a b]; omega
  have h4 : n = q2 * (a * b) + (r2 * a + r1) := by
    have e : q1 * a = q2 * (a * b) + r2 * a := by rw [h2, Nat.add_mul, Nat.mul_assoc, Nat.mul_comm b a]
    omega
  obtain ⟨x, y⟩ := quo_rem h4 h3
  exact ⟨x, y, h3⟩
/-- what Narrow answers: the number or nought, and the error -/
def nw (m : Nat) : Nat := if m < top2 then m else 0
def ne (m : Nat) : Int := if m < top2 then 0 else 3
theorem addLong_one (q : Nat) (hq : q + 1 < top4) (w : World) :
    Calls Tryd.prog 101 #[L q, .agg #[.int .u64 1, .int .u64 0, .int .u64 0, .int .u64 0]] w fun e w' => e = .returned (L (q + 1)) ∧ Below w.heap.size w w' := by
  have h1 : L 1 = .agg #[.int .u64 1, .int .u64 0, .int .u64 0, .int .u64 0] := rfl
  have := addLong_any q 1 (by omega) (by unfold top4; omega) hq w
  rw [h1] at this
  exact this
theorem odd_word {q : Nat} (h : q % 2 = 1) : (w0 q : Int) % 2 = 1 := by unfold w0; omega
theorem even_word {q : Nat} (h : q % 2 = 0) : (w0 q : Int) % 2 = 0 := by unfold w0; omega
/-- m is n / t to the nearest, ties to even -/
def NearIs (n t m : Nat) : Prop := (t < n % t + n % t ∧ m = n / t + 1) ∨ (n % t + n % t = t ∧ n / t % 2 = 1 ∧ m = n / t + 1) ∨ (n % t + n % t = t ∧ n / t % 2 = 0 ∧ m = n / t) ∨ (n % t + n % t < t ∧ m = n / t)
end Go.Proofs.YtpgfgaloagdogaaDoor
