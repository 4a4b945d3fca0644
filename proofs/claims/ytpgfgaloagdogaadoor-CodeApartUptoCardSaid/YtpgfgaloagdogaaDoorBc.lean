/-
  The contracts of wide.Digits and wide.Trim.
  The statements' own first question of package wide (a carry, and a rounding) is answered yes.
  Two numbers of four words are compared word by word.
  Contracts of sums, products and quotients with their results by name, for the statement that a difference undoes a sum.
  The walk of the statement on powers of ten, over every number and every count.
-/
import Derived.Test.YtpgfgaloagdogaaDoorRound
import Derived.Test.YtpgfgaloagdogaaDoorBa
import Derived.ChangeKeysEq
namespace Go.Proofs.YtpgfgaloagdogaaDoor
open Go.RowKit Word
attribute [local go_sem] setCell_drewN cell?_ext frozen?_ext shape?_ext setCell_ext lt_1' ne_1' en_1' le_1' lt_2' ne_2' en_2' le_2' lt_3' ne_3' en_3' le_3' lt_4' ne_4' en_4' le_4' lt_5' ne_5' en_5' le_5' lt_6' ne_6' en_6' le_6' lt_7' ne_7' en_7' le_7' lt_8' ne_8' en_8' le_8' lt_9' ne_9' en_9' le_9' lt_10' ne_10' en_10' le_10' lt_11' ne_11' en_11' le_11' lt_12' ne_12' en_12' le_12'

theorem ext_drew3 (w : World) (a b c : Array Obj) (i j k : Nat) : ext (ext (ext w a i).drew b j) c k = ext w (a ++ b ++ c) k := by
  have : (ext w a i).drew = ext w a (i + 1) := rfl
  rw [this]; exact ext_ext3 _ _ _ _ _ _ _
/-- how many decimal digits, at least one -/
def nd (a : Nat) : Nat := max 1 (Num.dg a).length
theorem nd_is {a k : Nat} (hk : 1 ≤ k) (h1 : k = 1 ∨ 10 ^ (k - 1) ≤ a) (h2 : a < 10 ^ k) : nd a = k := by
  unfold nd
  have e1 : (Num.dg a).length ≤ k := Num.dg_len_le.2 h2
  rcases h1 with h1 | h1
  · omega
  · have := Num.dg_len_lt.2 h1
    omega
theorem top_lt : top2 < 10 ^ 39 := by unfold top2; decide
theorem div_ten (n q r : Nat) (hq : q = n / 10) (hr : r = n % 10) (hn : n < top4) (w : World) :
    Calls Tryd.prog 92 #[L n, .int .u64 10] w fun e w' => e = .returned (.tuple #[L q, .int .u64 (r : Int)]) ∧ Below w.heap.size w w' := by
  subst hq
  exact divWord_any n 10 r hr hn (by omega) (by omega) w
theorem two_words {q : Nat} (h : q < top2) : w1 q = hi q ∧ w0 q = lo q := by
  unfold w1 w0 hi lo top2 at *; omega
theorem word_ne {b : Nat} (h : 0 < b) : ((hi b : Int) == 0) = false ∨ (((hi b : Int) == 0) = true ∧ ((lo b : Int) == 0) = false) := by
  have h := hilo b
  by_cases h1 : hi b = 0
  · exact .inr ⟨by rw [h1]; rfl, beq_eq_false_iff_ne.2 (by omega)⟩
  · exact .inl (beq_eq_false_iff_ne.2 (by omega))
end Go.Proofs.YtpgfgaloagdogaaDoor
namespace Go.Proofs.YtpgfgaloagdogaaDoor
open Go.RowKit Word
attribute [local go_sem] setCell_drewN cell?_ext frozen?_ext shape?_ext setCell_ext lt_1' ne_1' en_1' le_1' lt_2' ne_2' en_2' le_2' lt_3' ne_3' en_3' le_3' lt_4' ne_4' en_4' le_4' lt_5' ne_5' en_5' le_5' lt_6' ne_6' en_6' le_6' lt_7' ne_7' en_7' le_7' lt_8' ne_8' en_8' le_8' lt_9' ne_9' en_9' le_9' lt_10' ne_10' en_10' le_10' lt_11' ne_11' en_11' le_11' lt_12' ne_12' en_12' le_12'

end Go.Proofs.YtpgfgaloagdogaaDoor
namespace Go.Proofs.YtpgfgaloagdogaaDoor
open Go.RowKit Word
theorem word_info : (Tryd.prog.info? 37).map (fun i => (i.zero, i.size, i.bytes)) = some (some (.int .u64 0), 1, 8) := by kernel_rfl
theorem word_cells : Tryd.prog.cellsOf 37 = 1 := by kernel_rfl
theorem long_eqIn (a0 a1 a2 a3 b0 b1 b2 b3 : Int) (w : World) :
    (Op.equalIn 10000 109 (.agg #[.int .u64 a0, .int .u64 a1, .int .u64 a2, .int .u64 a3]) (.agg #[.int .u64 b0, .int .u64 b1, .int .u64 b2, .int .u64 b3])).run Tryd.prog w = .ok (a0 == b0 && (a1 == b1 && (a2 == b2 && a3 == b3))) w := by
  obtain ⟨i, hi, _, _, _⟩ := info_parts word_info
  rw [run_equalIn_array w 9999 _ _ Tryd.underlying109 hi, word_cells]
  simp [Op.eqItems, List.range_succ, part, go_sem]
  by_cases h0 : a0 = b0 <;> by_cases h1 : a1 = b1 <;> by_cases h2 : a2 = b2 <;> by_cases h3 : a3 = b3 <;> simp [h0, h1, h2, h3]
end Go.Proofs.YtpgfgaloagdogaaDoor
namespace Go.Proofs.YtpgfgaloagdogaaDoor
open Go.RowKit Word
attribute [local go_sem] setCell_drewN cell?_ext frozen?_ext shape?_ext setCell_ext lt_1' ne_1' en_1' le_1' lt_2' ne_2' en_2' le_2' lt_3' ne_3' en_3' le_3' lt_4' ne_4' en_4' le_4' lt_5' ne_5' en_5' le_5' lt_6' ne_6' en_6' le_6' lt_7' ne_7' en_7' le_7' lt_8' ne_8' en_8' le_8' lt_9' ne_9' en_9' le_9' lt_10' ne_10' en_10' le_10' lt_11' ne_11' en_11' le_11' lt_12' ne_12' en_12' le_12'

theorem lt_21' (a k1 k2 k3 k4 k5 k6 k7 k8 k9 k10 k11 k12 k13 k14 k15 k16 k17 k18 k19 k20 k21 : Nat) : a < a + 1 + k1 + k2 + k3 + k4 + k5 + k6 + k7 + k8 + k9 + k10 + k11 + k12 + k13 + k14 + k15 + k16 + k17 + k18 + k19 + k20 + k21 := by omega
theorem ne_21' (a k1 k2 k3 k4 k5 k6 k7 k8 k9 k10 k11 k12 k13 k14 k15 k16 k17 k18 k19 k20 k21 : Nat) : (a = a + 1 + k1 + k2 + k3 + k4 + k5 + k6 + k7 + k8 + k9 + k10 + k11 + k12 + k13 + k14 + k15 + k16 + k17 + k18 + k19 + k20 + k21) = False := by simp; omega
theorem en_21' (a k1 k2 k3 k4 k5 k6 k7 k8 k9 k10 k11 k12 k13 k14 k15 k16 k17 k18 k19 k20 k21 : Nat) : (a + 1 + k1 + k2 + k3 + k4 + k5 + k6 + k7 + k8 + k9 + k10 + k11 + k12 + k13 + k14 + k15 + k16 + k17 + k18 + k19 + k20 + k21 = a) = False := by simp; omega
theorem le_21' (a k1 k2 k3 k4 k5 k6 k7 k8 k9 k10 k11 k12 k13 k14 k15 k16 k17 k18 k19 k20 k21 : Nat) : a ≤ a + k1 + k2 + k3 + k4 + k5 + k6 + k7 + k8 + k9 + k10 + k11 + k12 + k13 + k14 + k15 + k16 + k17 + k18 + k19 + k20 + k21 := by omega
theorem lt_22' (a k1 k2 k3 k4 k5 k6 k7 k8 k9 k10 k11 k12 k13 k14 k15 k16 k17 k18 k19 k20 k21 k22 : Nat) : a < a + 1 + k1 + k2 + k3 + k4 + k5 + k6 + k7 + k8 + k9 + k10 + k11 + k12 + k13 + k14 + k15 + k16 + k17 + k18 + k19 + k20 + k21 + k22 := by omega
theorem ne_22' (a k1 k2 k3 k4 k5 k6 k7 k8 k9 k10 k11 k12 k13 k14 k15 k16 k17 k18 k19 k20 k21 k22 : Nat) : (a = a + 1 + k1 + k2 + k3 + k4 + k5 + k6 + k7 + k8 + k9 + k10 + k11 + k12 + k13 + k14 + k15 + k16 + k17 + k18 + k19 + k20 + k21 + k22) = False := by simp; omega
theorem en_22' (a k1 k2 k3 k4 k5 k6 k7 k8 k9 k10 k11 k12 k13 k14 k15 k16 k17 k18 k19 k20 k21 k22 : Nat) : (a + 1 + k1 + k2 + k3 + k4 + k5 + k6 + k7 + k8 + k9 + k10 + k11 + k12 + k13 + k14 + k15 + k16 + k17 + k18 + k19 + k20 + k21 + k22 = a) = False := by simp; omega
theorem le_22' (a k1 k2 k3 k4 k5 k6 k7 k8 k9 k10 k11 k12 k13 k14 k15 k16 k17 k18 k19 k20 k21 k22 : Nat) : a ≤ a + k1 + k2 + k3 + k4 + k5 + k6 + k7 + k8 + k9 + k10 + k11 + k12 + k13 + k14 + k15 + k16 + k17 + k18 + k19 + k20 + k21 + k22 := by omega
theorem lt_23' (a k1 k2 k3 k4 k5 k6 k7 k8 k9 k10 k11 k12 k13 k14 k15 k16 k17 k18 k19 k20 k21 k22 k23 : Nat) : a < a + 1 + k1 + k2 + k3 + k4 + k5 + k6 + k7 + k8 + k9 + k10 + k11 + k12 + k13 + k14 + k15 + k16 + k17 + k18 + k19 + k20 + k21 + k22 + k23 := by omega
theorem ne_23' (a k1 k2 k3 k4 k5 k6 k7 k8 k9 k10 k11 k12 k13 k14 k15 k16 k17 k18 k19 k20 k21 k22 k23 : Nat) : (a = a + 1 + k1 + k2 + k3 + k4 + k5 + k6 + k7 + k8 + k9 + k10 + k11 + k12 + k13 + k14 + k15 + k16 + k17 + k18 + k19 + k20 + k21 + k22 + k23) = False := by simp; omega
theorem en_23' (a k1 k2 k3 k4 k5 k6 k7 k8 k9 k10 k11 k12 k13 k14 k15 k16 k17 k18 k19 k20 k21 k22 k23 : Nat) : (a + 1 + k1 + k2 + k3 + k4 + k5 + k6 + k7 + k8 + k9 + k10 + k11 + k12 + k13 + k14 + k15 + k16 + k17 + k18 + k19 + k20 + k21 + k22 + k23 = a) = False := by simp; omega
theorem le_23' (a k1 k2 k3 k4 k5 k6 k7 k8 k9 k10 k11 k12 k13 k14 k15 k16 k17 k18 k19 k20 k21 k22 k23 : Nat) : a ≤ a + k1 + k2 + k3 + k4 + k5 + k6 + k7 + k8 + k9 + k10 + k11 + k12 + k13 + k14 + k15 + k16 + k17 + k18 + k19 + k20 + k21 + k22 + k23 := by omega
theorem lt_24' (a k1 k2 k3 k4 k5 k6 k7 k8 k9 k10 k11 k12 k13 k14 k15 k16 k17 k18 k19 k20 k21 k22 k23 k24 : Nat) : a < a + 1 + k1 + k2 + k3 + k4 + k5 + k6 + k7 + k8 + k9 + k10 + k11 + k12 + k13 + k14 + k15 + k16 + k17 + k18 + k19 + k20 + k21 + k22 + k23 + k24 := by omega
theorem ne_24' (a k1 k2 k3 k4 k5 k6 k7 k8 k9 k10 k11 k12 k13 k14 k15 k16 k17 k18 k19 k20 k21 k22 k23 k24 : Nat) : (a = a + 1 + k1 + k2 + k3 + k4 + k5 + k6 + k7 + k8 + k9 + k10 + k11 + k12 + k13 + k14 + k15 + k16 + k17 + k18 + k19 + k20 + k21 + k22 + k23 + k24) = False := by simp; omega
theorem en_24' (a k1 k2 k3 k4 k5 k6 k7 k8 k9 k10 k11 k12 k13 k14 k15 k16 k17 k18 k19 k20 k21 k22 k23 k24 : Nat) : (a + 1 + k1 + k2 + k3 + k4 + k5 + k6 + k7 + k8 + k9 + k10 + k11 + k12 + k13 + k14 + k15 + k16 + k17 + k18 + k19 + k20 + k21 + k22 + k23 + k24 = a) = False := by simp; omega
theorem le_24' (a k1 k2 k3 k4 k5 k6 k7 k8 k9 k10 k11 k12 k13 k14 k15 k16 k17 k18 k19 k20 k21 k22 k23 k24 : Nat) : a ≤ a + k1 + k2 + k3 + k4 + k5 + k6 + k7 + k8 + k9 + k10 + k11 + k12 + k13 + k14 + k15 + k16 + k17 + k18 + k19 + k20 + k21 + k22 + k23 + k24 := by omega
theorem lt_25' (a k1 k2 k3 k4 k5 k6 k7 k8 k9 k10 k11 k12 k13 k14 k15 k16 k17 k18 k19 k20 k21 k22 k23 k24 k25 : Nat) : a < a + 1 + k1 + k2 + k3 + k4 + k5 + k6 + k7 + k8 + k9 + k10 + k11 + k12 + k13 + k14 + k15 + k16 + k17 + k18 + k19 + k20 + k21 + k22 + k23 + k24 + k25 := by omega
theorem ne_25' (a k1 k2 k3 k4 k5 k6 k7 k8 k9 k10 k11 k12 k13 k14 k15 k16 k17 k18 k19 k20 k21 k22 k23 k24 k25 : Nat) : (a = a + 1 + k1 + k2 + k3 + k4 + k5 + k6 + k7 + k8 + k9 + k10 + k11 + k12 + k13 + k14 + k15 + k16 + k17 + k18 + k19 + k20 + k21 + k22 + k23 + k24 + k25) = False := by simp; omega
theorem en_25' (a k1 k2 k3 k4 k5 k6 k7 k8 k9 k10 k11 k12 k13 k14 k15 k16 k17 k18 k19 k20 k21 k22 k23 k24 k25 : Nat) : (a + 1 + k1 + k2 + k3 + k4 + k5 + k6 + k7 + k8 + k9 + k10 + k11 + k12 + k13 + k14 + k15 + k16 + k17 + k18 + k19 + k20 + k21 + k22 + k23 + k24 + k25 = a) = False := by simp; omega
theorem le_25' (a k1 k2 k3 k4 k5 k6 k7 k8 k9 k10 k11 k12 k13 k14 k15 k16 k17 k18 k19 k20 k21 k22 k23 k24 k25 : Nat) : a ≤ a + k1 + k2 + k3 + k4 + k5 + k6 + k7 + k8 + k9 + k10 + k11 + k12 + k13 + k14 + k15 + k16 + k17 + k18 + k19 + k20 + k21 + k22 + k23 + k24 + k25 := by omega
theorem lt_26' (a k1 k2 k3 k4 k5 k6 k7 k8 k9 k10 k11 k12 k13 k14 k15 k16 k17 k18 k19 k20 k21 k22 k23 k24 k25 k26 : Nat) : a < a + 1 + k1 + k2 + k3 + k4 + k5 + k6 + k7 + k8 + k9 + k10 + k11 + k12 + k13 + k14 + k15 + k16 + k17 + k18 + k19 + k20 + k21 + k22 + k23 + k24 + k25 + k26 := by omega
theorem ne_26' (a k1 k2 k3 k4 k5 k6 k7 k8 k9 k10 k11 k12 k13 k14 k15 k16 k17 k18 k19 k20 k21 k22 k23 k24 k25 k26 : Nat) : (a = a + 1 + k1 + k2 + k3 + k4 + k5 + k6 + k7 + k8 + k9 + k10 + k11 + k12 + k13 + k14 + k15 + k16 + k17 + k18 + k19 + k20 + k21 + k22 + k23 + k24 + k25 + k26) = False := by simp; omega
theorem en_26' (a k1 k2 k3 k4 k5 k6 k7 k8 k9 k10 k11 k12 k13 k14 k15 k16 k17 k18 k19 k20 k21 k22 k23 k24 k25 k26 : Nat) : (a + 1 + k1 + k2 + k3 + k4 + k5 + k6 + k7 + k8 + k9 + k10 + k11 + k12 + k13 + k14 + k15 + k16 + k17 + k18 + k19 + k20 + k21 + k22 + k23 + k24 + k25 + k26 = a) = False := by simp; omega
theorem le_26' (a k1 k2 k3 k4 k5 k6 k7 k8 k9 k10 k11 k12 k13 k14 k15 k16 k17 k18 k19 k20 k21 k22 k23 k24 k25 k26 : Nat) : a ≤ a + k1 + k2 + k3 + k4 + k5 + k6 + k7 + k8 + k9 + k10 + k11 + k12 + k13 + k14 + k15 + k16 + k17 + k18 + k19 + k20 + k21 + k22 + k23 + k24 + k25 + k26 := by omega
theorem lt_27' (a k1 k2 k3 k4 k5 k6 k7 k8 k9 k10 k11 k12 k13 k14 k15 k16 k17 k18 k19 k20 k21 k22 k23 k24 k25 k26 k27 : Nat) : a < a + 1 + k1 + k2 + k3 + k4 + k5 + k6 + k7 + k8 + k9 + k10 + k11 + k12 + k13 + k14 + k15 + k16 + k17 + k18 + k19 + k20 + k21 + k22 + k23 + k24 + k25 + k26 + k27 := by omega
theorem ne_27' (a k1 k2 k3 k4 k5 k6 k7 k8 k9 k10 k11 k12 k13 k14 k15 k16 k17 k18 k19 k20 k21 k22 k23 k24 k25 k26 k27 : Nat) : (a = a + 1 + k1 + k2 + k3 + k4 + k5 + k6 + k7 + k8 + k9 + k10 + k11 + k12 + k13 + k14 + k15 + k16 + k17 + k18 + k19 + k20 + k21 + k22 + k23 + k24 + k25 + k26 + k27) = False := by simp; omega
theorem en_27' (a k1 k2 k3 k4 k5 k6 k7 k8 k9 k10 k11 k12 k13 k14 k15 k16 k17 k18 k19 k20 k21 k22 k23 k24 k25 k26 k27 : Nat) : (a + 1 + k1 + k2 + k3 + k4 + k5 + k6 + k7 + k8 + k9 + k10 + k11 + k12 + k13 + k14 + k15 + k16 + k17 + k18 + k19 + k20 + k21 + k22 + k23 + k24 + k25 + k26 + k27 = a) = False := by simp; omega
theorem le_27' (a k1 k2 k3 k4 k5 k6 k7 k8 k9 k10 k11 k12 k13 k14 k15 k16 k17 k18 k19 k20 k21 k22 k23 k24 k25 k26 k27 : Nat) : a ≤ a + k1 + k2 + k3 + k4 + k5 + k6 + k7 + k8 + k9 + k10 + k11 + k12 + k13 + k14 + k15 + k16 + k17 + k18 + k19 + k20 + k21 + k22 + k23 + k24 + k25 + k26 + k27 := by omega
theorem lt_28' (a k1 k2 k3 k4 k5 k6 k7 k8 k9 k10 k11 k12 k13 k14 k15 k16 k17 k18 k19 k20 k21 k22 k23 k24 k25 k26 k27 k28 : Nat) : a < a + 1 + k1 + k2 + k3 + k4 + k5 + k6 + k7 + k8 + k9 + k10 + k11 + k12 + k13 + k14 + k15 + k16 + k17 + k18 + k19 + k20 + k21 + k22 + k23 + k24 + k25 + k26 + k27 + k28 := by omega
theorem ne_28' (a k1 k2 k3 k4 k5 k6 k7 k8 k9 k10 k11 k12 k13 k14 k15 k16 k17 k18 k19 k20 k21 k22 k23 k24 k25 k26 k27 k28 : Nat) : (a = a + 1 + k1 + k2 + k3 + k4 + k5 + k6 + k7 + k8 + k9 + k10 + k11 + k12 + k13 + k14 + k15 + k16 + k17 + k18 + k19 + k20 + k21 + k22 + k23 + k24 + k25 + k26 + k27 + k28) = False := by simp; omega
theorem en_28' (a k1 k2 k3 k4 k5 k6 k7 k8 k9 k10 k11 k12 k13 k14 k15 k16 k17 k18 k19 k20 k21 k22 k23 k24 k25 k26 k27 k28 : Nat) : (a + 1 + k1 + k2 + k3 + k4 + k5 + k6 + k7 + k8 + k9 + k10 + k11 + k12 + k13 + k14 + k15 + k16 + k17 + k18 + k19 + k20 + k21 + k22 + k23 + k24 + k25 + k26 + k27 + k28 = a) = False := by simp; omega
theorem le_28' (a k1 k2 k3 k4 k5 k6 k7 k8 k9 k10 k11 k12 k13 k14 k15 k16 k17 k18 k19 k20 k21 k22 k23 k24 k25 k26 k27 k28 : Nat) : a ≤ a + k1 + k2 + k3 + k4 + k5 + k6 + k7 + k8 + k9 + k10 + k11 + k12 + k13 + k14 + k15 + k16 + k17 + k18 + k19 + k20 + k21 + k22 + k23 + k24 + k25 + k26 + k27 + k28 := by omega
theorem mul_is (a b P : Nat) (hP : P = a * b) (ha : a < top2) (hb : b < top2) (w : World) :
    Calls Tryd.prog 99 #[W a, W b] w fun e w' => e = .returned (L P) ∧ Below w.heap.size w w' := by
  subst hP; exact mul_any a b ha hb w
theorem div_nought (n b : Nat) (hb : b = 0) (w : World) :
    Calls Tryd.prog 88 #[L n, W b] w fun e w' => e = .returned (.tuple #[.agg #[.int .u64 0, .int .u64 0, .int .u64 0, .int .u64 0], .agg #[.int .u64 0, .int .u64 0], .int .i64 4]) ∧ Below w.heap.size w w' := by
  subst hb; exact div_zero n w
theorem undo_plain {a b : Nat} (hb : 0 < b) : a = a * b / b ∧ 0 = a * b % b := ⟨(Nat.mul_div_cancel a hb).symm, (Nat.mul_mod_left a b).symm⟩
/-- a number against nought, word by word -/
theorem zero_test (b : Nat) : (b = 0 ∧ ((hi b : Int) == 0) = true ∧ ((lo b : Int) == 0) = true) ∨ (((hi b : Int) == 0) = false) ∨ (((hi b : Int) == 0) = true ∧ ((lo b : Int) == 0) = false) := by
  have h := hilo b
  by_cases h1 : hi b = 0
  · by_cases h2 : lo b = 0
    · exact .inl ⟨by omega, by rw [h1]; rfl, by rw [h2]; rfl⟩
    · exact .inr (.inr ⟨by rw [h1]; rfl, beq_eq_false_iff_ne.2 (by omega)⟩)
  · exact .inr (.inl (beq_eq_false_iff_ne.2 (by omega)))
end Go.Proofs.YtpgfgaloagdogaaDoor
namespace Go.Proofs.YtpgfgaloagdogaaDoor
open Go.RowKit Word
attribute [local go_sem] setCell_drewN cell?_ext frozen?_ext shape?_ext setCell_ext lt_1' ne_1' en_1' le_1' lt_2' ne_2' en_2' le_2' lt_3' ne_3' en_3' le_3' lt_4' ne_4' en_4' le_4' lt_5' ne_5' en_5' le_5' lt_6' ne_6' en_6' le_6' lt_7' ne_7' en_7' le_7' lt_8' ne_8' en_8' le_8' lt_9' ne_9' en_9' le_9' lt_10' ne_10' en_10' le_10' lt_11' ne_11' en_11' le_11' lt_12' ne_12' en_12' le_12'
attribute [local go_sem] lt_13' ne_13' en_13' le_13' lt_14' ne_14' en_14' le_14' lt_15' ne_15' en_15' le_15' lt_16' ne_16' en_16' le_16' lt_17' ne_17' en_17' le_17' lt_18' ne_18' en_18' le_18' lt_19' ne_19' en_19' le_19' lt_20' ne_20' en_20' le_20' lt_21' ne_21' en_21' le_21' lt_22' ne_22' en_22' le_22' lt_23' ne_23' en_23' le_23' lt_24' ne_24' en_24' le_24' lt_25' ne_25' en_25' le_25' lt_26' ne_26' en_26' le_26' lt_27' ne_27' en_27' le_27' lt_28' ne_28' en_28' le_28'
theorem nd_p10 (K : Nat) : nd (p10 K) = K + 1 := nd_is (by omega) (Or.inr (by rw [Nat.add_sub_cancel]; exact Nat.le_refl _)) (by unfold p10; exact Nat.pow_lt_pow_right (by decide) (by omega))
theorem len_mul {t : Nat} (h : 0 < t) (j : Nat) : nd (t * 10 ^ j) = nd t + j := by
  have h0 : 1 ≤ (Num.dg t).length := by rw [Num.dg_pos h]; simp
  have e : (Num.dg (t * 10 ^ j)).length = j + (Num.dg t).length := by rw [← Num.dg_shift h, List.length_append, List.length_replicate]
  unfold nd
  omega
theorem trimmed : ∀ a : Nat, 0 < a → ∃ t j, a = t * 10 ^ j ∧ t % 10 ≠ 0 := by
  intro a
  induction a using Nat.strongRecOn with
  | _ a ih =>
    intro h
    by_cases h0 : a % 10 = 0
    · obtain ⟨t, j, e, ht⟩ := ih (a / 10) (by omega) (by omega)
      refine ⟨t, j + 1, ?_, ht⟩
      rw [Nat.pow_succ, ← Nat.mul_assoc, ← e]; omega
    · exact ⟨a, 0, by simp, h0⟩
theorem trim_le {a t j : Nat} (ha : a < top2) (h : a = t * 10 ^ j) (ht : t % 10 ≠ 0) : j ≤ 38 := by
  have h1 : 10 ^ j ≤ a := by rw [h]; exact Nat.le_mul_of_pos_left _ (by omega)
  have h2 : 10 ^ j < 10 ^ 39 := Nat.lt_of_le_of_lt h1 (Nat.lt_trans ha top_lt)
  have := (Nat.pow_lt_pow_iff_right (by decide : 1 < 10)).1 h2
  omega
theorem lit0 : W 0 = .agg #[.int .u64 0, .int .u64 0] := rfl
theorem lit0L : L 0 = .agg #[.int .u64 0, .int .u64 0, .int .u64 0, .int .u64 0] := rfl
theorem ten_zero (w : World) (ht : Tens w) : Calls Tryd.prog 86 #[.int .i64 0] w fun e w' => e = .returned (.tuple #[W (p10 0), .int .i64 0]) ∧ Below w.heap.size w w' := ten_ok 0 (by omega) w ht
theorem mul_zero (q : Nat) (hq : q < top2) (w : World) : Calls Tryd.prog 99 #[.agg #[.int .u64 0, .int .u64 0], W q] w fun e w' => e = .returned (.agg #[.int .u64 0, .int .u64 0, .int .u64 0, .int .u64 0]) ∧ Below w.heap.size w w' := by
  have h := mul_is 0 q 0 (by omega) (by unfold top2; decide) hq w
  rw [lit0, lit0L] at h; exact h
end Go.Proofs.YtpgfgaloagdogaaDoor
