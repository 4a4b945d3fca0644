/-
  The walk of the statement on powers of ten, over every number and every count.
-/
import Derived.Test.YtjkallelniggpaaDoorDigits
import Derived.Test.YtjkallelniggpaaDoorUndoBase
namespace Go.Proofs.YtjkallelniggpaaDoor
open Go.RowKit Word
attribute [local go_sem] setCell_drewN cell?_ext frozen?_ext shape?_ext setCell_ext lt_1' ne_1' en_1' le_1' lt_2' ne_2' en_2' le_2' lt_3' ne_3' en_3' le_3' lt_4' ne_4' en_4' le_4' lt_5' ne_5' en_5' le_5' lt_6' ne_6' en_6' le_6' lt_7' ne_7' en_7' le_7' lt_8' ne_8' en_8' le_8' lt_9' ne_9' en_9' le_9' lt_10' ne_10' en_10' le_10' lt_11' ne_11' en_11' le_11' lt_12' ne_12' en_12' le_12'
attribute [local go_sem] lt_13' ne_13' en_13' le_13' lt_14' ne_14' en_14' le_14' lt_15' ne_15' en_15' le_15' lt_16' ne_16' en_16' le_16' lt_17' ne_17' en_17' le_17' lt_18' ne_18' en_18' le_18' lt_19' ne_19' en_19' le_19' lt_20' ne_20' en_20' le_20' lt_21' ne_21' en_21' le_21' lt_22' ne_22' en_22' le_22' lt_23' ne_23' en_23' le_23' lt_24' ne_24' en_24' le_24' lt_25' ne_25' en_25' le_25' lt_26' ne_26' en_26' le_26' lt_27' ne_27' en_27' le_27' lt_28' ne_28' en_28' le_28'
theorem nd_p10 (K : Nat) : nd (p10 K) = K + 1 := nd_is (by omega) (Or.inr (by rw [Nat.add_sub_cancel]; exact Nat.le_refl _)) (by unfold p10; exact Nat.pow_lt_pow_right (by decide) (by omega))
theorem len_mul {t : Nat} (h : 0 < t) (j : Nat) : nd (t * 10 ^ j) = nd t + j := by
  have h0 : 1 ≤ (Num.dg t).length := by rw [Num.dg_pos h]; simp
  have e : (Num.dg (t * 10 ^ j)).length = j + (Num.dg t).length := by rw [← Num.dg_shift h, List.length_append, List.length_replicate]
  unfold nd
  omega
theorem trimmed : ∀ a : Nat, 0 < a → ∃ t j, a = t * 10 ^ j ∧ t % 10 ≠ 0 := by
  intro a
  induction a using Nat.strongRecOn with
  | _ a ih =>
    intro h
    by_cases h0 : a % 10 = 0
    · obtain ⟨t, j, e, ht⟩ := ih (a / 10) (by omega) (by omega)
      refine ⟨t, j + 1, ?_, ht⟩
      rw [Nat.pow_succ, ← Nat.mul_assoc, ← e]; omega
    · exact ⟨a, 0, by simp, h0⟩
theorem trim_le {a t j : Nat} (ha : a < top2) (h : a = t * 10 ^ j) (ht : t % 10 ≠ 0) : j ≤ 38 := by
  have h1 : 10 ^ j ≤ a := by rw [h]; exact Nat.le_mul_of_pos_left _ (by omega)
  have h2 : 10 ^ j < 10 ^ 39 := Nat.lt_of_le_of_lt h1 (Nat.lt_trans ha top_lt)
  have := (Nat.pow_lt_pow_iff_right (by decide : 1 < 10)).1 h2
  omega
theorem lit0 : W 0 = .agg #[.int .u64 0, .int .u64 0] := rfl
theorem lit0L : L 0 = .agg #[.int .u64 0, .int .u64 0, .int .u64 0, .int .u64 0] := rfl
theorem ten_zero (w : World) (ht : Tens w) : Calls Tryd.prog 110 #[.int .i64 0] w fun e w' => e = .returned (.tuple #[W (p10 0), .int .i64 0]) ∧ Below w.heap.size w w' := ten_ok 0 (by omega) w ht
theorem mul_zero (q : Nat) (hq : q < top2) (w : World) : Calls Tryd.prog 123 #[.agg #[.int .u64 0, .int .u64 0], W q] w fun e w' => e = .returned (.agg #[.int .u64 0, .int .u64 0, .int .u64 0, .int .u64 0]) ∧ Below w.heap.size w w' := by
  have h := mul_is 0 q 0 (by omega) (by unfold top2; decide) hq w
  rw [lit0, lit0L] at h; exact h
end Go.Proofs.YtjkallelniggpaaDoor
