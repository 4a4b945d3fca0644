/-
  The law DecForms.
-/
import Derived.Test.YtjkallelniggpaaGreatDoorDocOne
namespace Go.Proofs.YtjkallelniggpaaGreatDoor
open Go.RowKit Num Word
attribute [local go_sem] setCell_drewN cell?_ext frozen?_ext shape?_ext setCell_ext lt_1' ne_1' en_1' le_1' lt_2' ne_2' en_2' le_2' lt_3' ne_3' en_3' le_3' lt_4' ne_4' en_4' le_4' lt_5' ne_5' en_5' le_5' lt_6' ne_6' en_6' le_6' lt_7' ne_7' en_7' le_7' lt_8' ne_8' en_8' le_8' lt_9' ne_9' en_9' le_9' lt_10' ne_10' en_10' le_10' lt_11' ne_11' en_11' le_11' lt_12' ne_12' en_12' le_12'

theorem lo_small {n : Nat} (h : n < 18446744073709551616) : hi n = 0 ∧ lo n = n := by unfold hi lo; omega
theorem D_small {neg : Bool} {n : Nat} (h : n < 18446744073709551616) : D neg n 0 = .agg #[.bool neg, .int .u64 0, .int .u64 (n : Int), .int .i64 0] := by
  obtain ⟨h1, h2⟩ := lo_small h
  simp only [D, h1, h2]; rfl
theorem W_small {n : Nat} (h : n < 18446744073709551616) : W n = .agg #[.int .u64 0, .int .u64 (n : Int)] := by
  obtain ⟨h1, h2⟩ := lo_small h
  simp only [W, h1, h2]; rfl
theorem dof_any (n : Int) (z : (Lit.int .i64 n).wf = true) (w : World) :
    Calls Tryz.prog 28 #[.int .i64 n] w fun e w' => e = .returned (D (decide (n < 0)) n.natAbs 0) ∧ Below w.heap.size w w' := by
  simp [Lit.wf, IntKind.min, IntKind.max, IntKind.signed, IntKind.bits] at z
  rw [D_small (by omega)]
  by_cases h : n < 0
  · obtain ⟨k, hk⟩ : ∃ k : Nat, k = n.natAbs := ⟨_, rfl⟩
    rw [← hk, decide_eq_true h]
    have e1 : IntKind.u64.wrap n = n + 18446744073709551616 := by rw [IntKind.wrap_u64]; omega
    have e2 : IntKind.u64.wrap (-(n + 18446744073709551616)) = (k : Int) := by rw [IntKind.wrap_u64]; omega
    clear hk
    go_enter Tryz.func28, Tryz.ntmps28
    go_wp2
    all_goals (go_returns; exact ⟨rfl, by (repeat' (first | (with_reducible exact Below.refl _ _) | (with_reducible assumption) | (with_reducible refine Below.alloc ?_ ?_ _) | (with_reducible refine below_drewN ?_ _) | (with_reducible refine below_drew ?_) | (with_reducible refine below_ext ?_ ?_ _ _) | (with_reducible refine Below.setCell ?_ ?_ _) | (simp; done) | (simp; omega) | omega))⟩)
  · obtain ⟨k, rfl⟩ : ∃ k : Nat, n = (k : Int) := ⟨n.toNat, by omega⟩
    rw [decide_eq_false h, Int.natAbs_natCast]
    have e1 : IntKind.u64.wrap (k : Int) = (k : Int) := by rw [IntKind.wrap_u64]; omega
    go_enter Tryz.func28, Tryz.ntmps28
    go_wp2
    all_goals (go_returns; exact ⟨rfl, by (repeat' (first | (with_reducible exact Below.refl _ _) | (with_reducible assumption) | (with_reducible refine Below.alloc ?_ ?_ _) | (with_reducible refine below_drewN ?_ _) | (with_reducible refine below_drew ?_) | (with_reducible refine below_ext ?_ ?_ _ _) | (with_reducible refine Below.setCell ?_ ?_ _) | (simp; done) | (simp; omega) | omega))⟩)
theorem natAbs_lt34 {n : Int} (z : (Lit.int .i64 n).wf = true) : n.natAbs < 10 ^ 34 ∧ n.natAbs < 18446744073709551616 := by
  simp [Lit.wf, IntKind.min, IntKind.max, IntKind.signed, IntKind.bits] at z
  exact ⟨by omega, by omega⟩
theorem of_form (neg : Bool) (k : Nat) (h : neg = true → 0 < k) : DS neg k 0 = D neg k 0 := by
  unfold DS
  show D (neg && decide (0 < k)) k 0 = D neg k 0
  cases neg
  · rfl
  · rw [decide_eq_true (h rfl)]; rfl
end Go.Proofs.YtjkallelniggpaaGreatDoor
