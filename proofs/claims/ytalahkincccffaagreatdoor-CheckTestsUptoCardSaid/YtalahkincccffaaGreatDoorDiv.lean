/-
  The contract of wide.Div: the whole part of a quotient, and what is left.
-/
import Derived.Test.YtalahkincccffaaGreatDoorBm
namespace Go.Proofs.YtalahkincccffaaGreatDoor
open Go.RowKit Word
attribute [local go_sem] setCell_drewN cell?_ext frozen?_ext shape?_ext setCell_ext lt_1' ne_1' en_1' le_1' lt_2' ne_2' en_2' le_2' lt_3' ne_3' en_3' le_3' lt_4' ne_4' en_4' le_4' lt_5' ne_5' en_5' le_5' lt_6' ne_6' en_6' le_6' lt_7' ne_7' en_7' le_7' lt_8' ne_8' en_8' le_8' lt_9' ne_9' en_9' le_9' lt_10' ne_10' en_10' le_10' lt_11' ne_11' en_11' le_11' lt_12' ne_12' en_12' le_12'

theorem div_small (n d r : Nat) (hr : r = n % d) (hn : n < top4) (h0 : 0 < d) (hd : d < 18446744073709551616) (w : World) :
    Calls Tryz.prog 105 #[L n, W d] w fun e w' => e = .returned (.tuple #[L (n / d), W r, .int .i64 0]) ∧ Below w.heap.size w w' := by
  have e1 : hi d = 0 := by unfold hi; omega
  have e2 : lo d = d := by unfold lo; omega
  have hrd : r < d := by rw [hr]; exact Nat.mod_lt _ h0
  have e3 : hi r = 0 := by unfold hi; omega
  have e4 : lo r = r := by unfold lo; omega
  have HW : W d = .agg #[.int .u64 0, .int .u64 (d : Int)] := by simp only [W, e1, e2]; rfl
  have HR : W r = .agg #[.int .u64 0, .int .u64 (r : Int)] := by simp only [W, e3, e4]; rfl
  have hne : ¬ d = 0 := by omega
  have hr' := Lib.hid hr
  rw [HW, HR]
  clear HW HR e1 e2 e3 e4 hr hrd
  go_enter Tryz.func105, Tryz.ntmps105
  go_wp2_with (go_at_call 109; ((with_reducible refine (divWord_any n d r hr'.out hn h0 hd _).mono ?_); rintro e w1 ⟨rfl, hb1⟩; obtain ⟨os1, d1, rfl⟩ := ext_of_below hb1; clear hb1))
  go_returns
  exact ⟨rfl, by (repeat' (first | (with_reducible first | exact Below.refl _ _ | assumption | refine Below.alloc ?_ ?_ _ | refine below_drewN ?_ _ | refine below_drew ?_ | refine below_ext ?_ ?_ _ _ | refine Below.setCell ?_ ?_ _) | (simp; done) | (simp; omega) | omega))⟩
set_option maxHeartbeats 1000000 in
theorem div_big (n d r : Nat) (hr : r = n % d) (hn : n < top4) (hh : 0 < hi d) (hd : d < top2) (w : World) :
    Calls Tryz.prog 105 #[L n, W d] w fun e w' => e = .returned (.tuple #[L (n / d), W r, .int .i64 0]) ∧ Below w.heap.size w w' := by
  have hne : ¬ hi d = 0 := by omega
  have hr' := Lib.hid hr
  clear hr
  go_enter Tryz.func105, Tryz.ntmps105
  go_wp2_with (go_at_call 110; ((with_reducible refine (divPair_any n d r hr'.out hn hd hh _).mono ?_); rintro e w1 ⟨rfl, hb1⟩; obtain ⟨os1, d1, rfl⟩ := ext_of_below hb1; clear hb1))
  go_region
  all_goals
    go_wp2
    go_returns
    exact ⟨rfl, by (repeat' (first | (with_reducible first | exact Below.refl _ _ | assumption | refine Below.alloc ?_ ?_ _ | refine below_drewN ?_ _ | refine below_drew ?_ | refine below_ext ?_ ?_ _ _ | refine Below.setCell ?_ ?_ _) | (simp; done) | (simp; omega) | omega))⟩
theorem div_any (n d r : Nat) (hr : r = n % d) (hn : n < top4) (h0 : 0 < d) (hd : d < top2) (w : World) :
    Calls Tryz.prog 105 #[L n, W d] w fun e w' => e = .returned (.tuple #[L (n / d), W r, .int .i64 0]) ∧ Below w.heap.size w w' := by
  rcases Nat.eq_zero_or_pos (hi d) with h | h
  · exact div_small n d r hr hn h0 (by unfold hi at h; omega) w
  · exact div_big n d r hr hn h hd w
theorem div_q (n d q r : Nat) (hq : q = n / d) (hr : r = n % d) (hn : n < top4) (h0 : 0 < d) (hd : d < top2) (w : World) :
    Calls Tryz.prog 105 #[L n, W d] w fun e w' => e = .returned (.tuple #[L q, W r, .int .i64 0]) ∧ Below w.heap.size w w' := by
  subst hq
  exact div_any n d r hr hn h0 hd w
end Go.Proofs.YtalahkincccffaaGreatDoor
