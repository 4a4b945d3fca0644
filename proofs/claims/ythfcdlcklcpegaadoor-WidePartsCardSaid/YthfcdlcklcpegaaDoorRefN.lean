/-
  The document's DocDiv.
-/
import Derived.Test.YthfcdlcklcpegaaDoorRefM
namespace Go.Proofs.YthfcdlcklcpegaaDoor
open Go.RowKit Num Word
attribute [local go_sem] setCell_drewN cell?_ext frozen?_ext shape?_ext setCell_ext lt_1' ne_1' en_1' le_1' lt_2' ne_2' en_2' le_2' lt_3' ne_3' en_3' le_3' lt_4' ne_4' en_4' le_4' lt_5' ne_5' en_5' le_5' lt_6' ne_6' en_6' le_6' lt_7' ne_7' en_7' le_7' lt_8' ne_8' en_8' le_8' lt_9' ne_9' en_9' le_9' lt_10' ne_10' en_10' le_10' lt_11' ne_11' en_11' le_11' lt_12' ne_12' en_12' le_12'

set_option maxRecDepth 100000 in
set_option maxHeartbeats 16000000 in
theorem docDiv_any (n d q r : Nat) (hn : n < top4) (hd : d < top2) (hd0 : 0 < d) (hq : q = n / d) (hr : r = n % d) (w : World) :
    Calls Tryd.prog 25 #[L n, W d] w fun e w' => e = .returned (.tuple #[L q, W r, .int .i64 0]) ∧ Below w.heap.size w w' := by
  have hq4 : q < top4 := by rw [hq]; exact Nat.lt_of_le_of_lt (Nat.div_le_self _ _) hn
  have hr2 : r < top2 := by rw [hr]; exact Nat.lt_trans (Nat.mod_lt _ hd0) hd
  have H1 := Lib.hid (of_any d hd)
  have H2 := Lib.hid (ofLong_any n (by unfold top4 at hn; exact hn))
  have h3 := fun va vb => rquo_any va vb n d hd0 (by have := len4 hn; omega) (by have := len2 hd; omega)
  rw [← hq, ← hr] at h3
  have h4 := fun v => toLong_any v q (by have := len4 hq4; omega)
  rw [Nat.mod_eq_of_lt hq4] at h4
  have h5 := fun v => to_any v r (by have := len2 hr2; omega)
  rw [Nat.mod_eq_of_lt hr2] at h5
  have hly : 0 < (dg d).length := by rw [dg_pos hd0]; simp
  obtain ⟨m, hm⟩ : ∃ m, m = dg d := ⟨_, rfl⟩
  rw [← hm] at hly
  have H3 := Lib.hid h3; have H4 := Lib.hid h4; have H5 := Lib.hid h5; have HM := Lib.hid hm
  have hlz : ((m.length : Int) == 0) = false := beq_eq_false_iff_ne.2 (by omega)
  obtain ⟨o1, ho1⟩ : ∃ o, o = decide (q < top4) := ⟨_, rfl⟩
  obtain ⟨o2, ho2⟩ : ∃ o, o = decide (r < top2) := ⟨_, rfl⟩
  rw [← ho1] at H4
  rw [← ho2] at H5
  clear h3 h4 h5 hn hd hd0 hq hr hq4 hr2 hly hm ho1 ho2
  go_enter Tryd.func25, Tryd.ntmps25
  go_wp2_with (first
    | (go_at_call 35; ((with_reducible refine (H1.out _).mono ?_); rintro e w1 ⟨v1, rfl, r1, b1⟩; rw [← HM.out] at r1; obtain ⟨p1, c1, rfl, -⟩ := r1.form; obtain ⟨os1, d1, rfl⟩ := ext_of_below b1; clear b1))
    | (go_at_call 46; ((with_reducible refine (H2.out _).mono ?_); rintro e w2 ⟨v2, rfl, r2, b2⟩; obtain ⟨os2, d2, rfl⟩ := ext_of_below b2; clear b2))
    | (go_at_call 51; ((with_reducible refine (H3.out _ _ _ r2.rd (by rw [← HM.out]; exact r1.rd.later (by (repeat' (first | (with_reducible exact Below.refl _ _) | (with_reducible assumption) | (with_reducible refine Below.alloc ?_ ?_ _) | (with_reducible refine below_drewN ?_ _) | (with_reducible refine below_drew ?_) | (with_reducible refine below_ext ?_ ?_ _ _) | (with_reducible refine Below.setCell ?_ ?_ _) | (simp; done) | (simp; omega) | omega))))).mono ?_); rintro e w3 ⟨v3, v4, rfl, r3, r4, b3⟩; obtain ⟨os3, d3, rfl⟩ := ext_of_below b3; clear b3))
    | (go_at_call 44; ((with_reducible refine (H4.out _ _ (r3.rd.later (by (repeat' (first | (with_reducible exact Below.refl _ _) | (with_reducible assumption) | (with_reducible refine Below.alloc ?_ ?_ _) | (with_reducible refine below_drewN ?_ _) | (with_reducible refine below_drew ?_) | (with_reducible refine below_ext ?_ ?_ _ _) | (with_reducible refine Below.setCell ?_ ?_ _) | (simp; done) | (simp; omega) | omega))))).mono ?_); rintro e w4 ⟨rfl, b4⟩; obtain ⟨os4, d4, rfl⟩ := ext_of_below b4; clear b4))
    | (go_at_call 49; ((with_reducible refine (H5.out _ _ (r4.rd.later (by (repeat' (first | (with_reducible exact Below.refl _ _) | (with_reducible assumption) | (with_reducible refine Below.alloc ?_ ?_ _) | (with_reducible refine below_drewN ?_ _) | (with_reducible refine below_drew ?_) | (with_reducible refine below_ext ?_ ?_ _ _) | (with_reducible refine Below.setCell ?_ ?_ _) | (simp; done) | (simp; omega) | omega))))).mono ?_); rintro e w5 ⟨rfl, b5⟩; obtain ⟨os5, d5, rfl⟩ := ext_of_below b5; clear b5)))
  go_region
  all_goals
    go_wp2
    go_returns
    exact ⟨rfl, by (repeat' (first | (with_reducible exact Below.refl _ _) | (with_reducible assumption) | (with_reducible refine Below.alloc ?_ ?_ _) | (with_reducible refine below_drewN ?_ _) | (with_reducible refine below_drew ?_) | (with_reducible refine below_ext ?_ ?_ _ _) | (with_reducible refine Below.setCell ?_ ?_ _) | (simp; done) | (simp; omega) | omega))⟩
theorem docDiv_zero (n : Nat) (w : World) :
    Calls Tryd.prog 25 #[L n, W 0] w fun e w' => e = .returned (.tuple #[L 0, W 0, .int .i64 4]) ∧ Below w.heap.size w w' := by
  have HW : W 0 = .agg #[.int .u64 0, .int .u64 0] := rfl
  have HL : L 0 = .agg #[.int .u64 0, .int .u64 0, .int .u64 0, .int .u64 0] := rfl
  have h1 := of_any 0 (by decide)
  rw [HW] at h1
  have H1 := Lib.hid h1
  rw [HL, HW]
  clear h1 HW HL
  go_enter Tryd.func25, Tryd.ntmps25
  go_wp2_with (go_at_call 35; ((with_reducible refine (H1.out _).mono ?_); rintro e w1 ⟨v1, rfl, r1, b1⟩; rw [dg_zero] at r1; obtain ⟨p1, c1, rfl, -⟩ := r1.form; obtain ⟨os1, d1, rfl⟩ := ext_of_below b1; clear b1))
  go_returns
  exact ⟨rfl, by (repeat' (first | (with_reducible exact Below.refl _ _) | (with_reducible assumption) | (with_reducible refine Below.alloc ?_ ?_ _) | (with_reducible refine below_drewN ?_ _) | (with_reducible refine below_drew ?_) | (with_reducible refine below_ext ?_ ?_ _ _) | (with_reducible refine Below.setCell ?_ ?_ _) | (simp; done) | (simp; omega) | omega))⟩
end Go.Proofs.YthfcdlcklcpegaaDoor
