/-
  The law DecForms.
-/
import Derived.Test.YtdgdeognahmpmaaGreatDoorDocOne
namespace Go.Proofs.YtdgdeognahmpmaaGreatDoor
open Go.RowKit Num Word
attribute [local go_sem] setCell_drewN cell?_ext frozen?_ext shape?_ext setCell_ext lt_1' ne_1' en_1' le_1' lt_2' ne_2' en_2' le_2' lt_3' ne_3' en_3' le_3' lt_4' ne_4' en_4' le_4' lt_5' ne_5' en_5' le_5' lt_6' ne_6' en_6' le_6' lt_7' ne_7' en_7' le_7' lt_8' ne_8' en_8' le_8' lt_9' ne_9' en_9' le_9' lt_10' ne_10' en_10' le_10' lt_11' ne_11' en_11' le_11' lt_12' ne_12' en_12' le_12'

theorem lo_small {n : Nat} (h : n < 18446744073709551616) : hi n = 0 ∧ lo n = n := by unfold hi lo; omega
theorem D_small {neg : Bool} {n : Nat} (h : n < 18446744073709551616) : D neg n 0 = .agg #[.bool neg, .int .u64 0, .int .u64 (n : Int), .int .i64 0] := by
  obtain ⟨h1, h2⟩ := lo_small h
  simp only [D, h1, h2]; rfl
theorem W_small {n : Nat} (h : n < 18446744073709551616) : W n = .agg #[.int .u64 0, .int .u64 (n : Int)] := by
  obtain ⟨h1, h2⟩ := lo_small h
  simp only [W, h1, h2]; rfl
theorem dof_any (n : Int) (z : (Lit.int .i64 n).wf = true) (w : World) :
    Calls Tryz.prog 67 #[.int .i64 n] w fun e w' => e = .returned (D (decide (n < 0)) n.natAbs 0) ∧ Below w.heap.size w w' := by
  simp [Lit.wf, IntKind.min, IntKind.max, IntKind.signed, IntKind.bits] at z
  rw [D_small (by omega)]
  by_cases h : n < 0
  · obtain ⟨k, hk⟩ : ∃ k : Nat, k = n.natAbs := ⟨_, rfl⟩
    rw [← hk, decide_eq_true h]
    have e1 : IntKind.u64.wrap n = n + 18446744073709551616 := by rw [IntKind.wrap_u64]; omega
    have e2 : IntKind.u64.wrap (-(n + 18446744073709551616)) = (k : Int) := by rw [IntKind.wrap_u64]; omega
    clear hk
    go_enter Tryz.func67, Tryz.ntmps67
    go_wp2
    all_goals (go_returns; exact ⟨rfl, by (repeat' (first | (with_reducible exact Below.refl _ _) | (with_reducible assumption) | (with_reducible refine Below.alloc ?_ ?_ _) | (with_reducible refine below_drewN ?_ _) | (with_reducible refine below_drew ?_) | (with_reducible refine below_ext ?_ ?_ _ _) | (with_reducible refine Below.setCell ?_ ?_ _) | (simp; done) | (simp; omega) | omega))⟩)
  · obtain ⟨k, rfl⟩ : ∃ k : Nat, n = (k : Int) := ⟨n.toNat, by omega⟩
    rw [decide_eq_false h, Int.natAbs_natCast]
    have e1 : IntKind.u64.wrap (k : Int) = (k : Int) := by rw [IntKind.wrap_u64]; omega
    go_enter Tryz.func67, Tryz.ntmps67
    go_wp2
    all_goals (go_returns; exact ⟨rfl, by (repeat' (first | (with_reducible exact Below.refl _ _) | (with_reducible assumption) | (with_reducible refine Below.alloc ?_ ?_ _) | (with_reducible refine below_drewN ?_ _) | (with_reducible refine below_drew ?_) | (with_reducible refine below_ext ?_ ?_ _ _) | (with_reducible refine Below.setCell ?_ ?_ _) | (simp; done) | (simp; omega) | omega))⟩)
set_option maxRecDepth 100000 in
set_option maxHeartbeats 4000000 in
theorem small_any (n : Nat) (hn : n < 9223372036854775808) (w : World) :
    Calls Tryz.prog 108 #[.int .i64 (n : Int)] w fun e w' => ∃ v', e = .returned v' ∧ RdP (fun g => w.heap.size ≤ g) w' v' (dg n) ∧ Below w.heap.size w w' := by
  obtain ⟨B, hB⟩ : ∃ B, B = w.heap.size := ⟨_, rfl⟩
  have HB := Lib.hid hB
  have hl20 : (dg n).length ≤ 20 := dg_len_le.2 (by omega)
  clear hB
  go_enter Tryz.func108, Tryz.ntmps108
  go_wp2
  go_loopw [0, 3] (fun nv v wr => ∃ (m : Nat) (acc : List Nat), nv = .int .i64 m ∧ m ≤ n ∧ Hid (IBuf B v acc w wr) ∧ Hid (dg n = acc ++ dg m)) (fun nv _ _ => (intOf nv).toNat)
  case atStart => exact ⟨n, [], rfl, Nat.le_refl _, Lib.hid (by rw [HB.out]; exact IBuf.nil w (by (repeat' (first | (with_reducible exact Below.refl _ _) | (with_reducible assumption) | (with_reducible refine Below.alloc ?_ ?_ _) | (with_reducible refine below_drewN ?_ _) | (with_reducible refine below_drew ?_) | (with_reducible refine below_ext ?_ ?_ _ _) | (with_reducible refine Below.setCell ?_ ?_ _) | (simp; done) | (simp; omega) | omega)))), Lib.hid rfl⟩
  case round =>
    obtain ⟨m, acc, rfl, hm, hb0, hT⟩ := hrel
    have hb := hb0.out
    by_cases h0 : 0 < m
    · have hT2 := hT.out
      rw [dg_pos h0] at hT2
      have hal : acc.length ≤ 20 := by
        have := congrArg List.length hT2
        rw [List.length_append] at this
        omega
      have HT2 := Lib.hid hT2
      clear hT2 hT
      go_wp2_with (at_builtin; refine append_int rfl _ _ rfl rfl w _ (m % 10) (by omega) (by assumption) rfl (by omega) ?_; intro _ _ hb)
      go_roundw
      case rel => exact ⟨m / 10, acc ++ [m % 10], by go_num, by omega, Lib.hid hb, Lib.hid (by rw [HT2.out, List.append_assoc]; rfl)⟩
      case measure => simp [intOf]; omega
    · obtain rfl : m = 0 := by omega
      have hT2 := hT.out
      rw [dg_zero, List.append_nil] at hT2
      have HT2 := Lib.hid hT2
      clear hT2 hT
      go_wp2
      go_ret
      exact ⟨_, rfl, by rw [HT2.out, ← HB.out]; exact hb.rd, by have := hb.2.1; rw [HB.out] at this; exact this⟩
theorem natAbs_lt34 {n : Int} (z : (Lit.int .i64 n).wf = true) : n.natAbs < 10 ^ 34 ∧ n.natAbs < 18446744073709551616 := by
  simp [Lit.wf, IntKind.min, IntKind.max, IntKind.signed, IntKind.bits] at z
  exact ⟨by omega, by omega⟩
theorem of_form (neg : Bool) (k : Nat) (h : neg = true → 0 < k) : DS neg k 0 = D neg k 0 := by
  unfold DS
  show D (neg && decide (0 < k)) k 0 = D neg k 0
  cases neg
  · rfl
  · rw [decide_eq_true (h rfl)]; rfl
theorem rmake_0 (neg : Bool) (v : Value) (n : Nat) (hn : n < 10 ^ 34) (h : neg = true → 0 < n) (w : World) (ha : Rd w v (dg n)) :
    Calls Tryz.prog 106 #[.bool neg, v, .int .i64 0] w fun e w' => e = .returned (D neg n 0) ∧ Below w.heap.size w w' := by
  have := rmake_any neg v n 0 hn (by omega) w ha
  rwa [of_form neg n h] at this
set_option maxHeartbeats 4000000 in
theorem docOf_any (n : Int) (z : (Lit.int .i64 n).wf = true) (w : World) :
    Calls Tryz.prog 77 #[.int .i64 n] w fun e w' => e = .returned (D (decide (n < 0)) n.natAbs 0) ∧ Below w.heap.size w w' := by
  obtain ⟨b1, b2⟩ := natAbs_lt34 z
  simp [Lit.wf, IntKind.min, IntKind.max, IntKind.signed, IntKind.bits] at z
  by_cases h : n < 0
  · obtain ⟨k, hk⟩ : ∃ k : Nat, k = n.natAbs := ⟨_, rfl⟩
    rw [← hk] at b1 b2
    have h1 := fun w => of_any k (lt34_top2 b1) w
    rw [W_small b2] at h1
    have H1 := Lib.hid h1
    have H2 := Lib.hid (fun v w ha => rmake_0 true v k b1 (fun _ => by omega) w ha)
    rw [← hk, decide_eq_true h]
    have e1 : IntKind.i64.wrap (n + 1) = n + 1 := IntWalk.i64_in _ (by omega)
    have e2 : IntKind.i64.wrap (-(n + 1)) = -(n + 1) := IntWalk.i64_in _ (by omega)
    have e3 : IntKind.u64.wrap (-(n + 1)) = -(n + 1) := by rw [IntKind.wrap_u64]; omega
    have e4 : IntKind.u64.wrap (-(n + 1) + 1) = (k : Int) := by rw [IntKind.wrap_u64]; omega
    clear hk b1 b2 h1
    go_enter Tryz.func77, Tryz.ntmps77
    go_wp2_with (first
      | (go_at_call 107; ((with_reducible refine (H1.out _).mono ?_); rintro e w1 ⟨v1, rfl, r1, b1⟩; obtain ⟨os1, d1, rfl⟩ := ext_of_below b1; clear b1))
      | (go_at_call 106; ((with_reducible refine (H2.out _ _ r1.rd).mono ?_); rintro e w2 ⟨rfl, b2⟩; obtain ⟨os2, d2, rfl⟩ := ext_of_below b2; clear b2)))
    all_goals (first | (go_ret; exact ⟨rfl, by (repeat' (first | (with_reducible exact Below.refl _ _) | (with_reducible assumption) | (with_reducible refine Below.alloc ?_ ?_ _) | (with_reducible refine below_drewN ?_ _) | (with_reducible refine below_drew ?_) | (with_reducible refine below_ext ?_ ?_ _ _) | (with_reducible refine Below.setCell ?_ ?_ _) | (simp; done) | (simp; omega) | omega))⟩) | (go_returns; exact ⟨rfl, by (repeat' (first | (with_reducible exact Below.refl _ _) | (with_reducible assumption) | (with_reducible refine Below.alloc ?_ ?_ _) | (with_reducible refine below_drewN ?_ _) | (with_reducible refine below_drew ?_) | (with_reducible refine below_ext ?_ ?_ _ _) | (with_reducible refine Below.setCell ?_ ?_ _) | (simp; done) | (simp; omega) | omega))⟩))
  · obtain ⟨k, rfl⟩ : ∃ k : Nat, n = (k : Int) := ⟨n.toNat, by omega⟩
    rw [decide_eq_false h, Int.natAbs_natCast]
    rw [Int.natAbs_natCast] at b1 b2
    have H1 := Lib.hid (fun w => small_any k (by omega) w)
    have H2 := Lib.hid (fun v w ha => rmake_0 false v k b1 (fun h => nomatch h) w ha)
    clear b1 b2
    go_enter Tryz.func77, Tryz.ntmps77
    go_wp2_with (first
      | (go_at_call 108; ((with_reducible refine (H1.out _).mono ?_); rintro e w1 ⟨v1, rfl, r1, b1⟩; obtain ⟨os1, d1, rfl⟩ := ext_of_below b1; clear b1))
      | (go_at_call 106; ((with_reducible refine (H2.out _ _ r1.rd).mono ?_); rintro e w2 ⟨rfl, b2⟩; obtain ⟨os2, d2, rfl⟩ := ext_of_below b2; clear b2)))
    all_goals (first | (go_ret; exact ⟨rfl, by (repeat' (first | (with_reducible exact Below.refl _ _) | (with_reducible assumption) | (with_reducible refine Below.alloc ?_ ?_ _) | (with_reducible refine below_drewN ?_ _) | (with_reducible refine below_drew ?_) | (with_reducible refine below_ext ?_ ?_ _ _) | (with_reducible refine Below.setCell ?_ ?_ _) | (simp; done) | (simp; omega) | omega))⟩) | (go_returns; exact ⟨rfl, by (repeat' (first | (with_reducible exact Below.refl _ _) | (with_reducible assumption) | (with_reducible refine Below.alloc ?_ ?_ _) | (with_reducible refine below_drewN ?_ _) | (with_reducible refine below_drew ?_) | (with_reducible refine below_ext ?_ ?_ _ _) | (with_reducible refine Below.setCell ?_ ?_ _) | (simp; done) | (simp; omega) | omega))⟩))
end Go.Proofs.YtdgdeognahmpmaaGreatDoor
