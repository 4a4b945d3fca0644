/-
  The law DecForms.
-/
import Derived.Test.YtdobdlhfljpkcaaDoorDocOne
namespace Go.Proofs.YtdobdlhfljpkcaaDoor
open Go.RowKit Num Word
attribute [local go_sem] setCell_drewN cell?_ext frozen?_ext shape?_ext setCell_ext lt_1' ne_1' en_1' le_1' lt_2' ne_2' en_2' le_2' lt_3' ne_3' en_3' le_3' lt_4' ne_4' en_4' le_4' lt_5' ne_5' en_5' le_5' lt_6' ne_6' en_6' le_6' lt_7' ne_7' en_7' le_7' lt_8' ne_8' en_8' le_8' lt_9' ne_9' en_9' le_9' lt_10' ne_10' en_10' le_10' lt_11' ne_11' en_11' le_11' lt_12' ne_12' en_12' le_12'

theorem lo_small {n : Nat} (h : n < 18446744073709551616) : hi n = 0 ∧ lo n = n := by unfold hi lo; omega
theorem D_small {neg : Bool} {n : Nat} (h : n < 18446744073709551616) : D neg n 0 = .agg #[.bool neg, .int .u64 0, .int .u64 (n : Int), .int .i64 0] := by
  obtain ⟨h1, h2⟩ := lo_small h
  simp only [D, h1, h2]; rfl
theorem W_small {n : Nat} (h : n < 18446744073709551616) : W n = .agg #[.int .u64 0, .int .u64 (n : Int)] := by
  obtain ⟨h1, h2⟩ := lo_small h
  simp only [W, h1, h2]; rfl
theorem dof_any (n : Int) (z : (Lit.int .i64 n).wf = true) (w : World) :
    Calls Tryd.prog 20 #[.int .i64 n] w fun e w' => e = .returned (D (decide (n < 0)) n.natAbs 0) ∧ Below w.heap.size w w' := by
  simp [Lit.wf, IntKind.min, IntKind.max, IntKind.signed, IntKind.bits] at z
  rw [D_small (by omega)]
  by_cases h : n < 0
  · obtain ⟨k, hk⟩ : ∃ k : Nat, k = n.natAbs := ⟨_, rfl⟩
    rw [← hk, decide_eq_true h]
    have e1 : IntKind.u64.wrap n = n + 18446744073709551616 := by rw [IntKind.wrap_u64]; omega
    have e2 : IntKind.u64.wrap (-(n + 18446744073709551616)) = (k : Int) := by rw [IntKind.wrap_u64]; omega
    clear hk
    go_enter Tryd.func20, Tryd.ntmps20
    go_wp2
    all_goals (go_returns; exact ⟨rfl, by (repeat' (first | (with_reducible exact Below.refl _ _) | (with_reducible assumption) | (with_reducible refine Below.alloc ?_ ?_ _) | (with_reducible refine below_drewN ?_ _) | (with_reducible refine below_drew ?_) | (with_reducible refine below_ext ?_ ?_ _ _) | (with_reducible refine Below.setCell ?_ ?_ _) | (simp; done) | (simp; omega) | omega))⟩)
  · obtain ⟨k, rfl⟩ : ∃ k : Nat, n = (k : Int) := ⟨n.toNat, by omega⟩
    rw [decide_eq_false h, Int.natAbs_natCast]
    have e1 : IntKind.u64.wrap (k : Int) = (k : Int) := by rw [IntKind.wrap_u64]; omega
    go_enter Tryd.func20, Tryd.ntmps20
    go_wp2
    all_goals (go_returns; exact ⟨rfl, by (repeat' (first | (with_reducible exact Below.refl _ _) | (with_reducible assumption) | (with_reducible refine Below.alloc ?_ ?_ _) | (with_reducible refine below_drewN ?_ _) | (with_reducible refine below_drew ?_) | (with_reducible refine below_ext ?_ ?_ _ _) | (with_reducible refine Below.setCell ?_ ?_ _) | (simp; done) | (simp; omega) | omega))⟩)
set_option maxRecDepth 100000 in
set_option maxHeartbeats 4000000 in
theorem small_any (n : Nat) (hn : n < 9223372036854775808) (w : World) :
    Calls Tryd.prog 71 #[.int .i64 (n : Int)] w fun e w' => ∃ v', e = .returned v' ∧ RdP (fun g => w.heap.size ≤ g) w' v' (dg n) ∧ Below w.heap.size w w' := by
  obtain ⟨B, hB⟩ : ∃ B, B = w.heap.size := ⟨_, rfl⟩
  have HB := Lib.hid hB
  have hl20 : (dg n).length ≤ 20 := dg_len_le.2 (by omega)
  clear hB
  go_enter Tryd.func71, Tryd.ntmps71
  go_wp2
  go_loopw [0, 3] (fun nv v wr => ∃ (m : Nat) (acc : List Nat), nv = .int .i64 m ∧ m ≤ n ∧ Hid (IBuf B v acc w wr) ∧ Hid (dg n = acc ++ dg m)) (fun nv _ _ => (intOf nv).toNat)
  case atStart => exact ⟨n, [], rfl, Nat.le_refl _, Lib.hid (by rw [HB.out]; exact IBuf.nil w (by (repeat' (first | (with_reducible exact Below.refl _ _) | (with_reducible assumption) | (with_reducible refine Below.alloc ?_ ?_ _) | (with_reducible refine below_drewN ?_ _) | (with_reducible refine below_drew ?_) | (with_reducible refine below_ext ?_ ?_ _ _) | (with_reducible refine Below.setCell ?_ ?_ _) | (simp; done) | (simp; omega) | omega)))), Lib.hid rfl⟩
  case round =>
    obtain ⟨m, acc, rfl, hm, hb0, hT⟩ := hrel
    have hb := hb0.out
    by_cases h0 : 0 < m
    · have hT2 := hT.out
      rw [dg_pos h0] at hT2
      have hal : acc.length ≤ 20 := by
        have := congrArg List.length hT2
        rw [List.length_append] at this
        omega
      have HT2 := Lib.hid hT2
      clear hT2 hT
      go_wp2_with (at_builtin; refine append_int rfl _ _ rfl rfl w _ (m % 10) (by omega) (by assumption) rfl (by omega) ?_; intro _ _ hb)
      go_roundw
      case rel => exact ⟨m / 10, acc ++ [m % 10], by go_num, by omega, Lib.hid hb, Lib.hid (by rw [HT2.out, List.append_assoc]; rfl)⟩
      case measure => simp [intOf]; omega
    · obtain rfl : m = 0 := by omega
      have hT2 := hT.out
      rw [dg_zero, List.append_nil] at hT2
      have HT2 := Lib.hid hT2
      clear hT2 hT
      go_wp2
      go_ret
      exact ⟨_, rfl, by rw [HT2.out, ← HB.out]; exact hb.rd, by have := hb.2.1; rw [HB.out] at this; exact this⟩
theorem natAbs_lt34 {n : Int} (z : (Lit.int .i64 n).wf = true) : n.natAbs < 10 ^ 34 ∧ n.natAbs < 18446744073709551616 := by
  simp [Lit.wf, IntKind.min, IntKind.max, IntKind.signed, IntKind.bits] at z
  exact ⟨by omega, by omega⟩
theorem of_form (neg : Bool) (k : Nat) (h : neg = true → 0 < k) : DS neg k 0 = D neg k 0 := by
  unfold DS
  show D (neg && decide (0 < k)) k 0 = D neg k 0
  cases neg
  · rfl
  · rw [decide_eq_true (h rfl)]; rfl
theorem rmake_0 (neg : Bool) (v : Value) (n : Nat) (hn : n < 10 ^ 34) (h : neg = true → 0 < n) (w : World) (ha : Rd w v (dg n)) :
    Calls Tryd.prog 70 #[.bool neg, v, .int .i64 0] w fun e w' => e = .returned (D neg n 0) ∧ Below w.heap.size w w' := by
  have := rmake_any neg v n 0 hn (by omega) w ha
  rwa [of_form neg n h] at this
set_option maxHeartbeats 4000000 in
theorem docOf_any (n : Int) (z : (Lit.int .i64 n).wf = true) (w : World) :
    Calls Tryd.prog 21 #[.int .i64 n] w fun e w' => e = .returned (D (decide (n < 0)) n.natAbs 0) ∧ Below w.heap.size w w' := by
  obtain ⟨b1, b2⟩ := natAbs_lt34 z
  simp [Lit.wf, IntKind.min, IntKind.max, IntKind.signed, IntKind.bits] at z
  by_cases h : n < 0
  · obtain ⟨k, hk⟩ : ∃ k : Nat, k = n.natAbs := ⟨_, rfl⟩
    rw [← hk] at b1 b2
    have h1 := fun w => of_any k (lt34_top2 b1) w
    rw [W_small b2] at h1
    have H1 := Lib.hid h1
    have H2 := Lib.hid (fun v w ha => rmake_0 true v k b1 (fun _ => by omega) w ha)
    rw [← hk, decide_eq_true h]
    have e1 : IntKind.i64.wrap (n + 1) = n + 1 := IntWalk.i64_in _ (by omega)
    have e2 : IntKind.i64.wrap (-(n + 1)) = -(n + 1) := IntWalk.i64_in _ (by omega)
    have e3 : IntKind.u64.wrap (-(n + 1)) = -(n + 1) := by rw [IntKind.wrap_u64]; omega
    have e4 : IntKind.u64.wrap (-(n + 1) + 1) = (k : Int) := by rw [IntKind.wrap_u64]; omega
    clear hk b1 b2 h1
    go_enter Tryd.func21, Tryd.ntmps21
    go_wp2_with (first
      | (go_at_call 65; ((with_reducible refine (H1.out _).mono ?_); rintro e w1 ⟨v1, rfl, r1, b1⟩; obtain ⟨os1, d1, rfl⟩ := ext_of_below b1; clear b1))
      | (go_at_call 70; ((with_reducible refine (H2.out _ _ r1.rd).mono ?_); rintro e w2 ⟨rfl, b2⟩; obtain ⟨os2, d2, rfl⟩ := ext_of_below b2; clear b2)))
    all_goals (first | (go_ret; exact ⟨rfl, by (repeat' (first | (with_reducible exact Below.refl _ _) | (with_reducible assumption) | (with_reducible refine Below.alloc ?_ ?_ _) | (with_reducible refine below_drewN ?_ _) | (with_reducible refine below_drew ?_) | (with_reducible refine below_ext ?_ ?_ _ _) | (with_reducible refine Below.setCell ?_ ?_ _) | (simp; done) | (simp; omega) | omega))⟩) | (go_returns; exact ⟨rfl, by (repeat' (first | (with_reducible exact Below.refl _ _) | (with_reducible assumption) | (with_reducible refine Below.alloc ?_ ?_ _) | (with_reducible refine below_drewN ?_ _) | (with_reducible refine below_drew ?_) | (with_reducible refine below_ext ?_ ?_ _ _) | (with_reducible refine Below.setCell ?_ ?_ _) | (simp; done) | (simp; omega) | omega))⟩))
  · obtain ⟨k, rfl⟩ : ∃ k : Nat, n = (k : Int) := ⟨n.toNat, by omega⟩
    rw [decide_eq_false h, Int.natAbs_natCast]
    rw [Int.natAbs_natCast] at b1 b2
    have H1 := Lib.hid (fun w => small_any k (by omega) w)
    have H2 := Lib.hid (fun v w ha => rmake_0 false v k b1 (fun h => nomatch h) w ha)
    clear b1 b2
    go_enter Tryd.func21, Tryd.ntmps21
    go_wp2_with (first
      | (go_at_call 71; ((with_reducible refine (H1.out _).mono ?_); rintro e w1 ⟨v1, rfl, r1, b1⟩; obtain ⟨os1, d1, rfl⟩ := ext_of_below b1; clear b1))
      | (go_at_call 70; ((with_reducible refine (H2.out _ _ r1.rd).mono ?_); rintro e w2 ⟨rfl, b2⟩; obtain ⟨os2, d2, rfl⟩ := ext_of_below b2; clear b2)))
    all_goals (first | (go_ret; exact ⟨rfl, by (repeat' (first | (with_reducible exact Below.refl _ _) | (with_reducible assumption) | (with_reducible refine Below.alloc ?_ ?_ _) | (with_reducible refine below_drewN ?_ _) | (with_reducible refine below_drew ?_) | (with_reducible refine below_ext ?_ ?_ _ _) | (with_reducible refine Below.setCell ?_ ?_ _) | (simp; done) | (simp; omega) | omega))⟩) | (go_returns; exact ⟨rfl, by (repeat' (first | (with_reducible exact Below.refl _ _) | (with_reducible assumption) | (with_reducible refine Below.alloc ?_ ?_ _) | (with_reducible refine below_drewN ?_ _) | (with_reducible refine below_drew ?_) | (with_reducible refine below_ext ?_ ?_ _ _) | (with_reducible refine Below.setCell ?_ ?_ _) | (simp; done) | (simp; omega) | omega))⟩))
set_option maxHeartbeats 4000000 in
theorem docMake_ok (neg : Bool) (c s : Nat) (F : Option (Nat × Nat)) (hF : F = Fit.fit c (10 ^ s) 19) (hc : c < top2) (hs : s ≤ 60) (w : World) :
    Calls Tryd.prog 22 #[.bool neg, W c, .int .i64 (s : Int)] w fun e w' => e = .returned (.tuple #[FV neg F, .int .i64 (fitE F)]) ∧ Below w.heap.size w w' := by
  have H1 := Lib.hid (fun w => of_any c hc w)
  have H2 := Lib.hid (fun w => one_any s (by omega) w)
  have h3 := fun va vb w ha hb => rfit_any neg va vb c (10 ^ s) F hF (Fit.pp _) (by have := len2 hc; omega) (Nat.le_trans (dg_len_le (k := 61).2 (Nat.pow_lt_pow_right (by decide) (by omega))) (by omega)) w ha hb
  obtain ⟨T, hT⟩ : ∃ T, T = 10 ^ s := ⟨_, rfl⟩
  rw [← hT] at H2 h3
  unfold FV at *
  obtain ⟨vg, hvg⟩ : ∃ x, x = (neg && decide (0 < fitC F)) := ⟨_, rfl⟩
  obtain ⟨vc, hvc⟩ : ∃ x, x = fitC F := ⟨_, rfl⟩
  obtain ⟨vz, hvz⟩ : ∃ x, x = fitZ F := ⟨_, rfl⟩
  obtain ⟨ve, hve⟩ : ∃ x, x = fitE F := ⟨_, rfl⟩
  rw [← hvg, ← hvc, ← hvz, ← hve] at h3 ⊢
  have H3 := Lib.hid h3
  clear h3 hF hc hvg hvc hvz hve hT
  go_enter Tryd.func22, Tryd.ntmps22
  have h1 : ¬ (s : Int) < 0 := by omega
  have h2 : ¬ (60 : Int) < (s : Int) := by omega
  go_wp2_with (first
    | (go_at_call 65; ((with_reducible refine (H1.out _).mono ?_); rintro e w1 ⟨v1, rfl, r1, b1⟩; obtain ⟨os1, d1, rfl⟩ := ext_of_below b1; clear b1))
    | (go_at_call 73; ((with_reducible refine (H2.out _).mono ?_); rintro e w2 ⟨v2, rfl, r2, b2⟩; obtain ⟨os2, d2, rfl⟩ := ext_of_below b2; clear b2))
    | (go_at_call 72; ((with_reducible refine (H3.out _ _ _ (r1.rd.later (by (repeat' (first | (with_reducible exact Below.refl _ _) | (with_reducible assumption) | (with_reducible refine Below.alloc ?_ ?_ _) | (with_reducible refine below_drewN ?_ _) | (with_reducible refine below_drew ?_) | (with_reducible refine below_ext ?_ ?_ _ _) | (with_reducible refine Below.setCell ?_ ?_ _) | (simp; done) | (simp; omega) | omega)))) r2.rd).mono ?_); rintro e w3 ⟨rfl, b3⟩; obtain ⟨os3, d3, rfl⟩ := ext_of_below b3; clear b3)))
  all_goals (go_returns; exact ⟨rfl, by (repeat' (first | (with_reducible exact Below.refl _ _) | (with_reducible assumption) | (with_reducible refine Below.alloc ?_ ?_ _) | (with_reducible refine below_drewN ?_ _) | (with_reducible refine below_drew ?_) | (with_reducible refine below_ext ?_ ?_ _ _) | (with_reducible refine Below.setCell ?_ ?_ _) | (simp; done) | (simp; omega) | omega))⟩)
theorem docMake_bad (neg : Bool) (c : Nat) (s : Int) (hs : s < 0 ∨ (¬ s < 0 ∧ 60 < s)) (w : World) :
    Calls Tryd.prog 22 #[.bool neg, W c, .int .i64 s] w fun e w' => e = .returned (.tuple #[D false 0 0, .int .i64 1]) ∧ Below w.heap.size w w' := by
  rw [← dbad_D]
  rcases hs with hs | ⟨h0, hs⟩
  all_goals
    go_enter Tryd.func22, Tryd.ntmps22
    go_wp2
    go_returns
    exact ⟨rfl, by (repeat' (first | (with_reducible exact Below.refl _ _) | (with_reducible assumption) | (with_reducible refine Below.alloc ?_ ?_ _) | (with_reducible refine below_drewN ?_ _) | (with_reducible refine below_drew ?_) | (with_reducible refine below_ext ?_ ?_ _ _) | (with_reducible refine Below.setCell ?_ ?_ _) | (simp; done) | (simp; omega) | omega))⟩
theorem makePair (neg : Bool) (c : Nat) (s : Int) (hc : c < top2) : ∃ n k z e0,
    (∀ w, Tens w → Calls Tryd.prog 23 #[.bool neg, W c, .int .i64 s] w fun e w' => e = .returned (.tuple #[D n k z, .int .i64 e0]) ∧ Below w.heap.size w w') ∧
    (∀ w, Calls Tryd.prog 22 #[.bool neg, W c, .int .i64 s] w fun e w' => e = .returned (.tuple #[D n k z, .int .i64 e0]) ∧ Below w.heap.size w w') := by
  by_cases h : 0 ≤ s ∧ s ≤ 60
  · obtain ⟨S, rfl⟩ : ∃ S : Nat, s = (S : Int) := ⟨s.toNat, by omega⟩
    exact ⟨_, _, _, _, fun w ht => dmake_ok neg c S _ rfl hc (by omega) w ht, fun w => docMake_ok neg c S _ rfl hc (by omega) w⟩
  · exact ⟨false, 0, 0, 1, fun w _ => dmake_bad neg c s (by omega) w, fun w => docMake_bad neg c s (by omega) w⟩
theorem dint_bad (neg : Bool) (c : Nat) (s : Int) (hc : c < top2) (f : formB neg c s = false) (w : World) (ht : Tens w) :
    Calls Tryd.prog 25 #[D neg c s] w fun e w' => e = .returned (.tuple #[.int .i64 0, .int .i64 2]) ∧ Below w.heap.size w w' := by
  have HT := Lib.hid (fun w' (hb : Below w.heap.size w w') => ht.below hb)
  have F1 := Lib.hid (fun w ht => form_no hc f w ht)
  clear ht f hc
  go_enter Tryd.func25, Tryd.ntmps25
  go_wp2_with (first
    | (go_at_call 18; ((with_reducible refine (F1.out _ (HT.out _ (by (repeat' (first | (with_reducible exact Below.refl _ _) | (with_reducible assumption) | (with_reducible refine Below.alloc ?_ ?_ _) | (with_reducible refine below_drewN ?_ _) | (with_reducible refine below_drew ?_) | (with_reducible refine below_ext ?_ ?_ _ _) | (with_reducible refine Below.setCell ?_ ?_ _) | (simp; done) | (simp; omega) | omega))))).mono ?_); rintro e w1 ⟨rfl, hb1⟩; obtain ⟨osA, dA, rfl⟩ := ext_of_below hb1; clear hb1)))
  go_returns
  exact ⟨rfl, by (repeat' (first | (with_reducible exact Below.refl _ _) | (with_reducible assumption) | (with_reducible refine Below.alloc ?_ ?_ _) | (with_reducible refine below_drewN ?_ _) | (with_reducible refine below_drew ?_) | (with_reducible refine below_ext ?_ ?_ _ _) | (with_reducible refine Below.setCell ?_ ?_ _) | (simp; done) | (simp; omega) | omega))⟩
theorem dint_type (neg : Bool) (c : Nat) (s : Int) (f : formB neg c s = true) (hs : 0 < s) (w : World) (ht : Tens w) :
    Calls Tryd.prog 25 #[D neg c s] w fun e w' => e = .returned (.tuple #[.int .i64 0, .int .i64 9]) ∧ Below w.heap.size w w' := by
  have HT := Lib.hid (fun w' (hb : Below w.heap.size w w') => ht.below hb)
  have F1 := Lib.hid (fun w ht => form_yes f w ht)
  clear ht f
  go_enter Tryd.func25, Tryd.ntmps25
  go_wp2_with (first
    | (go_at_call 18; ((with_reducible refine (F1.out _ (HT.out _ (by (repeat' (first | (with_reducible exact Below.refl _ _) | (with_reducible assumption) | (with_reducible refine Below.alloc ?_ ?_ _) | (with_reducible refine below_drewN ?_ _) | (with_reducible refine below_drew ?_) | (with_reducible refine below_ext ?_ ?_ _ _) | (with_reducible refine Below.setCell ?_ ?_ _) | (simp; done) | (simp; omega) | omega))))).mono ?_); rintro e w1 ⟨rfl, hb1⟩; obtain ⟨osA, dA, rfl⟩ := ext_of_below hb1; clear hb1)))
  go_returns
  exact ⟨rfl, by (repeat' (first | (with_reducible exact Below.refl _ _) | (with_reducible assumption) | (with_reducible refine Below.alloc ?_ ?_ _) | (with_reducible refine below_drewN ?_ _) | (with_reducible refine below_drew ?_) | (with_reducible refine below_ext ?_ ?_ _ _) | (with_reducible refine Below.setCell ?_ ?_ _) | (simp; done) | (simp; omega) | omega))⟩
theorem dint_false_over (c : Nat) (f : formB false c 0 = true) (hb : 9223372036854775807 < c) (w : World) (ht : Tens w) :
    Calls Tryd.prog 25 #[D false c 0] w fun e w' => e = .returned (.tuple #[.int .i64 0, .int .i64 3]) ∧ Below w.heap.size w w' := by
  have HT := Lib.hid (fun w' (hb : Below w.heap.size w w') => ht.below hb)
  have F1 := Lib.hid (fun w ht => form_yes f w ht)
  have h1 := fun w => cmp_any c 9223372036854775807 (form_c f) (by unfold top2; decide) w
  rw [show W 9223372036854775807 = .agg #[.int .u64 0, .int .u64 9223372036854775807] from W_small (by decide)] at h1
  rw [cmpv_gt hb] at h1
  have H1 := Lib.hid h1
  clear ht f h1 hb
  go_enter Tryd.func25, Tryd.ntmps25
  go_wp2_with (first
    | (go_at_call 18; ((with_reducible refine (F1.out _ (HT.out _ (by (repeat' (first | (with_reducible exact Below.refl _ _) | (with_reducible assumption) | (with_reducible refine Below.alloc ?_ ?_ _) | (with_reducible refine below_drewN ?_ _) | (with_reducible refine below_drew ?_) | (with_reducible refine below_ext ?_ ?_ _ _) | (with_reducible refine Below.setCell ?_ ?_ _) | (simp; done) | (simp; omega) | omega))))).mono ?_); rintro e w1 ⟨rfl, hb1⟩; obtain ⟨osA, dA, rfl⟩ := ext_of_below hb1; clear hb1))
    | (go_at_call 75; ((with_reducible refine (H1.out _).mono ?_); rintro e w1 ⟨rfl, hb1⟩; obtain ⟨osB, dB, rfl⟩ := ext_of_below hb1; clear hb1)))
  all_goals (go_returns; exact ⟨rfl, by (repeat' (first | (with_reducible exact Below.refl _ _) | (with_reducible assumption) | (with_reducible refine Below.alloc ?_ ?_ _) | (with_reducible refine below_drewN ?_ _) | (with_reducible refine below_drew ?_) | (with_reducible refine below_ext ?_ ?_ _ _) | (with_reducible refine Below.setCell ?_ ?_ _) | (simp; done) | (simp; omega) | omega))⟩)
theorem dint_false (c : Nat) (f : formB false c 0 = true) (hb : c ≤ 9223372036854775807) (w : World) (ht : Tens w) :
    Calls Tryd.prog 25 #[D false c 0] w fun e w' => e = .returned (.tuple #[.int .i64 (c : Int), .int .i64 0]) ∧ Below w.heap.size w w' := by
  have HT := Lib.hid (fun w' (hb : Below w.heap.size w w') => ht.below hb)
  have F1 := Lib.hid (fun w ht => form_yes f w ht)
  have h1 := fun w => cmp_any c 9223372036854775807 (form_c f) (by unfold top2; decide) w
  rw [show W 9223372036854775807 = .agg #[.int .u64 0, .int .u64 9223372036854775807] from W_small (by decide)] at h1
  have hz : ¬ 0 < cmpv c 9223372036854775807 := by
    unfold cmpv
    split
    · decide
    · rw [if_neg (by omega)]; decide
  obtain ⟨z, hzz⟩ : ∃ z, z = cmpv c 9223372036854775807 := ⟨_, rfl⟩
  rw [← hzz] at h1 hz
  rw [W_small (by omega)] at h1
  rw [D_small (by omega)] at F1 ⊢
  have H1 := Lib.hid h1
  have e1 : IntKind.i64.wrap (c : Int) = (c : Int) := IntWalk.i64_in _ (by omega)
  clear ht f h1 hb hzz
  go_enter Tryd.func25, Tryd.ntmps25
  go_wp2_with (first
    | (go_at_call 18; ((with_reducible refine (F1.out _ (HT.out _ (by (repeat' (first | (with_reducible exact Below.refl _ _) | (with_reducible assumption) | (with_reducible refine Below.alloc ?_ ?_ _) | (with_reducible refine below_drewN ?_ _) | (with_reducible refine below_drew ?_) | (with_reducible refine below_ext ?_ ?_ _ _) | (with_reducible refine Below.setCell ?_ ?_ _) | (simp; done) | (simp; omega) | omega))))).mono ?_); rintro e w1 ⟨rfl, hb1⟩; obtain ⟨osA, dA, rfl⟩ := ext_of_below hb1; clear hb1))
    | (go_at_call 75; ((with_reducible refine (H1.out _).mono ?_); rintro e w1 ⟨rfl, hb1⟩; obtain ⟨osB, dB, rfl⟩ := ext_of_below hb1; clear hb1)))
  all_goals (first | (go_returns; exact ⟨rfl, by (repeat' (first | (with_reducible exact Below.refl _ _) | (with_reducible assumption) | (with_reducible refine Below.alloc ?_ ?_ _) | (with_reducible refine below_drewN ?_ _) | (with_reducible refine below_drew ?_) | (with_reducible refine below_ext ?_ ?_ _ _) | (with_reducible refine Below.setCell ?_ ?_ _) | (simp; done) | (simp; omega) | omega))⟩))
theorem dint_true_over (c : Nat) (f : formB true c 0 = true) (hb : 9223372036854775808 < c) (w : World) (ht : Tens w) :
    Calls Tryd.prog 25 #[D true c 0] w fun e w' => e = .returned (.tuple #[.int .i64 0, .int .i64 3]) ∧ Below w.heap.size w w' := by
  have HT := Lib.hid (fun w' (hb : Below w.heap.size w w') => ht.below hb)
  have F1 := Lib.hid (fun w ht => form_yes f w ht)
  have h1 := fun w => cmp_any c 9223372036854775808 (form_c f) (by unfold top2; decide) w
  rw [show W 9223372036854775808 = .agg #[.int .u64 0, .int .u64 9223372036854775808] from W_small (by decide)] at h1
  rw [cmpv_gt hb] at h1
  have H1 := Lib.hid h1
  clear ht f h1 hb
  go_enter Tryd.func25, Tryd.ntmps25
  go_wp2_with (first
    | (go_at_call 18; ((with_reducible refine (F1.out _ (HT.out _ (by (repeat' (first | (with_reducible exact Below.refl _ _) | (with_reducible assumption) | (with_reducible refine Below.alloc ?_ ?_ _) | (with_reducible refine below_drewN ?_ _) | (with_reducible refine below_drew ?_) | (with_reducible refine below_ext ?_ ?_ _ _) | (with_reducible refine Below.setCell ?_ ?_ _) | (simp; done) | (simp; omega) | omega))))).mono ?_); rintro e w1 ⟨rfl, hb1⟩; obtain ⟨osA, dA, rfl⟩ := ext_of_below hb1; clear hb1))
    | (go_at_call 75; ((with_reducible refine (H1.out _).mono ?_); rintro e w1 ⟨rfl, hb1⟩; obtain ⟨osB, dB, rfl⟩ := ext_of_below hb1; clear hb1)))
  all_goals (go_returns; exact ⟨rfl, by (repeat' (first | (with_reducible exact Below.refl _ _) | (with_reducible assumption) | (with_reducible refine Below.alloc ?_ ?_ _) | (with_reducible refine below_drewN ?_ _) | (with_reducible refine below_drew ?_) | (with_reducible refine below_ext ?_ ?_ _ _) | (with_reducible refine Below.setCell ?_ ?_ _) | (simp; done) | (simp; omega) | omega))⟩)
theorem dint_true (c : Nat) (f : formB true c 0 = true) (hb : c ≤ 9223372036854775808) (w : World) (ht : Tens w) :
    Calls Tryd.prog 25 #[D true c 0] w fun e w' => e = .returned (.tuple #[.int .i64 (-(c : Int)), .int .i64 0]) ∧ Below w.heap.size w w' := by
  have HT := Lib.hid (fun w' (hb : Below w.heap.size w w') => ht.below hb)
  have F1 := Lib.hid (fun w ht => form_yes f w ht)
  have h1 := fun w => cmp_any c 9223372036854775808 (form_c f) (by unfold top2; decide) w
  rw [show W 9223372036854775808 = .agg #[.int .u64 0, .int .u64 9223372036854775808] from W_small (by decide)] at h1
  have hz : ¬ 0 < cmpv c 9223372036854775808 := by
    unfold cmpv
    split
    · decide
    · rw [if_neg (by omega)]; decide
  obtain ⟨z, hzz⟩ : ∃ z, z = cmpv c 9223372036854775808 := ⟨_, rfl⟩
  rw [← hzz] at h1 hz
  rw [W_small (by omega)] at h1
  rw [D_small (by omega)] at F1 ⊢
  have H1 := Lib.hid h1
  have hc0 : 0 < c := by
    obtain ⟨S, hS, _, _, h3, h4⟩ := form_open f
    have := h3 (by omega) rfl
    omega
  have e1 : IntKind.u64.wrap (-(c : Int)) = 18446744073709551616 - (c : Int) := by rw [IntKind.wrap_u64]; omega
  have e2 : IntKind.i64.wrap (18446744073709551616 - (c : Int)) = -(c : Int) := by rw [IntKind.wrap_i64]; omega
  clear ht f h1 hb hzz hc0
  go_enter Tryd.func25, Tryd.ntmps25
  go_wp2_with (first
    | (go_at_call 18; ((with_reducible refine (F1.out _ (HT.out _ (by (repeat' (first | (with_reducible exact Below.refl _ _) | (with_reducible assumption) | (with_reducible refine Below.alloc ?_ ?_ _) | (with_reducible refine below_drewN ?_ _) | (with_reducible refine below_drew ?_) | (with_reducible refine below_ext ?_ ?_ _ _) | (with_reducible refine Below.setCell ?_ ?_ _) | (simp; done) | (simp; omega) | omega))))).mono ?_); rintro e w1 ⟨rfl, hb1⟩; obtain ⟨osA, dA, rfl⟩ := ext_of_below hb1; clear hb1))
    | (go_at_call 75; ((with_reducible refine (H1.out _).mono ?_); rintro e w1 ⟨rfl, hb1⟩; obtain ⟨osB, dB, rfl⟩ := ext_of_below hb1; clear hb1)))
  all_goals (first | (go_returns; exact ⟨rfl, by (repeat' (first | (with_reducible exact Below.refl _ _) | (with_reducible assumption) | (with_reducible refine Below.alloc ?_ ?_ _) | (with_reducible refine below_drewN ?_ _) | (with_reducible refine below_drew ?_) | (with_reducible refine below_ext ?_ ?_ _ _) | (with_reducible refine Below.setCell ?_ ?_ _) | (simp; done) | (simp; omega) | omega))⟩))
theorem docInt_bad (neg : Bool) (c : Nat) (s : Int) (hc : c < top2) (f : formB neg c s = false) (w : World) :
    Calls Tryd.prog 24 #[D neg c s] w fun e w' => e = .returned (.tuple #[.int .i64 0, .int .i64 2]) ∧ Below w.heap.size w w' := by
  have F1 := Lib.hid (fun w => rform_no hc f w)
  clear f hc
  go_enter Tryd.func24, Tryd.ntmps24
  go_wp2_with (first
    | (go_at_call 19; ((with_reducible refine (F1.out _).mono ?_); rintro e w1 ⟨rfl, hb1⟩; obtain ⟨osA, dA, rfl⟩ := ext_of_below hb1; clear hb1)))
  go_returns
  exact ⟨rfl, by (repeat' (first | (with_reducible exact Below.refl _ _) | (with_reducible assumption) | (with_reducible refine Below.alloc ?_ ?_ _) | (with_reducible refine below_drewN ?_ _) | (with_reducible refine below_drew ?_) | (with_reducible refine below_ext ?_ ?_ _ _) | (with_reducible refine Below.setCell ?_ ?_ _) | (simp; done) | (simp; omega) | omega))⟩
theorem docInt_type (neg : Bool) (c : Nat) (s : Int) (f : formB neg c s = true) (hs : 0 < s) (w : World) :
    Calls Tryd.prog 24 #[D neg c s] w fun e w' => e = .returned (.tuple #[.int .i64 0, .int .i64 9]) ∧ Below w.heap.size w w' := by
  have F1 := Lib.hid (fun w => rform_yes f w)
  clear f
  go_enter Tryd.func24, Tryd.ntmps24
  go_wp2_with (first
    | (go_at_call 19; ((with_reducible refine (F1.out _).mono ?_); rintro e w1 ⟨rfl, hb1⟩; obtain ⟨osA, dA, rfl⟩ := ext_of_below hb1; clear hb1)))
  go_returns
  exact ⟨rfl, by (repeat' (first | (with_reducible exact Below.refl _ _) | (with_reducible assumption) | (with_reducible refine Below.alloc ?_ ?_ _) | (with_reducible refine below_drewN ?_ _) | (with_reducible refine below_drew ?_) | (with_reducible refine below_ext ?_ ?_ _ _) | (with_reducible refine Below.setCell ?_ ?_ _) | (simp; done) | (simp; omega) | omega))⟩
set_option maxHeartbeats 4000000 in
theorem docInt_false_over (c : Nat) (f : formB false c 0 = true) (hb : 9223372036854775807 < c) (w : World) :
    Calls Tryd.prog 24 #[D false c 0] w fun e w' => e = .returned (.tuple #[.int .i64 0, .int .i64 3]) ∧ Below w.heap.size w w' := by
  have F1 := Lib.hid (fun w => rform_yes f w)
  by_cases h64 : c < 18446744073709551616
  · rw [D_small h64] at F1 ⊢
    rcases (show c = 9223372036854775808 ∨ 9223372036854775808 < c by omega) with rfl | hb2
    · have F2 := Lib.hid (show ∀ w, Calls Tryd.prog 19 #[.agg #[.bool false, .int .u64 0, .int .u64 9223372036854775808, .int .i64 0]] w fun e w' => e = .returned (.bool true) ∧ Below w.heap.size w w' from F1.out)
      clear f hb h64 F1
      go_enter Tryd.func24, Tryd.ntmps24
      go_wp2_with (first
        | (go_at_call 19; ((with_reducible refine (F2.out _).mono ?_); rintro e w1 ⟨rfl, hb1⟩; obtain ⟨osA, dA, rfl⟩ := ext_of_below hb1; clear hb1)))
      all_goals (first | (go_returns; exact ⟨rfl, by (repeat' (first | (with_reducible exact Below.refl _ _) | (with_reducible assumption) | (with_reducible refine Below.alloc ?_ ?_ _) | (with_reducible refine below_drewN ?_ _) | (with_reducible refine below_drew ?_) | (with_reducible refine below_ext ?_ ?_ _ _) | (with_reducible refine Below.setCell ?_ ?_ _) | (simp; done) | (simp; omega) | omega))⟩) | (go_returns; exact ⟨by congr 4; omega, by (repeat' (first | (with_reducible exact Below.refl _ _) | (with_reducible assumption) | (with_reducible refine Below.alloc ?_ ?_ _) | (with_reducible refine below_drewN ?_ _) | (with_reducible refine below_drew ?_) | (with_reducible refine below_ext ?_ ?_ _ _) | (with_reducible refine Below.setCell ?_ ?_ _) | (simp; done) | (simp; omega) | omega))⟩))
    have hbi : ¬ (c : Int) ≤ 9223372036854775808 := by omega
    clear f hb h64 hb2
    go_enter Tryd.func24, Tryd.ntmps24
    go_wp2_with (first
      | (go_at_call 19; ((with_reducible refine (F1.out _).mono ?_); rintro e w1 ⟨rfl, hb1⟩; obtain ⟨osA, dA, rfl⟩ := ext_of_below hb1; clear hb1)))
    all_goals (first | (go_returns; exact ⟨rfl, by (repeat' (first | (with_reducible exact Below.refl _ _) | (with_reducible assumption) | (with_reducible refine Below.alloc ?_ ?_ _) | (with_reducible refine below_drewN ?_ _) | (with_reducible refine below_drew ?_) | (with_reducible refine below_ext ?_ ?_ _ _) | (with_reducible refine Below.setCell ?_ ?_ _) | (simp; done) | (simp; omega) | omega))⟩) | (go_returns; exact ⟨by congr 4; omega, by (repeat' (first | (with_reducible exact Below.refl _ _) | (with_reducible assumption) | (with_reducible refine Below.alloc ?_ ?_ _) | (with_reducible refine below_drewN ?_ _) | (with_reducible refine below_drew ?_) | (with_reducible refine below_ext ?_ ?_ _ _) | (with_reducible refine Below.setCell ?_ ?_ _) | (simp; done) | (simp; omega) | omega))⟩))
  · have hh : 0 < hi c := by unfold hi; omega
    clear f hb h64
    go_enter Tryd.func24, Tryd.ntmps24
    go_wp2_with (first
      | (go_at_call 19; ((with_reducible refine (F1.out _).mono ?_); rintro e w1 ⟨rfl, hb1⟩; obtain ⟨osA, dA, rfl⟩ := ext_of_below hb1; clear hb1)))
    all_goals (first | (go_returns; exact ⟨rfl, by (repeat' (first | (with_reducible exact Below.refl _ _) | (with_reducible assumption) | (with_reducible refine Below.alloc ?_ ?_ _) | (with_reducible refine below_drewN ?_ _) | (with_reducible refine below_drew ?_) | (with_reducible refine below_ext ?_ ?_ _ _) | (with_reducible refine Below.setCell ?_ ?_ _) | (simp; done) | (simp; omega) | omega))⟩) | (go_returns; exact ⟨by congr 4; omega, by (repeat' (first | (with_reducible exact Below.refl _ _) | (with_reducible assumption) | (with_reducible refine Below.alloc ?_ ?_ _) | (with_reducible refine below_drewN ?_ _) | (with_reducible refine below_drew ?_) | (with_reducible refine below_ext ?_ ?_ _ _) | (with_reducible refine Below.setCell ?_ ?_ _) | (simp; done) | (simp; omega) | omega))⟩))
set_option maxHeartbeats 4000000 in
theorem docInt_false (c : Nat) (f : formB false c 0 = true) (hb : c ≤ 9223372036854775807) (w : World) :
    Calls Tryd.prog 24 #[D false c 0] w fun e w' => e = .returned (.tuple #[.int .i64 (c : Int), .int .i64 0]) ∧ Below w.heap.size w w' := by
  have F1 := Lib.hid (fun w => rform_yes f w)
  rw [D_small (by omega)] at F1 ⊢
  have e1 : IntKind.i64.wrap (c : Int) = (c : Int) := IntWalk.i64_in _ (by omega)
  have hbi : ¬ (9223372036854775808 : Int) < (c : Int) := by omega
  have hb2 : ((c : Int) == 9223372036854775808) = false := beq_eq_false_iff_ne.2 (by omega)
  clear f hb
  go_enter Tryd.func24, Tryd.ntmps24
  go_wp2_with (first
    | (go_at_call 19; ((with_reducible refine (F1.out _).mono ?_); rintro e w1 ⟨rfl, hb1⟩; obtain ⟨osA, dA, rfl⟩ := ext_of_below hb1; clear hb1)))
  all_goals (first | (go_returns; exact ⟨rfl, by (repeat' (first | (with_reducible exact Below.refl _ _) | (with_reducible assumption) | (with_reducible refine Below.alloc ?_ ?_ _) | (with_reducible refine below_drewN ?_ _) | (with_reducible refine below_drew ?_) | (with_reducible refine below_ext ?_ ?_ _ _) | (with_reducible refine Below.setCell ?_ ?_ _) | (simp; done) | (simp; omega) | omega))⟩) | (go_returns; exact ⟨by congr 4; omega, by (repeat' (first | (with_reducible exact Below.refl _ _) | (with_reducible assumption) | (with_reducible refine Below.alloc ?_ ?_ _) | (with_reducible refine below_drewN ?_ _) | (with_reducible refine below_drew ?_) | (with_reducible refine below_ext ?_ ?_ _ _) | (with_reducible refine Below.setCell ?_ ?_ _) | (simp; done) | (simp; omega) | omega))⟩))
set_option maxHeartbeats 4000000 in
theorem docInt_true_over (c : Nat) (f : formB true c 0 = true) (hb : 9223372036854775808 < c) (w : World) :
    Calls Tryd.prog 24 #[D true c 0] w fun e w' => e = .returned (.tuple #[.int .i64 0, .int .i64 3]) ∧ Below w.heap.size w w' := by
  have F1 := Lib.hid (fun w => rform_yes f w)
  by_cases h64 : c < 18446744073709551616
  · rw [D_small h64] at F1 ⊢
    have hbi : ¬ (c : Int) ≤ 9223372036854775808 := by omega
    clear f hb h64
    go_enter Tryd.func24, Tryd.ntmps24
    go_wp2_with (first
      | (go_at_call 19; ((with_reducible refine (F1.out _).mono ?_); rintro e w1 ⟨rfl, hb1⟩; obtain ⟨osA, dA, rfl⟩ := ext_of_below hb1; clear hb1)))
    all_goals (first | (go_returns; exact ⟨rfl, by (repeat' (first | (with_reducible exact Below.refl _ _) | (with_reducible assumption) | (with_reducible refine Below.alloc ?_ ?_ _) | (with_reducible refine below_drewN ?_ _) | (with_reducible refine below_drew ?_) | (with_reducible refine below_ext ?_ ?_ _ _) | (with_reducible refine Below.setCell ?_ ?_ _) | (simp; done) | (simp; omega) | omega))⟩) | (go_returns; exact ⟨by congr 4; omega, by (repeat' (first | (with_reducible exact Below.refl _ _) | (with_reducible assumption) | (with_reducible refine Below.alloc ?_ ?_ _) | (with_reducible refine below_drewN ?_ _) | (with_reducible refine below_drew ?_) | (with_reducible refine below_ext ?_ ?_ _ _) | (with_reducible refine Below.setCell ?_ ?_ _) | (simp; done) | (simp; omega) | omega))⟩))
  · have hh : 0 < hi c := by unfold hi; omega
    clear f hb h64
    go_enter Tryd.func24, Tryd.ntmps24
    go_wp2_with (first
      | (go_at_call 19; ((with_reducible refine (F1.out _).mono ?_); rintro e w1 ⟨rfl, hb1⟩; obtain ⟨osA, dA, rfl⟩ := ext_of_below hb1; clear hb1)))
    all_goals (first | (go_returns; exact ⟨rfl, by (repeat' (first | (with_reducible exact Below.refl _ _) | (with_reducible assumption) | (with_reducible refine Below.alloc ?_ ?_ _) | (with_reducible refine below_drewN ?_ _) | (with_reducible refine below_drew ?_) | (with_reducible refine below_ext ?_ ?_ _ _) | (with_reducible refine Below.setCell ?_ ?_ _) | (simp; done) | (simp; omega) | omega))⟩) | (go_returns; exact ⟨by congr 4; omega, by (repeat' (first | (with_reducible exact Below.refl _ _) | (with_reducible assumption) | (with_reducible refine Below.alloc ?_ ?_ _) | (with_reducible refine below_drewN ?_ _) | (with_reducible refine below_drew ?_) | (with_reducible refine below_ext ?_ ?_ _ _) | (with_reducible refine Below.setCell ?_ ?_ _) | (simp; done) | (simp; omega) | omega))⟩))
set_option maxHeartbeats 4000000 in
theorem docInt_true (c : Nat) (f : formB true c 0 = true) (hb : c ≤ 9223372036854775808) (w : World) :
    Calls Tryd.prog 24 #[D true c 0] w fun e w' => e = .returned (.tuple #[.int .i64 (-(c : Int)), .int .i64 0]) ∧ Below w.heap.size w w' := by
  have F1 := Lib.hid (fun w => rform_yes f w)
  rw [D_small (by omega)] at F1 ⊢
  rcases (show c = 9223372036854775808 ∨ c < 9223372036854775808 by omega) with rfl | hb3
  · have F2 := Lib.hid (show ∀ w, Calls Tryd.prog 19 #[.agg #[.bool true, .int .u64 0, .int .u64 9223372036854775808, .int .i64 0]] w fun e w' => e = .returned (.bool true) ∧ Below w.heap.size w w' from F1.out)
    show Calls Tryd.prog 24 #[.agg #[.bool true, .int .u64 0, .int .u64 9223372036854775808, .int .i64 0]] w fun e w' => e = .returned (.tuple #[.int .i64 (-9223372036854775808), .int .i64 0]) ∧ Below w.heap.size w w'
    clear f hb F1
    go_enter Tryd.func24, Tryd.ntmps24
    go_wp2_with (first
      | (go_at_call 19; ((with_reducible refine (F2.out _).mono ?_); rintro e w1 ⟨rfl, hb1⟩; obtain ⟨osA, dA, rfl⟩ := ext_of_below hb1; clear hb1)))
    all_goals (first | (go_returns; exact ⟨rfl, by (repeat' (first | (with_reducible exact Below.refl _ _) | (with_reducible assumption) | (with_reducible refine Below.alloc ?_ ?_ _) | (with_reducible refine below_drewN ?_ _) | (with_reducible refine below_drew ?_) | (with_reducible refine below_ext ?_ ?_ _ _) | (with_reducible refine Below.setCell ?_ ?_ _) | (simp; done) | (simp; omega) | omega))⟩) | (go_returns; exact ⟨by congr 4; omega, by (repeat' (first | (with_reducible exact Below.refl _ _) | (with_reducible assumption) | (with_reducible refine Below.alloc ?_ ?_ _) | (with_reducible refine below_drewN ?_ _) | (with_reducible refine below_drew ?_) | (with_reducible refine below_ext ?_ ?_ _ _) | (with_reducible refine Below.setCell ?_ ?_ _) | (simp; done) | (simp; omega) | omega))⟩))
  have hc0 : 0 < c := by
    obtain ⟨S, hS, _, _, h3, h4⟩ := form_open f
    have := h3 (by omega) rfl
    omega
  obtain ⟨k, hk⟩ : ∃ k : Nat, c = k + 1 := ⟨c - 1, by omega⟩
  have e0 : IntKind.u64.wrap ((c : Int) - 1) = (k : Int) := by rw [IntKind.wrap_u64]; omega
  have e1 : IntKind.i64.wrap (k : Int) = (k : Int) := IntWalk.i64_in _ (by omega)
  have e2 : IntKind.i64.wrap (-(k : Int)) = -(k : Int) := IntWalk.i64_in _ (by omega)
  have e3 : IntKind.i64.wrap (-(k : Int) - 1) = -(c : Int) := by rw [show -(k : Int) - 1 = -(c : Int) by omega]; exact IntWalk.i64_in _ (by omega)
  have hbi : ¬ (9223372036854775808 : Int) < (c : Int) := by omega
  have hb2 : ((c : Int) == 9223372036854775808) = false := beq_eq_false_iff_ne.2 (by omega)
  clear f hb hk hb3
  go_enter Tryd.func24, Tryd.ntmps24
  go_wp2_with (first
    | (go_at_call 19; ((with_reducible refine (F1.out _).mono ?_); rintro e w1 ⟨rfl, hb1⟩; obtain ⟨osA, dA, rfl⟩ := ext_of_below hb1; clear hb1)))
  all_goals (first | (go_returns; exact ⟨rfl, by (repeat' (first | (with_reducible exact Below.refl _ _) | (with_reducible assumption) | (with_reducible refine Below.alloc ?_ ?_ _) | (with_reducible refine below_drewN ?_ _) | (with_reducible refine below_drew ?_) | (with_reducible refine below_ext ?_ ?_ _ _) | (with_reducible refine Below.setCell ?_ ?_ _) | (simp; done) | (simp; omega) | omega))⟩) | (go_returns; exact ⟨by congr 4; omega, by (repeat' (first | (with_reducible exact Below.refl _ _) | (with_reducible assumption) | (with_reducible refine Below.alloc ?_ ?_ _) | (with_reducible refine below_drewN ?_ _) | (with_reducible refine below_drew ?_) | (with_reducible refine below_ext ?_ ?_ _ _) | (with_reducible refine Below.setCell ?_ ?_ _) | (simp; done) | (simp; omega) | omega))⟩))
theorem intPair (neg : Bool) (c : Nat) (s : Int) (hc : c < top2) : ∃ r e0 : Int,
    (∀ w, Tens w → Calls Tryd.prog 25 #[D neg c s] w fun e w' => e = .returned (.tuple #[.int .i64 r, .int .i64 e0]) ∧ Below w.heap.size w w') ∧
    (∀ w, Calls Tryd.prog 24 #[D neg c s] w fun e w' => e = .returned (.tuple #[.int .i64 r, .int .i64 e0]) ∧ Below w.heap.size w w') := by
  cases f : formB neg c s with
  | false => exact ⟨0, 2, fun w ht => dint_bad neg c s hc f w ht, fun w => docInt_bad neg c s hc f w⟩
  | true =>
    obtain ⟨S, hS, _⟩ := form_open f
    rcases Nat.eq_zero_or_pos S with h | h
    · obtain rfl : s = 0 := by omega
      cases neg
      · by_cases hb : c ≤ 9223372036854775807
        · exact ⟨_, 0, fun w ht => dint_false c f hb w ht, fun w => docInt_false c f hb w⟩
        · exact ⟨0, 3, fun w ht => dint_false_over c f (by omega) w ht, fun w => docInt_false_over c f (by omega) w⟩
      · by_cases hb : c ≤ 9223372036854775808
        · exact ⟨_, 0, fun w ht => dint_true c f hb w ht, fun w => docInt_true c f hb w⟩
        · exact ⟨0, 3, fun w ht => dint_true_over c f (by omega) w ht, fun w => docInt_true_over c f (by omega) w⟩
    · exact ⟨0, 9, fun w ht => dint_type neg c s f (by omega) w ht, fun w => docInt_type neg c s f (by omega) w⟩
set_option maxRecDepth 100000 in
set_option maxHeartbeats 16000000 in
theorem decForms_law (neg : Bool) (c : Nat) (s : Int) (m : Bool) (n : Int) (hc : c < top2) (_z : (Lit.int .i64 s).wf = true) (zn : (Lit.int .i64 n).wf = true) (w : World) (ht : Tens w) :
    Calls Tryd.prog 4 #[D neg c s, .bool m, .int .i64 n] w fun e w' => e = .returned (.bool true) ∧ Below w.heap.size w w' := by
  have HT := Lib.hid (fun w' (hb : Below w.heap.size w w') => ht.below hb)
  obtain ⟨n1, k1, z1, e1, a1, a2⟩ := makePair m c n hc
  obtain ⟨n2, k2, z2, e2, b1, b2⟩ := makePair m c s hc
  obtain ⟨r3, e3, c1, c2⟩ := intPair neg c s hc
  have d1 := fun w ht => form_any neg c s hc w ht
  have d2 := fun w => rform_any neg c s hc w
  obtain ⟨fo, hfo⟩ : ∃ x, x = formB neg c s := ⟨_, rfl⟩
  rw [← hfo] at d1 d2
  have f1 := fun w => dof_any n zn w
  have f2 := fun w => docOf_any n zn w
  obtain ⟨o1, ho1⟩ : ∃ x, x = decide (n < 0) := ⟨_, rfl⟩
  obtain ⟨o2, ho2⟩ : ∃ x, x = n.natAbs := ⟨_, rfl⟩
  rw [← ho1, ← ho2] at f1 f2
  have A1 := Lib.hid a1; have A2 := Lib.hid a2; have B1 := Lib.hid b1; have B2 := Lib.hid b2; have C1 := Lib.hid c1; have C2 := Lib.hid c2; have D1 := Lib.hid d1; have D2 := Lib.hid d2; have F1 := Lib.hid f1; have F2 := Lib.hid f2
  clear a1 a2 b1 b2 c1 c2 d1 d2 f1 f2 hfo ho1 ho2 ht hc _z zn
  go_enter Tryd.func4, Tryd.ntmps4
  go_wp2_with fail
  go_region_held3 (fun w' => w'.cell? ⟨w.heap.size, 0, none⟩ = some (.bool neg) ∧ w'.cell? ⟨w.heap.size, 1, none⟩ = some (.int .u64 (hi c : Int)) ∧ w'.cell? ⟨w.heap.size, 2, none⟩ = some (.int .u64 (lo c : Int)) ∧ w'.cell? ⟨w.heap.size, 3, none⟩ = some (.int .i64 s)) (first | (simp [go_sem]; done) | go_keep) (first
    | (go_at_call 17; ((with_reducible refine (knownD _ (HT.out _ (by (repeat' (first | (with_reducible exact Below.refl _ _) | (with_reducible assumption) | (with_reducible refine Below.alloc ?_ ?_ _) | (with_reducible refine below_drewN ?_ _) | (with_reducible refine below_drew ?_) | (with_reducible refine below_ext ?_ ?_ _ _) | (with_reducible refine Below.setCell ?_ ?_ _) | (simp; done) | (simp; omega) | omega))))).mono ?_); rintro e w1 ⟨rfl, hb1⟩; obtain ⟨osA, dA, rfl⟩ := ext_of_below hb1; clear hb1))
    | (go_at_call 18; ((with_reducible refine (D1.out _ (HT.out _ (by (repeat' (first | (with_reducible exact Below.refl _ _) | (with_reducible assumption) | (with_reducible refine Below.alloc ?_ ?_ _) | (with_reducible refine below_drewN ?_ _) | (with_reducible refine below_drew ?_) | (with_reducible refine below_ext ?_ ?_ _ _) | (with_reducible refine Below.setCell ?_ ?_ _) | (simp; done) | (simp; omega) | omega))))).mono ?_); rintro e w1 ⟨rfl, hb1⟩; obtain ⟨osB, dB, rfl⟩ := ext_of_below hb1; clear hb1))
    | (go_at_call 19; ((with_reducible refine (D2.out _).mono ?_); rintro e w1 ⟨rfl, hb1⟩; obtain ⟨osC, dC, rfl⟩ := ext_of_below hb1; clear hb1))
    | (go_at_call 20; ((with_reducible refine (F1.out _).mono ?_); rintro e w1 ⟨rfl, hb1⟩; obtain ⟨osD, dD, rfl⟩ := ext_of_below hb1; clear hb1))
    | (go_at_call 21; ((with_reducible refine (F2.out _).mono ?_); rintro e w1 ⟨rfl, hb1⟩; obtain ⟨osE, dE, rfl⟩ := ext_of_below hb1; clear hb1)))
  all_goals
    go_wp2_with (first
      | (go_at_call 22; ((with_reducible refine (A2.out _).mono ?_); rintro e w1 ⟨rfl, hb1⟩; obtain ⟨osF, dF, rfl⟩ := ext_of_below hb1; clear hb1))
      | (go_at_call 23; ((with_reducible refine (A1.out _ (HT.out _ (by (repeat' (first | (with_reducible exact Below.refl _ _) | (with_reducible assumption) | (with_reducible refine Below.alloc ?_ ?_ _) | (with_reducible refine below_drewN ?_ _) | (with_reducible refine below_drew ?_) | (with_reducible refine below_ext ?_ ?_ _ _) | (with_reducible refine Below.setCell ?_ ?_ _) | (simp; done) | (simp; omega) | omega))))).mono ?_); rintro e w1 ⟨rfl, hb1⟩; obtain ⟨osG, dG, rfl⟩ := ext_of_below hb1; clear hb1))
      | (go_at_call 22; ((with_reducible refine (B2.out _).mono ?_); rintro e w1 ⟨rfl, hb1⟩; obtain ⟨osH, dH, rfl⟩ := ext_of_below hb1; clear hb1))
      | (go_at_call 23; ((with_reducible refine (B1.out _ (HT.out _ (by (repeat' (first | (with_reducible exact Below.refl _ _) | (with_reducible assumption) | (with_reducible refine Below.alloc ?_ ?_ _) | (with_reducible refine below_drewN ?_ _) | (with_reducible refine below_drew ?_) | (with_reducible refine below_ext ?_ ?_ _ _) | (with_reducible refine Below.setCell ?_ ?_ _) | (simp; done) | (simp; omega) | omega))))).mono ?_); rintro e w1 ⟨rfl, hb1⟩; obtain ⟨osI, dI, rfl⟩ := ext_of_below hb1; clear hb1))
      | (go_at_call 24; ((with_reducible refine (C2.out _).mono ?_); rintro e w1 ⟨rfl, hb1⟩; obtain ⟨osJ, dJ, rfl⟩ := ext_of_below hb1; clear hb1))
      | (go_at_call 25; ((with_reducible refine (C1.out _ (HT.out _ (by (repeat' (first | (with_reducible exact Below.refl _ _) | (with_reducible assumption) | (with_reducible refine Below.alloc ?_ ?_ _) | (with_reducible refine below_drewN ?_ _) | (with_reducible refine below_drew ?_) | (with_reducible refine below_ext ?_ ?_ _ _) | (with_reducible refine Below.setCell ?_ ?_ _) | (simp; done) | (simp; omega) | omega))))).mono ?_); rintro e w1 ⟨rfl, hb1⟩; obtain ⟨osK, dK, rfl⟩ := ext_of_below hb1; clear hb1)))
    all_goals (first | (go_ret; exact ⟨rfl, by (repeat' (first | (with_reducible exact Below.refl _ _) | (with_reducible assumption) | (with_reducible refine Below.alloc ?_ ?_ _) | (with_reducible refine below_drewN ?_ _) | (with_reducible refine below_drew ?_) | (with_reducible refine below_ext ?_ ?_ _ _) | (with_reducible refine Below.setCell ?_ ?_ _) | (simp; done) | (simp; omega) | omega))⟩))
end Go.Proofs.YtdobdlhfljpkcaaDoor
