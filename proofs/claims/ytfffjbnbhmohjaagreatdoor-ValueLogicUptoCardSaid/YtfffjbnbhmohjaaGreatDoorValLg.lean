/-
  The statement on equality, order and truths without tables: ValueLogic.
-/
import Derived.Test.YtfffjbnbhmohjaaGreatDoorValLo
import Derived.Test.YtfffjbnbhmohjaaGreatDoorValTl
namespace Go.Proofs.YtfffjbnbhmohjaaGreatDoor
open Go.RowKit Word Txt
attribute [local go_sem] setCell_drewN cell?_ext frozen?_ext shape?_ext setCell_ext lt_1' ne_1' en_1' le_1' lt_2' ne_2' en_2' le_2' lt_3' ne_3' en_3' le_3' lt_4' ne_4' en_4' le_4' lt_5' ne_5' en_5' le_5' lt_6' ne_6' en_6' le_6' lt_7' ne_7' en_7' le_7' lt_8' ne_8' en_8' le_8' lt_9' ne_9' en_9' le_9' lt_10' ne_10' en_10' le_10' lt_11' ne_11' en_11' le_11' lt_12' ne_12' en_12' le_12'
attribute [local go_sem] lt_13' ne_13' en_13' le_13' lt_14' ne_14' en_14' le_14' lt_15' ne_15' en_15' le_15' lt_16' ne_16' en_16' le_16' lt_17' ne_17' en_17' le_17' lt_18' ne_18' en_18' le_18' lt_19' ne_19' en_19' le_19' lt_20' ne_20' en_20' le_20' lt_21' ne_21' en_21' le_21' lt_22' ne_22' en_22' le_22' lt_23' ne_23' en_23' le_23' lt_24' ne_24' en_24' le_24' lt_25' ne_25' en_25' le_25' lt_26' ne_26' en_26' le_26' lt_27' ne_27' en_27' le_27' lt_28' ne_28' en_28' le_28'

theorem vNot_tv (p : P3) (hp : Pr p) (w : World) (hT : Tens w) (hU : Tabs w) : Calls Tryz.prog 22 #[TV p.1 p.2] w fun e w' => e = .returned (.tuple #[TV (not3 p).1 (not3 p).2, .int .i64 0]) ∧ Below w.heap.size w w' := by
  have h := vNot_any (tvV p) 0 w _ (tv_at p 0 w) (Nat.zero_le _) hT hU
  rw [tv_code hp] at h
  exact h
theorem vOr_tv (p q : P3) (hp : Pr p) (hq : Pr q) (w : World) (hT : Tens w) (hU : Tabs w) : Calls Tryz.prog 20 #[TV p.1 p.2, TV q.1 q.2] w fun e w' => e = .returned (.tuple #[TV (or3 p q).1 (or3 p q).2, .int .i64 0]) ∧ Below w.heap.size w w' := by
  have h := vOr_any (tvV p) (tvV q) 0 w _ _ (tv_at p 0 w) (tv_at q 0 w) (Nat.zero_le _) hT hU
  rw [code2_tv hp hq] at h
  exact h
set_option maxHeartbeats 32000000 in
set_option maxRecDepth 100000 in
theorem valueLogic_law (v v' : V) (w : World) (x : Value) (hx : v.At w.heap.size w x) (x' : Value) (hx' : v'.At w.heap.size w x') (hT : Tens w) (hU : Tabs w) :
    Calls Tryz.prog 6 #[x, x'] w fun e w' => e = .returned (.bool true) ∧ Below w.heap.size w w' := by
  have HK := Lib.hid (fun w' (hb : Below w.heap.size w w') => vknown_any w' (hT.below hb) (hU.below hb))
  have HC1 := Lib.hid (fun w' (hb : Below w.heap.size w w') => rcheck_any v w.heap.size w' x (hx.below hb) hb.size)
  have HC2 := Lib.hid (fun w' (hb : Below w.heap.size w w') => rcheck_any v' w.heap.size w' x' (hx'.below hb) hb.size)
  have HE1 := Lib.hid (fun w' (hb : Below w.heap.size w w') => vEqual_any v v' w.heap.size w' x x' (hx.below hb) (hx'.below hb) hb.size (hT.below hb) (hU.below hb))
  have HE2 := Lib.hid (fun w' (hb : Below w.heap.size w w') => vEqual_any v' v w.heap.size w' x' x (hx'.below hb) (hx.below hb) hb.size (hT.below hb) (hU.below hb))
  have HE3 := Lib.hid (fun w' (hb : Below w.heap.size w w') => vEqual_any v v w.heap.size w' x x (hx.below hb) (hx.below hb) hb.size (hT.below hb) (hU.below hb))
  have HL1 := Lib.hid (fun w' (hb : Below w.heap.size w w') => vLess_any v v' w.heap.size w' x x' (hx.below hb) (hx'.below hb) hb.size (hT.below hb) (hU.below hb))
  have HL2 := Lib.hid (fun w' (hb : Below w.heap.size w w') => vLess_any v' v w.heap.size w' x' x (hx'.below hb) (hx.below hb) hb.size (hT.below hb) (hU.below hb))
  have HA := Lib.hid (fun w' (hb : Below w.heap.size w w') => vAnd_any v v' w.heap.size w' x x' (hx.below hb) (hx'.below hb) hb.size (hT.below hb) (hU.below hb))
  have HN1 := Lib.hid (fun w' (hb : Below w.heap.size w w') => vNot_any v w.heap.size w' x (hx.below hb) hb.size (hT.below hb) (hU.below hb))
  have HN2 := Lib.hid (fun w' (hb : Below w.heap.size w w') => vNot_any v' w.heap.size w' x' (hx'.below hb) hb.size (hT.below hb) (hU.below hb))
  have HN3 := Lib.hid (fun (p : P3) (hp : Pr p) w' (hb : Below w.heap.size w w') => vNot_tv p hp w' (hT.below hb) (hU.below hb))
  have HO := Lib.hid (fun (p q : P3) (hp : Pr p) (hq : Pr q) w' (hb : Below w.heap.size w w') => vOr_tv p q hp hq w' (hT.below hb) (hU.below hb))
  have HS := Lib.hid (fun k y w => lsame_tv k y w)
  have HI := Lib.hid (fun w => rIs_any 1 true false 0 0 0 ⟨#[]⟩ 0 none none 0 0 0 0 true w)
  by_cases h0 : code2 v v' = 0
  · obtain ⟨hf, hf'⟩ := code2_ok h0
    have hc1 : v.code = 0 := by
      unfold code2 at h0
      by_cases h9 : v.code = 0
      · exact h9
      · rw [if_neg h9] at h0; exact h0
    have hc2 : v'.code = 0 := by
      unfold code2 at h0
      rwa [if_pos hc1] at h0
    have h20 : code2 v' v = 0 := by unfold code2; rw [if_pos hc2, hc1]
    have h30 : code2 v v = 0 := by unfold code2; rw [if_pos hc1, hc1]
    have hlf := logic_facts v v' hf hf'
    have hor := or_not v.tri v'.tri
    rw [hc1] at HC1 HN1
    rw [hc2] at HC2 HN2
    rw [h0] at HE1 HL1 HA
    rw [h20, ← eq3_symm v hf v' hf'] at HE2
    rw [h20] at HL2
    rw [h30, eq3_self v hf] at HE3
    simp only [res3, if_pos] at HE1 HE2 HE3 HL1 HL2 HA HN1 HN2
    have HO2 := Lib.hid (HO.out (not3 v.tri) (not3 v'.tri) (not3_pr _) (not3_pr _))
    have HN4 := Lib.hid (HN3.out (and3 v.tri v'.tri) (and3_pr _ _))
    unfold or3 at HO2
    rw [hor] at HO2
    unfold V.tri at HO2 HN4
    clear HO HN3 hor
    obtain ⟨k, yes, neg, c, s, t, day, pl, nl, cl, pn, nn, cn, rfl, hk, hy⟩ := at_shape hx
    obtain ⟨k', yes', neg', c', s', t', day', pl', nl', cl', pn', nn', cn', rfl, hk', hy'⟩ := at_shape hx'
    generalize not3 (and3 (v.kind, v.yes) (v'.kind, v'.yes)) = r4 at *
    generalize not3 (v.kind, v.yes) = r1 at *
    generalize not3 (v'.kind, v'.yes) = r2 at *
    generalize and3 (v.kind, v.yes) (v'.kind, v'.yes) = r3 at *
    generalize v.lt3 v' = p at *
    generalize v'.lt3 v = p' at *
    generalize v.eq3 v' = q at *
    obtain ⟨r1a, r1b⟩ := r1
    obtain ⟨r2a, r2b⟩ := r2
    obtain ⟨r3a, r3b⟩ := r3
    obtain ⟨r4a, r4b⟩ := r4
    obtain ⟨qa, qb⟩ := q
    clear hx hx' hT hU h0 hf hf' hc1 hc2 h20 h30 hk hy hk' hy'
    rcases hlf with ⟨rfl, rfl⟩ | ⟨rfl, rfl, h9⟩ | ⟨rfl, rfl, h9⟩ | ⟨rfl, rfl, h9⟩
    all_goals
      try (simp only [Prod.mk.injEq] at h9; obtain ⟨rfl, rfl⟩ := h9)
      go_enter Tryz.func6, Tryz.ntmps6
      go_wp2_with (first
        | (go_at_call 7; ((with_reducible refine (HK.out _ (by (repeat' (first | (with_reducible exact Below.refl _ _) | (with_reducible assumption) | (with_reducible refine Below.alloc ?_ ?_ _) | (with_reducible refine below_drewN ?_ _) | (with_reducible refine below_drew ?_) | (with_reducible refine below_ext ?_ ?_ _ _) | (with_reducible refine Below.setCell ?_ ?_ _) | (simp; done) | (simp; omega) | omega)))).mono ?_); rintro e w1 ⟨rfl, hb1⟩; obtain ⟨osA, dA, rfl⟩ := ext_of_below hb1; clear hb1))
        | (go_at_call 9; ((with_reducible refine (HC1.out _ (by (repeat' (first | (with_reducible exact Below.refl _ _) | (with_reducible assumption) | (with_reducible refine Below.alloc ?_ ?_ _) | (with_reducible refine below_drewN ?_ _) | (with_reducible refine below_drew ?_) | (with_reducible refine below_ext ?_ ?_ _ _) | (with_reducible refine Below.setCell ?_ ?_ _) | (simp; done) | (simp; omega) | omega)))).mono ?_); rintro e w1 ⟨rfl, hb1⟩; obtain ⟨osB, dB, rfl⟩ := ext_of_below hb1; clear hb1))
        | (go_at_call 9; ((with_reducible refine (HC2.out _ (by (repeat' (first | (with_reducible exact Below.refl _ _) | (with_reducible assumption) | (with_reducible refine Below.alloc ?_ ?_ _) | (with_reducible refine below_drewN ?_ _) | (with_reducible refine below_drew ?_) | (with_reducible refine below_ext ?_ ?_ _ _) | (with_reducible refine Below.setCell ?_ ?_ _) | (simp; done) | (simp; omega) | omega)))).mono ?_); rintro e w1 ⟨rfl, hb1⟩; obtain ⟨osC, dC, rfl⟩ := ext_of_below hb1; clear hb1))
        | (go_at_call 13; ((with_reducible refine (HE1.out _ (by (repeat' (first | (with_reducible exact Below.refl _ _) | (with_reducible assumption) | (with_reducible refine Below.alloc ?_ ?_ _) | (with_reducible refine below_drewN ?_ _) | (with_reducible refine below_drew ?_) | (with_reducible refine below_ext ?_ ?_ _ _) | (with_reducible refine Below.setCell ?_ ?_ _) | (simp; done) | (simp; omega) | omega)))).mono ?_); rintro e w1 ⟨rfl, hb1⟩; obtain ⟨osD, dD, rfl⟩ := ext_of_below hb1; clear hb1))
        | (go_at_call 13; ((with_reducible refine (HE2.out _ (by (repeat' (first | (with_reducible exact Below.refl _ _) | (with_reducible assumption) | (with_reducible refine Below.alloc ?_ ?_ _) | (with_reducible refine below_drewN ?_ _) | (with_reducible refine below_drew ?_) | (with_reducible refine below_ext ?_ ?_ _ _) | (with_reducible refine Below.setCell ?_ ?_ _) | (simp; done) | (simp; omega) | omega)))).mono ?_); rintro e w1 ⟨rfl, hb1⟩; obtain ⟨osE, dE, rfl⟩ := ext_of_below hb1; clear hb1))
        | (go_at_call 13; ((with_reducible refine (HE3.out _ (by (repeat' (first | (with_reducible exact Below.refl _ _) | (with_reducible assumption) | (with_reducible refine Below.alloc ?_ ?_ _) | (with_reducible refine below_drewN ?_ _) | (with_reducible refine below_drew ?_) | (with_reducible refine below_ext ?_ ?_ _ _) | (with_reducible refine Below.setCell ?_ ?_ _) | (simp; done) | (simp; omega) | omega)))).mono ?_); rintro e w1 ⟨rfl, hb1⟩; obtain ⟨osF, dF, rfl⟩ := ext_of_below hb1; clear hb1))
        | (go_at_call 15; ((with_reducible refine (HL1.out _ (by (repeat' (first | (with_reducible exact Below.refl _ _) | (with_reducible assumption) | (with_reducible refine Below.alloc ?_ ?_ _) | (with_reducible refine below_drewN ?_ _) | (with_reducible refine below_drew ?_) | (with_reducible refine below_ext ?_ ?_ _ _) | (with_reducible refine Below.setCell ?_ ?_ _) | (simp; done) | (simp; omega) | omega)))).mono ?_); rintro e w1 ⟨rfl, hb1⟩; obtain ⟨osG, dG, rfl⟩ := ext_of_below hb1; clear hb1))
        | (go_at_call 15; ((with_reducible refine (HL2.out _ (by (repeat' (first | (with_reducible exact Below.refl _ _) | (with_reducible assumption) | (with_reducible refine Below.alloc ?_ ?_ _) | (with_reducible refine below_drewN ?_ _) | (with_reducible refine below_drew ?_) | (with_reducible refine below_ext ?_ ?_ _ _) | (with_reducible refine Below.setCell ?_ ?_ _) | (simp; done) | (simp; omega) | omega)))).mono ?_); rintro e w1 ⟨rfl, hb1⟩; obtain ⟨osH, dH, rfl⟩ := ext_of_below hb1; clear hb1))
        | (go_at_call 16; ((with_reducible refine (HS.out _ _ _).mono ?_); rintro e w1 ⟨rfl, hb1⟩; obtain ⟨osI, dI, rfl⟩ := ext_of_below hb1; clear hb1))
        | (go_at_call 23; ((with_reducible refine (HI.out _).mono ?_); rintro e w1 ⟨rfl, hb1⟩; obtain ⟨osJ, dJ, rfl⟩ := ext_of_below hb1; clear hb1))
        | (go_at_call 18; ((with_reducible refine (HA.out _ (by (repeat' (first | (with_reducible exact Below.refl _ _) | (with_reducible assumption) | (with_reducible refine Below.alloc ?_ ?_ _) | (with_reducible refine below_drewN ?_ _) | (with_reducible refine below_drew ?_) | (with_reducible refine below_ext ?_ ?_ _ _) | (with_reducible refine Below.setCell ?_ ?_ _) | (simp; done) | (simp; omega) | omega)))).mono ?_); rintro e w1 ⟨rfl, hb1⟩; obtain ⟨osK, dK, rfl⟩ := ext_of_below hb1; clear hb1))
        | (go_at_call 22; ((with_reducible refine (HN1.out _ (by (repeat' (first | (with_reducible exact Below.refl _ _) | (with_reducible assumption) | (with_reducible refine Below.alloc ?_ ?_ _) | (with_reducible refine below_drewN ?_ _) | (with_reducible refine below_drew ?_) | (with_reducible refine below_ext ?_ ?_ _ _) | (with_reducible refine Below.setCell ?_ ?_ _) | (simp; done) | (simp; omega) | omega)))).mono ?_); rintro e w1 ⟨rfl, hb1⟩; obtain ⟨osL, dL, rfl⟩ := ext_of_below hb1; clear hb1))
        | (go_at_call 22; ((with_reducible refine (HN2.out _ (by (repeat' (first | (with_reducible exact Below.refl _ _) | (with_reducible assumption) | (with_reducible refine Below.alloc ?_ ?_ _) | (with_reducible refine below_drewN ?_ _) | (with_reducible refine below_drew ?_) | (with_reducible refine below_ext ?_ ?_ _ _) | (with_reducible refine Below.setCell ?_ ?_ _) | (simp; done) | (simp; omega) | omega)))).mono ?_); rintro e w1 ⟨rfl, hb1⟩; obtain ⟨osM, dM, rfl⟩ := ext_of_below hb1; clear hb1))
        | (go_at_call 20; ((with_reducible refine (HO2.out _ (by (repeat' (first | (with_reducible exact Below.refl _ _) | (with_reducible assumption) | (with_reducible refine Below.alloc ?_ ?_ _) | (with_reducible refine below_drewN ?_ _) | (with_reducible refine below_drew ?_) | (with_reducible refine below_ext ?_ ?_ _ _) | (with_reducible refine Below.setCell ?_ ?_ _) | (simp; done) | (simp; omega) | omega)))).mono ?_); rintro e w1 ⟨rfl, hb1⟩; obtain ⟨osN, dN, rfl⟩ := ext_of_below hb1; clear hb1))
        | (go_at_call 22; ((with_reducible refine (HN4.out _ (by (repeat' (first | (with_reducible exact Below.refl _ _) | (with_reducible assumption) | (with_reducible refine Below.alloc ?_ ?_ _) | (with_reducible refine below_drewN ?_ _) | (with_reducible refine below_drew ?_) | (with_reducible refine below_ext ?_ ?_ _ _) | (with_reducible refine Below.setCell ?_ ?_ _) | (simp; done) | (simp; omega) | omega)))).mono ?_); rintro e w1 ⟨rfl, hb1⟩; obtain ⟨osO, dO, rfl⟩ := ext_of_below hb1; clear hb1)))
      all_goals
        go_ret
        exact ⟨rfl, by (repeat' (first | (with_reducible exact Below.refl _ _) | (with_reducible assumption) | (with_reducible refine Below.alloc ?_ ?_ _) | (with_reducible refine below_drewN ?_ _) | (with_reducible refine below_drew ?_) | (with_reducible refine below_ext ?_ ?_ _ _) | (with_reducible refine Below.setCell ?_ ?_ _) | (simp; done) | (simp; omega) | omega))⟩
  · have hcc : v.code = 0 → v'.code ≠ 0 := fun h => by unfold code2 at h0; rwa [if_pos h] at h0
    obtain ⟨k, yes, neg, c, s, t, day, pl, nl, cl, pn, nn, cn, rfl, -, -⟩ := at_shape hx
    obtain ⟨k', yes', neg', c', s', t', day', pl', nl', cl', pn', nn', cn', rfl, -, -⟩ := at_shape hx'
    generalize res3 (code2 v v') (v.eq3 v') = q1 at *
    generalize code2 v v' = a at *
    generalize v.code = a1 at *
    generalize v'.code = a2 at *
    have n0 := bneF (beq_eq_false_iff_ne.2 h0)
    clear hx hx' hT hU HE2 HE3 HL1 HL2 HA HN1 HN2 HN3 HO HS HI h0
    by_cases g1 : a1 = 0
    · have g2 := bneF (beq_eq_false_iff_ne.2 (hcc g1))
      subst g1
      clear hcc
      go_enter Tryz.func6, Tryz.ntmps6
      go_wp2_with (first
        | (go_at_call 7; ((with_reducible refine (HK.out _ (by (repeat' (first | (with_reducible exact Below.refl _ _) | (with_reducible assumption) | (with_reducible refine Below.alloc ?_ ?_ _) | (with_reducible refine below_drewN ?_ _) | (with_reducible refine below_drew ?_) | (with_reducible refine below_ext ?_ ?_ _ _) | (with_reducible refine Below.setCell ?_ ?_ _) | (simp; done) | (simp; omega) | omega)))).mono ?_); rintro e w1 ⟨rfl, hb1⟩; obtain ⟨osA, dA, rfl⟩ := ext_of_below hb1; clear hb1))
        | (go_at_call 9; ((with_reducible refine (HC1.out _ (by (repeat' (first | (with_reducible exact Below.refl _ _) | (with_reducible assumption) | (with_reducible refine Below.alloc ?_ ?_ _) | (with_reducible refine below_drewN ?_ _) | (with_reducible refine below_drew ?_) | (with_reducible refine below_ext ?_ ?_ _ _) | (with_reducible refine Below.setCell ?_ ?_ _) | (simp; done) | (simp; omega) | omega)))).mono ?_); rintro e w1 ⟨rfl, hb1⟩; obtain ⟨osB, dB, rfl⟩ := ext_of_below hb1; clear hb1))
        | (go_at_call 9; ((with_reducible refine (HC2.out _ (by (repeat' (first | (with_reducible exact Below.refl _ _) | (with_reducible assumption) | (with_reducible refine Below.alloc ?_ ?_ _) | (with_reducible refine below_drewN ?_ _) | (with_reducible refine below_drew ?_) | (with_reducible refine below_ext ?_ ?_ _ _) | (with_reducible refine Below.setCell ?_ ?_ _) | (simp; done) | (simp; omega) | omega)))).mono ?_); rintro e w1 ⟨rfl, hb1⟩; obtain ⟨osC, dC, rfl⟩ := ext_of_below hb1; clear hb1))
        | (go_at_call 13; ((with_reducible refine (HE1.out _ (by (repeat' (first | (with_reducible exact Below.refl _ _) | (with_reducible assumption) | (with_reducible refine Below.alloc ?_ ?_ _) | (with_reducible refine below_drewN ?_ _) | (with_reducible refine below_drew ?_) | (with_reducible refine below_ext ?_ ?_ _ _) | (with_reducible refine Below.setCell ?_ ?_ _) | (simp; done) | (simp; omega) | omega)))).mono ?_); rintro e w1 ⟨rfl, hb1⟩; obtain ⟨osD, dD, rfl⟩ := ext_of_below hb1; clear hb1)))
      all_goals
        go_ret
        exact ⟨rfl, by (repeat' (first | (with_reducible exact Below.refl _ _) | (with_reducible assumption) | (with_reducible refine Below.alloc ?_ ?_ _) | (with_reducible refine below_drewN ?_ _) | (with_reducible refine below_drew ?_) | (with_reducible refine below_ext ?_ ?_ _ _) | (with_reducible refine Below.setCell ?_ ?_ _) | (simp; done) | (simp; omega) | omega))⟩
    · have g2 := bneF (beq_eq_false_iff_ne.2 g1)
      clear hcc HC2 g1
      go_enter Tryz.func6, Tryz.ntmps6
      go_wp2_with (first
        | (go_at_call 7; ((with_reducible refine (HK.out _ (by (repeat' (first | (with_reducible exact Below.refl _ _) | (with_reducible assumption) | (with_reducible refine Below.alloc ?_ ?_ _) | (with_reducible refine below_drewN ?_ _) | (with_reducible refine below_drew ?_) | (with_reducible refine below_ext ?_ ?_ _ _) | (with_reducible refine Below.setCell ?_ ?_ _) | (simp; done) | (simp; omega) | omega)))).mono ?_); rintro e w1 ⟨rfl, hb1⟩; obtain ⟨osA, dA, rfl⟩ := ext_of_below hb1; clear hb1))
        | (go_at_call 9; ((with_reducible refine (HC1.out _ (by (repeat' (first | (with_reducible exact Below.refl _ _) | (with_reducible assumption) | (with_reducible refine Below.alloc ?_ ?_ _) | (with_reducible refine below_drewN ?_ _) | (with_reducible refine below_drew ?_) | (with_reducible refine below_ext ?_ ?_ _ _) | (with_reducible refine Below.setCell ?_ ?_ _) | (simp; done) | (simp; omega) | omega)))).mono ?_); rintro e w1 ⟨rfl, hb1⟩; obtain ⟨osB, dB, rfl⟩ := ext_of_below hb1; clear hb1))
        | (go_at_call 13; ((with_reducible refine (HE1.out _ (by (repeat' (first | (with_reducible exact Below.refl _ _) | (with_reducible assumption) | (with_reducible refine Below.alloc ?_ ?_ _) | (with_reducible refine below_drewN ?_ _) | (with_reducible refine below_drew ?_) | (with_reducible refine below_ext ?_ ?_ _ _) | (with_reducible refine Below.setCell ?_ ?_ _) | (simp; done) | (simp; omega) | omega)))).mono ?_); rintro e w1 ⟨rfl, hb1⟩; obtain ⟨osD, dD, rfl⟩ := ext_of_below hb1; clear hb1)))
      all_goals
        go_ret
        exact ⟨rfl, by (repeat' (first | (with_reducible exact Below.refl _ _) | (with_reducible assumption) | (with_reducible refine Below.alloc ?_ ?_ _) | (with_reducible refine below_drewN ?_ _) | (with_reducible refine below_drew ?_) | (with_reducible refine below_ext ?_ ?_ _ _) | (with_reducible refine Below.setCell ?_ ?_ _) | (simp; done) | (simp; omega) | omega))⟩
end Go.Proofs.YtfffjbnbhmohjaaGreatDoor
