/-
  Equality and order of two values: the document's way; Equal and Less as calls.
-/
import Derived.Test.YtfffjbnbhmohjaaGreatDoorValRE
import Derived.Test.YtfffjbnbhmohjaaGreatDoorSign
namespace Go.Proofs.YtfffjbnbhmohjaaGreatDoor
open Go.RowKit Word Txt
attribute [local go_sem] setCell_drewN cell?_ext frozen?_ext shape?_ext setCell_ext lt_1' ne_1' en_1' le_1' lt_2' ne_2' en_2' le_2' lt_3' ne_3' en_3' le_3' lt_4' ne_4' en_4' le_4' lt_5' ne_5' en_5' le_5' lt_6' ne_6' en_6' le_6' lt_7' ne_7' en_7' le_7' lt_8' ne_8' en_8' le_8' lt_9' ne_9' en_9' le_9' lt_10' ne_10' en_10' le_10' lt_11' ne_11' en_11' le_11' lt_12' ne_12' en_12' le_12'

set_option maxHeartbeats 8000000 in
set_option maxRecDepth 100000 in
theorem rEqual_step (k : Int) (yes neg : Bool) (c : Nat) (s : Int) (t : ByteArray) (day : Int) (l : List V) (ns : List ByteArray) (ih : ∀ v ∈ l, QC v) : QC (.mk k yes neg c s t day l ns) := by
  intro n w x v' x' hx hx' hnw hf hf'
  obtain ⟨k2, yes2, neg2, c2, s2, t2, day2, l2, ns2, hv'⟩ : ∃ k yes neg c s t day l ns, v' = V.mk k yes neg c s t day l ns := by cases v'; exact ⟨_, _, _, _, _, _, _, _, _, rfl⟩
  subst hv'
  have HSame := Lib.hid (fun w' (hb : Below w.heap.size w w') => rsame_any (.mk k yes neg c s t day l ns) n w' x (.mk k2 yes2 neg2 c2 s2 t2 day2 l2 ns2) x' (hx.below (hb.mono hnw)) (hx'.below (hb.mono hnw)) (Nat.le_trans hnw hb.size))
  have HTr := Lib.hid (fun b w => rTruth_any b w)
  rw [eq3_two]
  obtain ⟨lv, nv, rfl, ⟨hc, ht, hl, hnl⟩, hL, hN, hsz⟩ := at_mk hx
  obtain ⟨lv2, nv2, rfl, ⟨hc2, ht2, hl2, hnl2⟩, hL2, hN2, hsz2⟩ := at_mk hx'
  have hfk := form_kind hf
  have hfk2 := form_kind hf'
  by_cases h0 : k = 0 ∨ k2 = 0
  · rw [if_pos h0]
    obtain ⟨pl, cl, rfl⟩ := hL.shape
    obtain ⟨pn, cn, rfl⟩ := hN.shape
    obtain ⟨pl2, cl2, rfl⟩ := hL2.shape
    obtain ⟨pn2, cn2, rfl⟩ := hN2.shape
    clear hx hx' hL hN hL2 hN2 HSame hf hf' hfk hfk2 ih hsz hsz2
    generalize l.length = ll at *
    generalize l2.length = ll2 at *
    generalize ns.length = nl at *
    generalize ns2.length = nl2 at *
    by_cases hk0 : k = 0
    · subst hk0
      clear h0
      go_enter Tryz.func34, Tryz.ntmps34
      go_wp2_with (first
        | (go_at_call 56; ((with_reducible refine (HTr.out _ _).mono ?_); rintro e w1 ⟨rfl, hb1⟩; obtain ⟨osA, dA, rfl⟩ := ext_of_below hb1; clear hb1)))
      go_returns
      exact ⟨rfl, by (repeat' (first | (with_reducible exact Below.refl _ _) | (with_reducible assumption) | (with_reducible refine Below.alloc ?_ ?_ _) | (with_reducible refine below_drewN ?_ _) | (with_reducible refine below_drew ?_) | (with_reducible refine below_ext ?_ ?_ _ _) | (with_reducible refine Below.setCell ?_ ?_ _) | (simp; done) | (simp; omega) | omega))⟩
    · obtain rfl : k2 = 0 := h0.resolve_left hk0
      have hkf : (k == 0) = false := beq_eq_false_iff_ne.2 hk0
      clear h0
      go_enter Tryz.func34, Tryz.ntmps34
      go_wp2_with (first
        | (go_at_call 56; ((with_reducible refine (HTr.out _ _).mono ?_); rintro e w1 ⟨rfl, hb1⟩; obtain ⟨osA, dA, rfl⟩ := ext_of_below hb1; clear hb1)))
      go_returns
      exact ⟨by rw [hkf], by (repeat' (first | (with_reducible exact Below.refl _ _) | (with_reducible assumption) | (with_reducible refine Below.alloc ?_ ?_ _) | (with_reducible refine below_drewN ?_ _) | (with_reducible refine below_drew ?_) | (with_reducible refine below_ext ?_ ?_ _ _) | (with_reducible refine Below.setCell ?_ ?_ _) | (simp; done) | (simp; omega) | omega))⟩
  rw [if_neg h0]
  have hk0 : ¬ k = 0 := fun h => h0 (.inl h)
  have hk20 : ¬ k2 = 0 := fun h => h0 (.inr h)
  have hb1 : (k == 0) = false := beq_eq_false_iff_ne.2 hk0
  have hb2 : (k2 == 0) = false := beq_eq_false_iff_ne.2 hk20
  by_cases hkk : k ≠ k2
  · rw [if_pos hkk]
    have hb3 := bneF (beq_eq_false_iff_ne.2 hkk)
    obtain ⟨pl, cl, rfl⟩ := hL.shape
    obtain ⟨pn, cn, rfl⟩ := hN.shape
    obtain ⟨pl2, cl2, rfl⟩ := hL2.shape
    obtain ⟨pn2, cn2, rfl⟩ := hN2.shape
    clear hx hx' hL hN hL2 hN2 HSame hf hf' hfk hfk2 ih hsz hsz2 h0 hk0 hk20
    generalize l.length = ll at *
    generalize l2.length = ll2 at *
    generalize ns.length = nl at *
    generalize ns2.length = nl2 at *
    go_enter Tryz.func34, Tryz.ntmps34
    go_wp2
    go_returns
    exact ⟨rfl, by (repeat' (first | (with_reducible exact Below.refl _ _) | (with_reducible assumption) | (with_reducible refine Below.alloc ?_ ?_ _) | (with_reducible refine below_drewN ?_ _) | (with_reducible refine below_drew ?_) | (with_reducible refine below_ext ?_ ?_ _ _) | (with_reducible refine Below.setCell ?_ ?_ _) | (simp; done) | (simp; omega) | omega))⟩
  obtain rfl : k = k2 := Decidable.byContradiction hkk
  rw [if_neg hkk]
  clear hkk
  by_cases h5 : k = 5
  · subst h5
    rw [if_pos rfl]
    exact rEq5_any n yes neg c s t day l ns yes2 neg2 c2 s2 t2 day2 l2 ns2 ih w lv nv lv2 nv2 hL hN hL2 hN2 hl hnw hfk.2.2.2 hfk2.2.2.2
  rw [if_neg h5]
  by_cases h6 : k = 6
  · subst h6
    rw [if_pos rfl]
    have hc1 := form_ctx hf rfl
    have hc2' := form_ctx hf' rfl
    have h9 := rEq6_any n yes neg c s t day l ns yes2 neg2 c2 s2 t2 day2 l2 ns2 ih w lv nv lv2 nv2 hL hN hL2 hN2 hl hnl2 hnw hfk.2.2.2 hfk2.2.2.2 hc1.1 hc2'.1
    have e1 : ns.length = l.length := hc1.1
    have e2 : ns2.length = l2.length := hc2'.1
    rw [e1, e2]
    exact h9
  rw [if_neg h6]
  have hlt5 : k < 5 := by have a1 : 0 ≤ k := hfk.1; have a2 : k ≤ 6 := hfk.2.1; omega
  obtain ⟨pl, cl, rfl⟩ := hL.shape
  obtain ⟨pn, cn, rfl⟩ := hN.shape
  obtain ⟨pl2, cl2, rfl⟩ := hL2.shape
  obtain ⟨pn2, cn2, rfl⟩ := hN2.shape
  generalize V.eqb _ _ = res at *
  clear hx hx' hL hN hL2 hN2 hf hf' hfk hfk2 ih hsz hsz2 h0 hk0 hk20 h5 h6
  generalize l.length = ll at *
  generalize l2.length = ll2 at *
  generalize ns.length = nl at *
  generalize ns2.length = nl2 at *
  go_enter Tryz.func34, Tryz.ntmps34
  go_wp2_with (first
    | (go_at_call 32; ((with_reducible refine (HSame.out _ (by (repeat' (first | (with_reducible exact Below.refl _ _) | (with_reducible assumption) | (with_reducible refine Below.alloc ?_ ?_ _) | (with_reducible refine below_drewN ?_ _) | (with_reducible refine below_drew ?_) | (with_reducible refine below_ext ?_ ?_ _ _) | (with_reducible refine Below.setCell ?_ ?_ _) | (simp; done) | (simp; omega) | omega)))).mono ?_); rintro e w1 ⟨rfl, hb1⟩; obtain ⟨osA, dA, rfl⟩ := ext_of_below hb1; clear hb1))
    | (go_at_call 56; ((with_reducible refine (HTr.out _ _).mono ?_); rintro e w1 ⟨rfl, hb1⟩; obtain ⟨osB, dB, rfl⟩ := ext_of_below hb1; clear hb1)))
  go_returns
  exact ⟨rfl, by (repeat' (first | (with_reducible exact Below.refl _ _) | (with_reducible assumption) | (with_reducible refine Below.alloc ?_ ?_ _) | (with_reducible refine below_drewN ?_ _) | (with_reducible refine below_drew ?_) | (with_reducible refine below_ext ?_ ?_ _ _) | (with_reducible refine Below.setCell ?_ ?_ _) | (simp; done) | (simp; omega) | omega))⟩
mutual
theorem rEqual_any : ∀ v : V, QC v
  | .mk k yes neg c s t day l ns => rEqual_step k yes neg c s t day l ns (rEqual_all l)
theorem rEqual_all : ∀ (l : List V) (v : V), v ∈ l → QC v
  | [], _, h => by cases h
  | u :: r, v, h => (List.mem_cons.1 h).elim (fun e => e ▸ rEqual_any u) (fun h => rEqual_all r v h)
end
set_option maxHeartbeats 4000000 in
theorem rLess_any (v v' : V) (n : Nat) (w : World) (x x' : Value) (hx : v.At n w x) (hx' : v'.At n w x') (_hnw : n ≤ w.heap.size) (h1 : v.form = true) (h2' : v'.form = true) :
    Calls Tryz.prog 37 #[x, x'] w fun e w' => e = .returned (TV (v.lt3 v').1 (v.lt3 v').2) ∧ Below w.heap.size w w' := by
  have HTr := Lib.hid (fun b w => rTruth_any b w)
  obtain ⟨k, yes, neg, c, s, t, day, l, ns, hv⟩ : ∃ k yes neg c s t day l ns, v = V.mk k yes neg c s t day l ns := by cases v; exact ⟨_, _, _, _, _, _, _, _, _, rfl⟩
  obtain ⟨k', yes', neg', c', s', t', day', l', ns', hv'⟩ : ∃ k yes neg c s t day l ns, v' = V.mk k yes neg c s t day l ns := by cases v'; exact ⟨_, _, _, _, _, _, _, _, _, rfl⟩
  have hlt : v.lt3 v' = if k ≠ k' then (0, false) else if k = 2 then (1, ltN neg c s neg' c' s') else if k = 3 then (1, Op.bytesLess t.toList t'.toList) else if k = 4 then (1, decide (day < day')) else (0, false) := by rw [hv, hv']; rfl
  rw [hlt]
  have hf2 : k = 2 → k = k' → formB neg c s = true ∧ formB neg' c' s' = true := fun h2 h3 => ⟨form_num (hv ▸ h1) h2, form_num (hv' ▸ h2') (h3 ▸ h2)⟩
  rw [hv] at hx
  rw [hv'] at hx'
  obtain ⟨lv, nv, rfl, ⟨hc, ht, hl, hnl⟩, hL, hN, hsz⟩ := at_mk hx
  obtain ⟨lv2, nv2, rfl, ⟨hc2, ht2, hl2, hnl2⟩, hL2, hN2, hsz2⟩ := at_mk hx'
  obtain ⟨pl, cl, rfl⟩ := hL.shape
  obtain ⟨pn, cn, rfl⟩ := hN.shape
  obtain ⟨pl2, cl2, rfl⟩ := hL2.shape
  obtain ⟨pn2, cn2, rfl⟩ := hN2.shape
  generalize l.length = ll at *
  generalize l'.length = ll2 at *
  generalize ns.length = nl at *
  generalize ns'.length = nl2 at *
  clear hx hx' hL hN hsz hL2 hN2 hsz2 hc ht hl hnl hc2 ht2 hl2 hnl2 hlt hv hv' h1 h2'
  by_cases hk : k ≠ k'
  · rw [if_pos hk]
    have h3 := bneF (beq_eq_false_iff_ne.2 hk)
    clear hk hf2
    go_enter Tryz.func37, Tryz.ntmps37
    go_wp2
    go_returns
    exact ⟨rfl, by (repeat' (first | (with_reducible exact Below.refl _ _) | (with_reducible assumption) | (with_reducible refine Below.alloc ?_ ?_ _) | (with_reducible refine below_drewN ?_ _) | (with_reducible refine below_drew ?_) | (with_reducible refine below_ext ?_ ?_ _ _) | (with_reducible refine Below.setCell ?_ ?_ _) | (simp; done) | (simp; omega) | omega))⟩
  rw [if_neg hk]
  obtain rfl : k = k' := Decidable.byContradiction hk
  clear hk
  by_cases h2 : k = 2
  · subst h2
    rw [if_pos rfl]
    obtain ⟨fa, fb⟩ := hf2 rfl rfl
    obtain ⟨S, hS, hS18, hcS, hS3, hS4⟩ := form_open fa
    obtain ⟨S', hS', hS18', hcS', hS3', hS4'⟩ := form_open fb
    subst hS hS'
    have HC := Lib.hid (fun w => order_ok neg neg' c c' S S' hS18 hS18' hcS hcS' (ordV neg (Fit.uni c S) neg' (Fit.uni c' S')) (fun hn => by
      cases neg
      · have h9 : neg' = true := by cases neg'; exact absurd rfl hn; rfl
        have := form_signed hS3' hS4' h9
        omega
      · have := form_signed hS3 hS4 rfl
        omega) rfl w)
    have hlt : ltN neg c (S : Int) neg' c' (S' : Int) = decide (ordV neg (Fit.uni c S) neg' (Fit.uni c' S') < 0) := by unfold ltN; simp
    rw [hlt]
    generalize ordV neg (Fit.uni c S) neg' (Fit.uni c' S') = z at *
    clear fa fb hf2 hlt hS18 hcS hS3 hS4 hS18' hcS' hS3' hS4'
    go_enter Tryz.func37, Tryz.ntmps37
    go_wp2_with (first
      | (go_at_call 61; ((with_reducible refine (HC.out _).mono ?_); rintro e w1 ⟨rfl, hb1⟩; obtain ⟨osB, dB, rfl⟩ := ext_of_below hb1; clear hb1))
      | (go_at_call 56; ((with_reducible refine (HTr.out _ _).mono ?_); rintro e w1 ⟨rfl, hb1⟩; obtain ⟨osC, dC, rfl⟩ := ext_of_below hb1; clear hb1)))
    go_returns
    exact ⟨rfl, by (repeat' (first | (with_reducible exact Below.refl _ _) | (with_reducible assumption) | (with_reducible refine Below.alloc ?_ ?_ _) | (with_reducible refine below_drewN ?_ _) | (with_reducible refine below_drew ?_) | (with_reducible refine below_ext ?_ ?_ _ _) | (with_reducible refine Below.setCell ?_ ?_ _) | (simp; done) | (simp; omega) | omega))⟩
  rw [if_neg h2]
  have g2 : (k == 2) = false := beq_eq_false_iff_ne.2 h2
  by_cases h3 : k = 3
  · subst h3
    rw [if_pos rfl]
    clear hf2
    generalize hq : Op.bytesLess t.toList t'.toList = q
    go_enter Tryz.func37, Tryz.ntmps37
    go_wp2_with (first
      | (go_at_call 56; ((with_reducible refine (HTr.out _ _).mono ?_); rintro e w1 ⟨rfl, hb1⟩; obtain ⟨osC, dC, rfl⟩ := ext_of_below hb1; clear hb1)))
    go_returns
    exact ⟨rfl, by (repeat' (first | (with_reducible exact Below.refl _ _) | (with_reducible assumption) | (with_reducible refine Below.alloc ?_ ?_ _) | (with_reducible refine below_drewN ?_ _) | (with_reducible refine below_drew ?_) | (with_reducible refine below_ext ?_ ?_ _ _) | (with_reducible refine Below.setCell ?_ ?_ _) | (simp; done) | (simp; omega) | omega))⟩
  rw [if_neg h3]
  have g3 : (k == 3) = false := beq_eq_false_iff_ne.2 h3
  by_cases h4 : k = 4
  · subst h4
    rw [if_pos rfl]
    clear hf2
    go_enter Tryz.func37, Tryz.ntmps37
    go_wp2_with (first
      | (go_at_call 56; ((with_reducible refine (HTr.out _ _).mono ?_); rintro e w1 ⟨rfl, hb1⟩; obtain ⟨osC, dC, rfl⟩ := ext_of_below hb1; clear hb1)))
    go_returns
    exact ⟨rfl, by (repeat' (first | (with_reducible exact Below.refl _ _) | (with_reducible assumption) | (with_reducible refine Below.alloc ?_ ?_ _) | (with_reducible refine below_drewN ?_ _) | (with_reducible refine below_drew ?_) | (with_reducible refine below_ext ?_ ?_ _ _) | (with_reducible refine Below.setCell ?_ ?_ _) | (simp; done) | (simp; omega) | omega))⟩
  rw [if_neg h4]
  have g4 : (k == 4) = false := beq_eq_false_iff_ne.2 h4
  clear hf2 h2 h3 h4
  go_enter Tryz.func37, Tryz.ntmps37
  go_wp2
  go_returns
  exact ⟨rfl, by (repeat' (first | (with_reducible exact Below.refl _ _) | (with_reducible assumption) | (with_reducible refine Below.alloc ?_ ?_ _) | (with_reducible refine below_drewN ?_ _) | (with_reducible refine below_drew ?_) | (with_reducible refine below_ext ?_ ?_ _ _) | (with_reducible refine Below.setCell ?_ ?_ _) | (simp; done) | (simp; omega) | omega))⟩
theorem docEqual_any (v v' : V) (n : Nat) (w : World) (x x' : Value) (hx : v.At n w x) (hx' : v'.At n w x') (hnw : n ≤ w.heap.size) :
    Calls Tryz.prog 12 #[x, x'] w fun e w' => e = .returned (.tuple #[TV (res3 (code2 v v') (v.eq3 v')).1 (res3 (code2 v v') (v.eq3 v')).2, .int .i64 (code2 v v')]) ∧ Below w.heap.size w w' := by
  have HA := Lib.hid (fun w' (hb : Below w.heap.size w w') => two_any v v' n w' x x' (hx.below (hb.mono hnw)) (hx'.below (hb.mono hnw)) (Nat.le_trans hnw hb.size))
  have HE := Lib.hid (fun (h : v.form = true ∧ v'.form = true) w' (hb : Below w.heap.size w w') => rEqual_any v n w' x v' x' (hx.below (hb.mono hnw)) (hx'.below (hb.mono hnw)) (Nat.le_trans hnw hb.size) h.1 h.2)
  have hf := fun h => code2_ok (v := v) (v' := v') h
  obtain ⟨k, yes, neg, c, s, t, day, pl, nl, cl, pn, nn, cn, rfl, -, -⟩ := at_shape hx
  obtain ⟨k', yes', neg', c', s', t', day', pl', nl', cl', pn', nn', cn', rfl, -, -⟩ := at_shape hx'
  unfold res3
  generalize code2 v v' = a at *
  generalize v.eq3 v' = q at *
  clear hx hx'
  by_cases h0 : a = 0
  · subst h0
    rw [if_pos rfl]
    have HE2 := Lib.hid (HE.out (hf rfl))
    clear hf HE
    go_enter Tryz.func12, Tryz.ntmps12
    go_wp2_with (first
      | (go_at_call 33; ((with_reducible refine (HA.out _ (by (repeat' (first | (with_reducible exact Below.refl _ _) | (with_reducible assumption) | (with_reducible refine Below.alloc ?_ ?_ _) | (with_reducible refine below_drewN ?_ _) | (with_reducible refine below_drew ?_) | (with_reducible refine below_ext ?_ ?_ _ _) | (with_reducible refine Below.setCell ?_ ?_ _) | (simp; done) | (simp; omega) | omega)))).mono ?_); rintro e w1 ⟨rfl, hb1⟩; obtain ⟨osA, dA, rfl⟩ := ext_of_below hb1; clear hb1))
      | (go_at_call 34; ((with_reducible refine (HE2.out _ (by (repeat' (first | (with_reducible exact Below.refl _ _) | (with_reducible assumption) | (with_reducible refine Below.alloc ?_ ?_ _) | (with_reducible refine below_drewN ?_ _) | (with_reducible refine below_drew ?_) | (with_reducible refine below_ext ?_ ?_ _ _) | (with_reducible refine Below.setCell ?_ ?_ _) | (simp; done) | (simp; omega) | omega)))).mono ?_); rintro e w1 ⟨rfl, hb1⟩; obtain ⟨osB, dB, rfl⟩ := ext_of_below hb1; clear hb1)))
    go_returns
    exact ⟨rfl, by (repeat' (first | (with_reducible exact Below.refl _ _) | (with_reducible assumption) | (with_reducible refine Below.alloc ?_ ?_ _) | (with_reducible refine below_drewN ?_ _) | (with_reducible refine below_drew ?_) | (with_reducible refine below_ext ?_ ?_ _ _) | (with_reducible refine Below.setCell ?_ ?_ _) | (simp; done) | (simp; omega) | omega))⟩
  · rw [if_neg h0]
    have h2 := bneF (beq_eq_false_iff_ne.2 h0)
    clear HE hf
    go_enter Tryz.func12, Tryz.ntmps12
    go_wp2_with (first
      | (go_at_call 33; ((with_reducible refine (HA.out _ (by (repeat' (first | (with_reducible exact Below.refl _ _) | (with_reducible assumption) | (with_reducible refine Below.alloc ?_ ?_ _) | (with_reducible refine below_drewN ?_ _) | (with_reducible refine below_drew ?_) | (with_reducible refine below_ext ?_ ?_ _ _) | (with_reducible refine Below.setCell ?_ ?_ _) | (simp; done) | (simp; omega) | omega)))).mono ?_); rintro e w1 ⟨rfl, hb1⟩; obtain ⟨osA, dA, rfl⟩ := ext_of_below hb1; clear hb1)))
    go_returns
    exact ⟨rfl, by (repeat' (first | (with_reducible exact Below.refl _ _) | (with_reducible assumption) | (with_reducible refine Below.alloc ?_ ?_ _) | (with_reducible refine below_drewN ?_ _) | (with_reducible refine below_drew ?_) | (with_reducible refine below_ext ?_ ?_ _ _) | (with_reducible refine Below.setCell ?_ ?_ _) | (simp; done) | (simp; omega) | omega))⟩
theorem docLess_any (v v' : V) (n : Nat) (w : World) (x x' : Value) (hx : v.At n w x) (hx' : v'.At n w x') (hnw : n ≤ w.heap.size) :
    Calls Tryz.prog 14 #[x, x'] w fun e w' => e = .returned (.tuple #[TV (res3 (code2 v v') (v.lt3 v')).1 (res3 (code2 v v') (v.lt3 v')).2, .int .i64 (code2 v v')]) ∧ Below w.heap.size w w' := by
  have HA := Lib.hid (fun w' (hb : Below w.heap.size w w') => two_any v v' n w' x x' (hx.below (hb.mono hnw)) (hx'.below (hb.mono hnw)) (Nat.le_trans hnw hb.size))
  have HE := Lib.hid (fun (h : v.form = true ∧ v'.form = true) w' (hb : Below w.heap.size w w') => rLess_any v v' n w' x x' (hx.below (hb.mono hnw)) (hx'.below (hb.mono hnw)) (Nat.le_trans hnw hb.size) h.1 h.2)
  have hf := fun h => code2_ok (v := v) (v' := v') h
  obtain ⟨k, yes, neg, c, s, t, day, pl, nl, cl, pn, nn, cn, rfl, -, -⟩ := at_shape hx
  obtain ⟨k', yes', neg', c', s', t', day', pl', nl', cl', pn', nn', cn', rfl, -, -⟩ := at_shape hx'
  unfold res3
  generalize code2 v v' = a at *
  generalize v.lt3 v' = q at *
  clear hx hx'
  by_cases h0 : a = 0
  · subst h0
    rw [if_pos rfl]
    have HE2 := Lib.hid (HE.out (hf rfl))
    clear hf HE
    go_enter Tryz.func14, Tryz.ntmps14
    go_wp2_with (first
      | (go_at_call 33; ((with_reducible refine (HA.out _ (by (repeat' (first | (with_reducible exact Below.refl _ _) | (with_reducible assumption) | (with_reducible refine Below.alloc ?_ ?_ _) | (with_reducible refine below_drewN ?_ _) | (with_reducible refine below_drew ?_) | (with_reducible refine below_ext ?_ ?_ _ _) | (with_reducible refine Below.setCell ?_ ?_ _) | (simp; done) | (simp; omega) | omega)))).mono ?_); rintro e w1 ⟨rfl, hb1⟩; obtain ⟨osA, dA, rfl⟩ := ext_of_below hb1; clear hb1))
      | (go_at_call 37; ((with_reducible refine (HE2.out _ (by (repeat' (first | (with_reducible exact Below.refl _ _) | (with_reducible assumption) | (with_reducible refine Below.alloc ?_ ?_ _) | (with_reducible refine below_drewN ?_ _) | (with_reducible refine below_drew ?_) | (with_reducible refine below_ext ?_ ?_ _ _) | (with_reducible refine Below.setCell ?_ ?_ _) | (simp; done) | (simp; omega) | omega)))).mono ?_); rintro e w1 ⟨rfl, hb1⟩; obtain ⟨osB, dB, rfl⟩ := ext_of_below hb1; clear hb1)))
    go_returns
    exact ⟨rfl, by (repeat' (first | (with_reducible exact Below.refl _ _) | (with_reducible assumption) | (with_reducible refine Below.alloc ?_ ?_ _) | (with_reducible refine below_drewN ?_ _) | (with_reducible refine below_drew ?_) | (with_reducible refine below_ext ?_ ?_ _ _) | (with_reducible refine Below.setCell ?_ ?_ _) | (simp; done) | (simp; omega) | omega))⟩
  · rw [if_neg h0]
    have h2 := bneF (beq_eq_false_iff_ne.2 h0)
    clear HE hf
    go_enter Tryz.func14, Tryz.ntmps14
    go_wp2_with (first
      | (go_at_call 33; ((with_reducible refine (HA.out _ (by (repeat' (first | (with_reducible exact Below.refl _ _) | (with_reducible assumption) | (with_reducible refine Below.alloc ?_ ?_ _) | (with_reducible refine below_drewN ?_ _) | (with_reducible refine below_drew ?_) | (with_reducible refine below_ext ?_ ?_ _ _) | (with_reducible refine Below.setCell ?_ ?_ _) | (simp; done) | (simp; omega) | omega)))).mono ?_); rintro e w1 ⟨rfl, hb1⟩; obtain ⟨osA, dA, rfl⟩ := ext_of_below hb1; clear hb1)))
    go_returns
    exact ⟨rfl, by (repeat' (first | (with_reducible exact Below.refl _ _) | (with_reducible assumption) | (with_reducible refine Below.alloc ?_ ?_ _) | (with_reducible refine below_drewN ?_ _) | (with_reducible refine below_drew ?_) | (with_reducible refine below_ext ?_ ?_ _ _) | (with_reducible refine Below.setCell ?_ ?_ _) | (simp; done) | (simp; omega) | omega))⟩
end Go.Proofs.YtfffjbnbhmohjaaGreatDoor
