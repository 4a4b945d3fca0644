/-
  And, Or, Not, Equal, Less: the program's calls.
-/
import Derived.Test.YtjkallelniggpaaGreatDoorValZ
namespace Go.Proofs.YtjkallelniggpaaGreatDoor
open Go.RowKit Word Txt
attribute [local go_sem] setCell_drewN cell?_ext frozen?_ext shape?_ext setCell_ext lt_1' ne_1' en_1' le_1' lt_2' ne_2' en_2' le_2' lt_3' ne_3' en_3' le_3' lt_4' ne_4' en_4' le_4' lt_5' ne_5' en_5' le_5' lt_6' ne_6' en_6' le_6' lt_7' ne_7' en_7' le_7' lt_8' ne_8' en_8' le_8' lt_9' ne_9' en_9' le_9' lt_10' ne_10' en_10' le_10' lt_11' ne_11' en_11' le_11' lt_12' ne_12' en_12' le_12'

def or3 (p q : P3) : P3 := not3 (and3 (not3 p) (not3 q))
theorem code2_ok {v v' : V} (h : code2 v v' = 0) : v.form = true ∧ v'.form = true := by
  unfold code2 at h
  by_cases h0 : v.code = 0
  · rw [if_pos h0] at h; exact ⟨code_good h0, code_good h⟩
  · rw [if_neg h0] at h; exact absurd h h0
/-- is the first number less? -/
def ltN (neg : Bool) (c : Nat) (s : Int) (neg' : Bool) (c' : Nat) (s' : Int) : Bool := decide (ordV neg (Fit.uni c s.toNat) neg' (Fit.uni c' s'.toNat) < 0)
/-- is the first of two values less: true, false, null -/
def V.lt3 : V → V → P3
  | .mk k _ neg c s t day _ _, .mk k' _ neg' c' s' t' day' _ _ => if k ≠ k' then (0, false) else if k = 2 then (1, ltN neg c s neg' c' s') else if k = 3 then (1, Op.bytesLess t.toList t'.toList) else if k = 4 then (1, decide (day < day')) else (0, false)
theorem form_num {k : Int} {yes neg : Bool} {c : Nat} {s : Int} {t : ByteArray} {day : Int} {l : List V} {ns : List ByteArray} (h : (V.mk k yes neg c s t day l ns).form = true) (h2 : k = 2) : formB neg c s = true := by
  rw [form_doc] at h
  simp only [Bool.and_eq_true] at h
  have := h.2.2.1
  unfold ok3B at this
  rwa [if_pos h2] at this
set_option maxHeartbeats 4000000 in
theorem vLess_any (v v' : V) (n : Nat) (w : World) (x x' : Value) (hx : v.At n w x) (hx' : v'.At n w x') (hnw : n ≤ w.heap.size) (hT : Tens w) (hU : Tabs w) :
    Calls Tryz.prog 8 #[x, x'] w fun e w' => e = .returned (.tuple #[TV (res3 (code2 v v') (v.lt3 v')).1 (res3 (code2 v v') (v.lt3 v')).2, .int .i64 (code2 v v')]) ∧ Below w.heap.size w w' := by
  have HA := Lib.hid (fun w' (hb : Below w.heap.size w w') => checkBoth_any v v' n w' x x' (hx.below (hb.mono hnw)) (hx'.below (hb.mono hnw)) (Nat.le_trans hnw hb.size) (hT.below hb) (hU.below hb))
  have HT := Lib.hid (fun w' (hb : Below w.heap.size w w') => hT.below hb)
  have HTr := Lib.hid (fun b w => truth_any b w)
  have hf := fun h => code2_ok (v := v) (v' := v') h
  obtain ⟨k, yes, neg, c, s, t, day, l, ns, hv⟩ : ∃ k yes neg c s t day l ns, v = V.mk k yes neg c s t day l ns := by cases v; exact ⟨_, _, _, _, _, _, _, _, _, rfl⟩
  obtain ⟨k', yes', neg', c', s', t', day', l', ns', hv'⟩ : ∃ k yes neg c s t day l ns, v' = V.mk k yes neg c s t day l ns := by cases v'; exact ⟨_, _, _, _, _, _, _, _, _, rfl⟩
  have hlt : v.lt3 v' = if k ≠ k' then (0, false) else if k = 2 then (1, ltN neg c s neg' c' s') else if k = 3 then (1, Op.bytesLess t.toList t'.toList) else if k = 4 then (1, decide (day < day')) else (0, false) := by rw [hv, hv']; rfl
  rw [hlt]
  have hf2 : code2 v v' = 0 → k = 2 → k = k' → formB neg c s = true ∧ formB neg' c' s' = true := fun h h2 h3 => ⟨form_num (hv ▸ (hf h).1) h2, form_num (hv' ▸ (hf h).2) (h3 ▸ h2)⟩
  rw [hv] at hx
  rw [hv'] at hx'
  obtain ⟨lv, nv, rfl, ⟨hc, ht, hl, hnl⟩, hL, hN, hsz⟩ := at_mk hx
  obtain ⟨lv2, nv2, rfl, ⟨hc2, ht2, hl2, hnl2⟩, hL2, hN2, hsz2⟩ := at_mk hx'
  obtain ⟨pl, cl, rfl⟩ := hL.shape
  obtain ⟨pn, cn, rfl⟩ := hN.shape
  obtain ⟨pl2, cl2, rfl⟩ := hL2.shape
  obtain ⟨pn2, cn2, rfl⟩ := hN2.shape
  generalize l.length = ll at *
  generalize l'.length = ll2 at *
  generalize ns.length = nl at *
  generalize ns'.length = nl2 at *
  unfold res3
  generalize code2 v v' = a at *
  clear hx hx' hT hU hL hN hsz hL2 hN2 hsz2 hc ht hl hnl hc2 ht2 hl2 hnl2 hlt hv hv' hf
  by_cases h0 : a = 0
  · subst h0
    rw [if_pos rfl]
    by_cases hk : k ≠ k'
    · rw [if_pos hk]
      have h3 := bneF (beq_eq_false_iff_ne.2 hk)
      clear hk hf2
      go_enter Tryz.func8, Tryz.ntmps8
      go_wp2_with (first
        | (go_at_call 12; ((with_reducible refine (HA.out _ (by (repeat' (first | (with_reducible exact Below.refl _ _) | (with_reducible assumption) | (with_reducible refine Below.alloc ?_ ?_ _) | (with_reducible refine below_drewN ?_ _) | (with_reducible refine below_drew ?_) | (with_reducible refine below_ext ?_ ?_ _ _) | (with_reducible refine Below.setCell ?_ ?_ _) | (simp; done) | (simp; omega) | omega)))).mono ?_); rintro e w1 ⟨rfl, hb1⟩; obtain ⟨osA, dA, rfl⟩ := ext_of_below hb1; clear hb1)))
      go_returns
      exact ⟨rfl, by (repeat' (first | (with_reducible exact Below.refl _ _) | (with_reducible assumption) | (with_reducible refine Below.alloc ?_ ?_ _) | (with_reducible refine below_drewN ?_ _) | (with_reducible refine below_drew ?_) | (with_reducible refine below_ext ?_ ?_ _ _) | (with_reducible refine Below.setCell ?_ ?_ _) | (simp; done) | (simp; omega) | omega))⟩
    rw [if_neg hk]
    obtain rfl : k = k' := Decidable.byContradiction hk
    clear hk
    by_cases h2 : k = 2
    · subst h2
      rw [if_pos rfl]
      obtain ⟨fa, fb⟩ := hf2 rfl rfl rfl
      obtain ⟨S, hS, -⟩ := form_open fa
      obtain ⟨S', hS', -⟩ := form_open fb
      have HC := Lib.hid (fun w' (hb : Below w.heap.size w w') => dcmp_ok neg neg' c c' s s' S S' hS hS' fa fb (ordV neg (Fit.uni c s.toNat) neg' (Fit.uni c' s'.toNat)) (by rw [hS, hS']; simp) w' (HT.out w' hb))
      unfold ltN
      generalize ordV neg (Fit.uni c s.toNat) neg' (Fit.uni c' s'.toNat) = z at *
      clear fa fb hS hS' hf2
      go_enter Tryz.func8, Tryz.ntmps8
      go_wp2_with (first
        | (go_at_call 12; ((with_reducible refine (HA.out _ (by (repeat' (first | (with_reducible exact Below.refl _ _) | (with_reducible assumption) | (with_reducible refine Below.alloc ?_ ?_ _) | (with_reducible refine below_drewN ?_ _) | (with_reducible refine below_drew ?_) | (with_reducible refine below_ext ?_ ?_ _ _) | (with_reducible refine Below.setCell ?_ ?_ _) | (simp; done) | (simp; omega) | omega)))).mono ?_); rintro e w1 ⟨rfl, hb1⟩; obtain ⟨osA, dA, rfl⟩ := ext_of_below hb1; clear hb1))
        | (go_at_call 13; ((with_reducible refine (HC.out _ (by (repeat' (first | (with_reducible exact Below.refl _ _) | (with_reducible assumption) | (with_reducible refine Below.alloc ?_ ?_ _) | (with_reducible refine below_drewN ?_ _) | (with_reducible refine below_drew ?_) | (with_reducible refine below_ext ?_ ?_ _ _) | (with_reducible refine Below.setCell ?_ ?_ _) | (simp; done) | (simp; omega) | omega)))).mono ?_); rintro e w1 ⟨rfl, hb1⟩; obtain ⟨osB, dB, rfl⟩ := ext_of_below hb1; clear hb1))
        | (go_at_call 14; ((with_reducible refine (HTr.out _ _).mono ?_); rintro e w1 ⟨rfl, hb1⟩; obtain ⟨osC, dC, rfl⟩ := ext_of_below hb1; clear hb1)))
      go_returns
      exact ⟨rfl, by (repeat' (first | (with_reducible exact Below.refl _ _) | (with_reducible assumption) | (with_reducible refine Below.alloc ?_ ?_ _) | (with_reducible refine below_drewN ?_ _) | (with_reducible refine below_drew ?_) | (with_reducible refine below_ext ?_ ?_ _ _) | (with_reducible refine Below.setCell ?_ ?_ _) | (simp; done) | (simp; omega) | omega))⟩
    rw [if_neg h2]
    have g2 : (k == 2) = false := beq_eq_false_iff_ne.2 h2
    by_cases h3 : k = 3
    · subst h3
      rw [if_pos rfl]
      clear hf2
      generalize hq : Op.bytesLess t.toList t'.toList = q
      go_enter Tryz.func8, Tryz.ntmps8
      go_wp2_with (first
        | (go_at_call 12; ((with_reducible refine (HA.out _ (by (repeat' (first | (with_reducible exact Below.refl _ _) | (with_reducible assumption) | (with_reducible refine Below.alloc ?_ ?_ _) | (with_reducible refine below_drewN ?_ _) | (with_reducible refine below_drew ?_) | (with_reducible refine below_ext ?_ ?_ _ _) | (with_reducible refine Below.setCell ?_ ?_ _) | (simp; done) | (simp; omega) | omega)))).mono ?_); rintro e w1 ⟨rfl, hb1⟩; obtain ⟨osA, dA, rfl⟩ := ext_of_below hb1; clear hb1))
        | (go_at_call 14; ((with_reducible refine (HTr.out _ _).mono ?_); rintro e w1 ⟨rfl, hb1⟩; obtain ⟨osC, dC, rfl⟩ := ext_of_below hb1; clear hb1)))
      go_returns
      exact ⟨rfl, by (repeat' (first | (with_reducible exact Below.refl _ _) | (with_reducible assumption) | (with_reducible refine Below.alloc ?_ ?_ _) | (with_reducible refine below_drewN ?_ _) | (with_reducible refine below_drew ?_) | (with_reducible refine below_ext ?_ ?_ _ _) | (with_reducible refine Below.setCell ?_ ?_ _) | (simp; done) | (simp; omega) | omega))⟩
    rw [if_neg h3]
    have g3 : (k == 3) = false := beq_eq_false_iff_ne.2 h3
    by_cases h4 : k = 4
    · subst h4
      rw [if_pos rfl]
      clear hf2
      go_enter Tryz.func8, Tryz.ntmps8
      go_wp2_with (first
        | (go_at_call 12; ((with_reducible refine (HA.out _ (by (repeat' (first | (with_reducible exact Below.refl _ _) | (with_reducible assumption) | (with_reducible refine Below.alloc ?_ ?_ _) | (with_reducible refine below_drewN ?_ _) | (with_reducible refine below_drew ?_) | (with_reducible refine below_ext ?_ ?_ _ _) | (with_reducible refine Below.setCell ?_ ?_ _) | (simp; done) | (simp; omega) | omega)))).mono ?_); rintro e w1 ⟨rfl, hb1⟩; obtain ⟨osA, dA, rfl⟩ := ext_of_below hb1; clear hb1))
        | (go_at_call 14; ((with_reducible refine (HTr.out _ _).mono ?_); rintro e w1 ⟨rfl, hb1⟩; obtain ⟨osC, dC, rfl⟩ := ext_of_below hb1; clear hb1)))
      go_returns
      exact ⟨rfl, by (repeat' (first | (with_reducible exact Below.refl _ _) | (with_reducible assumption) | (with_reducible refine Below.alloc ?_ ?_ _) | (with_reducible refine below_drewN ?_ _) | (with_reducible refine below_drew ?_) | (with_reducible refine below_ext ?_ ?_ _ _) | (with_reducible refine Below.setCell ?_ ?_ _) | (simp; done) | (simp; omega) | omega))⟩
    rw [if_neg h4]
    have g4 : (k == 4) = false := beq_eq_false_iff_ne.2 h4
    clear hf2 h2 h3 h4
    go_enter Tryz.func8, Tryz.ntmps8
    go_wp2_with (first
      | (go_at_call 12; ((with_reducible refine (HA.out _ (by (repeat' (first | (with_reducible exact Below.refl _ _) | (with_reducible assumption) | (with_reducible refine Below.alloc ?_ ?_ _) | (with_reducible refine below_drewN ?_ _) | (with_reducible refine below_drew ?_) | (with_reducible refine below_ext ?_ ?_ _ _) | (with_reducible refine Below.setCell ?_ ?_ _) | (simp; done) | (simp; omega) | omega)))).mono ?_); rintro e w1 ⟨rfl, hb1⟩; obtain ⟨osA, dA, rfl⟩ := ext_of_below hb1; clear hb1)))
    go_returns
    exact ⟨rfl, by (repeat' (first | (with_reducible exact Below.refl _ _) | (with_reducible assumption) | (with_reducible refine Below.alloc ?_ ?_ _) | (with_reducible refine below_drewN ?_ _) | (with_reducible refine below_drew ?_) | (with_reducible refine below_ext ?_ ?_ _ _) | (with_reducible refine Below.setCell ?_ ?_ _) | (simp; done) | (simp; omega) | omega))⟩
  · rw [if_neg h0]
    have h2 := bneF (beq_eq_false_iff_ne.2 h0)
    clear hf2
    go_enter Tryz.func8, Tryz.ntmps8
    go_wp2_with (first
      | (go_at_call 12; ((with_reducible refine (HA.out _ (by (repeat' (first | (with_reducible exact Below.refl _ _) | (with_reducible assumption) | (with_reducible refine Below.alloc ?_ ?_ _) | (with_reducible refine below_drewN ?_ _) | (with_reducible refine below_drew ?_) | (with_reducible refine below_ext ?_ ?_ _ _) | (with_reducible refine Below.setCell ?_ ?_ _) | (simp; done) | (simp; omega) | omega)))).mono ?_); rintro e w1 ⟨rfl, hb1⟩; obtain ⟨osA, dA, rfl⟩ := ext_of_below hb1; clear hb1)))
    go_returns
    exact ⟨rfl, by (repeat' (first | (with_reducible exact Below.refl _ _) | (with_reducible assumption) | (with_reducible refine Below.alloc ?_ ?_ _) | (with_reducible refine below_drewN ?_ _) | (with_reducible refine below_drew ?_) | (with_reducible refine below_ext ?_ ?_ _ _) | (with_reducible refine Below.setCell ?_ ?_ _) | (simp; done) | (simp; omega) | omega))⟩
end Go.Proofs.YtjkallelniggpaaGreatDoor
