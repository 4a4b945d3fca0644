/-
  Which type a value has, which types it fits: the program's way.
-/
import Derived.Test.YtdmmpknpoephnaaDoorValI
import Derived.Test.YtdmmpknpoephnaaDoorKindA
namespace Go.Proofs.YtdmmpknpoephnaaDoor
open Go.RowKit Word Txt
attribute [local go_sem] setCell_drewN cell?_ext frozen?_ext shape?_ext setCell_ext lt_1' ne_1' en_1' le_1' lt_2' ne_2' en_2' le_2' lt_3' ne_3' en_3' le_3' lt_4' ne_4' en_4' le_4' lt_5' ne_5' en_5' le_5' lt_6' ne_6' en_6' le_6' lt_7' ne_7' en_7' le_7' lt_8' ne_8' en_8' le_8' lt_9' ne_9' en_9' le_9' lt_10' ne_10' en_10' le_10' lt_11' ne_11' en_11' le_11' lt_12' ne_12' en_12' le_12'

theorem bneF {x y : Int} (h : (x == y) = false) : (x != y) = true := by simp [bne, h]
theorem bneT {x y : Int} (h : (x == y) = true) : (x != y) = false := by simp [bne, h]
theorem allB_cons (of : Int) (v : V) (r : List V) : allB of (v :: r) = ((of == 0 || (v.kind == 0 || v.kind == of)) && allB of r) := rfl
theorem allB_drop (of : Int) (l : List V) (m : Nat) (h : m < l.length) : allB of (l.drop m) = ((of == 0 || (l[m].kind == 0 || l[m].kind == of)) && allB of (l.drop (m + 1))) := by
  rw [List.drop_eq_getElem_cons h]; rfl
set_option maxHeartbeats 4000000 in
theorem allOf_any (n : Nat) (w : World) (l : List V) (lv : Value) (of : Int) (hL : VSl n w l lv) (hl : l.length ≤ 1048576) (hnw : n ≤ w.heap.size) :
    Calls Tryd.prog 21 #[lv, .int .i64 of] w fun e w' => e = .returned (.bool (allB of l)) ∧ Below w.heap.size w w' := by
  rcases hL with ⟨rfl, p, c, rfl⟩ | ⟨g, o, cap, rfl, hgn, hg, hrow⟩
  · go_enter Tryd.func21, Tryd.ntmps21
    go_wp2
    refine wp_loop_rounds 1 ?_
    rw [rounds_succ]
    go_wp2
    go_ret
    exact ⟨rfl, by (repeat' (first | (with_reducible exact Below.refl _ _) | (with_reducible assumption) | (with_reducible refine Below.alloc ?_ ?_ _) | (with_reducible refine below_drewN ?_ _) | (with_reducible refine below_drew ?_) | (with_reducible refine below_ext ?_ ?_ _ _) | (with_reducible refine Below.setCell ?_ ?_ _) | (simp; done) | (simp; omega) | omega))⟩
  · have HR := Lib.hid (fun w' (hb : Below w.heap.size w w') => hrow.below (hb.mono hnw) hgn)
    obtain ⟨len, hlen⟩ : ∃ len, l.length = len := ⟨_, rfl⟩
    have HLen := Lib.hid hlen
    rw [hlen] at hl ⊢
    clear hrow hlen
    go_enter Tryd.func21, Tryd.ntmps21
    go_wp2
    go_loopw [9] (fun i wr => ∃ m : Nat, m ≤ len ∧ i = .int .i64 m ∧ Below w.heap.size w wr ∧ allB of (l.drop m) = allB of l) (fun i _ => len - (intOf i).toNat)
    case atStart => exact ⟨0, by omega, rfl, Below.refl _ _, rfl⟩
    case round =>
      obtain ⟨m, hm, rfl, hbw, hcm⟩ := hrel
      have HCM := Lib.hid hcm
      have HBW := Lib.hid hbw
      have hsw := hbw.size
      by_cases hml : m < len
      · have hi : (m : Int) < len := by omega
        have hmn : m < l.length := by have := HLen.out; omega
        obtain ⟨k', yes', neg', a', b', s', t', day', pl', nl', cl', pn', nn', cn', h0, h1, h2, h3, h4, h5, h6, h7, h8, h9, hat⟩ := (HR.out _ hbw).elem m hmn
        have hk := at_kind hat
        have hst := allB_drop of l m hmn
        rw [hk, hcm] at hst
        have HST := Lib.hid hst
        have hgr : g < wr.heap.size := by omega
        clear hat hcm hbw hst hk
        cases hA : (of == 0)
        · have hA2 := bneF hA
          cases hB : (k' == 0)
          · have hB2 := bneF hB
            cases hC : (k' == of)
            · have hC2 := bneF hC
              have HN := Lib.hid (show allB of l = false by have := HST.out; rw [hA, hB, hC] at this; exact this)
              clear HST
              go_wp2
              go_ret
              exact ⟨by rw [HN.out]; rfl, HBW.out.trans (by (repeat' (first | (with_reducible exact Below.refl _ _) | (with_reducible assumption) | (with_reducible refine Below.alloc ?_ ?_ _) | (with_reducible refine below_drewN ?_ _) | (with_reducible refine below_drew ?_) | (with_reducible refine below_ext ?_ ?_ _ _) | (with_reducible refine Below.setCell ?_ ?_ _) | (simp; done) | (simp; omega) | omega)))⟩
            · have hC2 := bneT hC
              have HN := Lib.hid (show allB of (l.drop (m + 1)) = allB of l by have := HST.out; rw [hA, hB, hC] at this; exact this.symm)
              clear HST
              go_wp2
              go_roundw
              case rel => exact ⟨m + 1, by omega, by go_num, HBW.out.trans (by (repeat' (first | (with_reducible exact Below.refl _ _) | (with_reducible assumption) | (with_reducible refine Below.alloc ?_ ?_ _) | (with_reducible refine below_drewN ?_ _) | (with_reducible refine below_drew ?_) | (with_reducible refine below_ext ?_ ?_ _ _) | (with_reducible refine Below.setCell ?_ ?_ _) | (simp; done) | (simp; omega) | omega))), HN.out⟩
              case measure => simp [intOf]; omega
          · have hB2 := bneT hB
            have HN := Lib.hid (show allB of (l.drop (m + 1)) = allB of l by have := HST.out; rw [hA, hB] at this; exact this.symm)
            clear HST
            go_wp2
            go_roundw
            case rel => exact ⟨m + 1, by omega, by go_num, HBW.out.trans (by (repeat' (first | (with_reducible exact Below.refl _ _) | (with_reducible assumption) | (with_reducible refine Below.alloc ?_ ?_ _) | (with_reducible refine below_drewN ?_ _) | (with_reducible refine below_drew ?_) | (with_reducible refine below_ext ?_ ?_ _ _) | (with_reducible refine Below.setCell ?_ ?_ _) | (simp; done) | (simp; omega) | omega))), HN.out⟩
            case measure => simp [intOf]; omega
        · have hA2 := bneT hA
          have HN := Lib.hid (show allB of (l.drop (m + 1)) = allB of l by have := HST.out; rw [hA] at this; exact this.symm)
          clear HST
          go_wp2
          go_roundw
          case rel => exact ⟨m + 1, by omega, by go_num, HBW.out.trans (by (repeat' (first | (with_reducible exact Below.refl _ _) | (with_reducible assumption) | (with_reducible refine Below.alloc ?_ ?_ _) | (with_reducible refine below_drewN ?_ _) | (with_reducible refine below_drew ?_) | (with_reducible refine below_ext ?_ ?_ _ _) | (with_reducible refine Below.setCell ?_ ?_ _) | (simp; done) | (simp; omega) | omega))), HN.out⟩
          case measure => simp [intOf]; omega
      · obtain rfl : m = len := by omega
        have hi : ¬ (m : Int) < m := by omega
        have HN := Lib.hid (show true = allB of l by rw [← HCM.out, ← HLen.out, List.drop_length]; rfl)
        clear hcm hbw
        go_wp2
        go_ret
        exact ⟨by rw [← HN.out]; rfl, HBW.out⟩
/-- the type of a value in form -/
def ofT (v : V) : Int × Int := if v.kind = 5 then (5, cm 0 v.kids) else if v.kind = 6 then (0, 0) else (v.kind, 0)
/-- does a value in form fit a type? -/
def fitsB (v : V) (tk tq : Int) : Bool := (v.kind == 0 || tk == 0) || (v.kind == tk && allB tq v.kids)
theorem code_good {v : V} (h : v.code = 0) : v.form = true := ((code_is h.symm).1 rfl).2.2
theorem form_kind {v : V} (h : v.form = true) : 0 ≤ v.kind ∧ v.kind ≤ 6 ∧ (v.kind < 5 → v.kids = []) ∧ ∀ u ∈ v.kids, u.form = true := by
  cases v with
  | mk k yes neg c s t day l ns =>
    rw [form_doc] at h
    simp only [Bool.and_eq_true, decide_eq_true_eq] at h
    obtain ⟨⟨h1, h2⟩, h3, _, _, _, h4⟩ := h
    refine ⟨h1, h2, fun h5 => ?_, (formL_iff l).1 h4⟩
    unfold bareB at h3
    simp only [Bool.and_eq_true, Bool.or_eq_true, decide_eq_true_eq] at h3
    rcases h3.2.2.2.2.1 with h6 | h6
    · exact absurd h6 (by show ¬ 5 ≤ k; exact Int.not_le.2 h5)
    · exact List.length_eq_zero_iff.1 h6
set_option maxHeartbeats 8000000 in
theorem kOf_any (v : V) (n : Nat) (w : World) (x : Value) (hx : v.At n w x) (hnw : n ≤ w.heap.size) (hT : Tens w) (hU : Tabs w) :
    Calls Tryd.prog 7 #[x] w fun e w' => e = .returned (.tuple #[if v.code = 0 then T (ofT v).1 (ofT v).2 else T 0 0, .int .i64 v.code]) ∧ Below w.heap.size w w' := by
  have HC := Lib.hid (fun w' (hb : Below w.heap.size w w') => vcheck_any v n w' x (hx.below (hb.mono hnw)) (Nat.le_trans hnw hb.size) (hT.below hb) (hU.below hb))
  obtain ⟨k, yes, neg, c, s, t, day, l, ns, hv⟩ : ∃ k yes neg c s t day l ns, v = V.mk k yes neg c s t day l ns := by cases v; exact ⟨_, _, _, _, _, _, _, _, _, rfl⟩
  have hvk : v.kind = k := by rw [hv]; rfl
  have hvl : v.kids = l := by rw [hv]; rfl
  have hfk := fun h => form_kind (v := v) (code_good h)
  have hof : ofT v = if k = 5 then (5, cm 0 l) else if k = 6 then (0, 0) else (k, 0) := by unfold ofT; rw [hvk, hvl]
  rw [hof]
  rw [hvk, hvl] at hfk
  rw [hv] at hx
  obtain ⟨lv, nv, rfl, ⟨hc, ht, hl, hnl⟩, hL, hN, hsz⟩ := at_mk hx
  have HM := Lib.hid (fun w' (hb : Below w.heap.size w w') => common_any n w' l lv (hL.below (hb.mono hnw)) hl (Nat.le_trans hnw hb.size))
  obtain ⟨pl, cl, rfl⟩ := hL.shape
  obtain ⟨pn, cn, rfl⟩ := hN.shape
  obtain ⟨cd, hcd⟩ : ∃ cd, cd = v.code := ⟨_, rfl⟩
  rw [← hcd] at HC hfk ⊢
  generalize cm 0 l = cmv at *
  clear hx hv hvk hvl hof hL hN hsz hc ht hT hU hnl hl hcd
  by_cases h0 : cd = 0
  · subst h0
    have hf := hfk rfl
    clear hfk
    have h7 : k = 0 ∨ k = 1 ∨ k = 2 ∨ k = 3 ∨ k = 4 ∨ k = 5 ∨ k = 6 := by omega
    clear hf
    rcases h7 with rfl | rfl | rfl | rfl | rfl | rfl | rfl
    all_goals
      go_enter Tryd.func7, Tryd.ntmps7
      go_wp2_with (first
        | (go_at_call 17; ((with_reducible refine (HC.out _ (by (repeat' (first | (with_reducible exact Below.refl _ _) | (with_reducible assumption) | (with_reducible refine Below.alloc ?_ ?_ _) | (with_reducible refine below_drewN ?_ _) | (with_reducible refine below_drew ?_) | (with_reducible refine below_ext ?_ ?_ _ _) | (with_reducible refine Below.setCell ?_ ?_ _) | (simp; done) | (simp; omega) | omega)))).mono ?_); rintro e w1 ⟨rfl, hb1⟩; obtain ⟨osA, dA, rfl⟩ := ext_of_below hb1; clear hb1))
        | (go_at_call 18; ((with_reducible refine (HM.out _ (by (repeat' (first | (with_reducible exact Below.refl _ _) | (with_reducible assumption) | (with_reducible refine Below.alloc ?_ ?_ _) | (with_reducible refine below_drewN ?_ _) | (with_reducible refine below_drew ?_) | (with_reducible refine below_ext ?_ ?_ _ _) | (with_reducible refine Below.setCell ?_ ?_ _) | (simp; done) | (simp; omega) | omega)))).mono ?_); rintro e w1 ⟨rfl, hb1⟩; obtain ⟨osB, dB, rfl⟩ := ext_of_below hb1; clear hb1)))
      go_returns
      exact ⟨rfl, by (repeat' (first | (with_reducible exact Below.refl _ _) | (with_reducible assumption) | (with_reducible refine Below.alloc ?_ ?_ _) | (with_reducible refine below_drewN ?_ _) | (with_reducible refine below_drew ?_) | (with_reducible refine below_ext ?_ ?_ _ _) | (with_reducible refine Below.setCell ?_ ?_ _) | (simp; done) | (simp; omega) | omega))⟩
  · rw [if_neg h0]
    have h1 : (cd == 0) = false := beq_eq_false_iff_ne.2 h0
    have h2 : (cd != 0) = true := by simp [bne, h1]
    clear hfk
    go_enter Tryd.func7, Tryd.ntmps7
    go_wp2_with (first
      | (go_at_call 17; ((with_reducible refine (HC.out _ (by (repeat' (first | (with_reducible exact Below.refl _ _) | (with_reducible assumption) | (with_reducible refine Below.alloc ?_ ?_ _) | (with_reducible refine below_drewN ?_ _) | (with_reducible refine below_drew ?_) | (with_reducible refine below_ext ?_ ?_ _ _) | (with_reducible refine Below.setCell ?_ ?_ _) | (simp; done) | (simp; omega) | omega)))).mono ?_); rintro e w1 ⟨rfl, hb1⟩; obtain ⟨osA, dA, rfl⟩ := ext_of_below hb1; clear hb1)))
    go_returns
    exact ⟨rfl, by (repeat' (first | (with_reducible exact Below.refl _ _) | (with_reducible assumption) | (with_reducible refine Below.alloc ?_ ?_ _) | (with_reducible refine below_drewN ?_ _) | (with_reducible refine below_drew ?_) | (with_reducible refine below_ext ?_ ?_ _ _) | (with_reducible refine Below.setCell ?_ ?_ _) | (simp; done) | (simp; omega) | omega))⟩
end Go.Proofs.YtdmmpknpoephnaaDoor
