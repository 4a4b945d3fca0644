/-
  Which type a value has, which types it fits: the document's way, and the program's calls.
-/
import Derived.Test.YtdmmpknpoephnaaDoorValJ
import Derived.Test.YtdmmpknpoephnaaDoorBe
namespace Go.Proofs.YtdmmpknpoephnaaDoor
open Go.RowKit Word Txt
attribute [local go_sem] setCell_drewN cell?_ext frozen?_ext shape?_ext setCell_ext lt_1' ne_1' en_1' le_1' lt_2' ne_2' en_2' le_2' lt_3' ne_3' en_3' le_3' lt_4' ne_4' en_4' le_4' lt_5' ne_5' en_5' le_5' lt_6' ne_6' en_6' le_6' lt_7' ne_7' en_7' le_7' lt_8' ne_8' en_8' le_8' lt_9' ne_9' en_9' le_9' lt_10' ne_10' en_10' le_10' lt_11' ne_11' en_11' le_11' lt_12' ne_12' en_12' le_12'

set_option maxHeartbeats 8000000 in
theorem rOf_any (v : V) (n : Nat) (w : World) (x : Value) (hx : v.At n w x) (_hnw : n ≤ w.heap.size) (hv0 : v.code = 0) :
    Calls Tryd.prog 16 #[x] w fun e w' => e = .returned (T (ofT v).1 (ofT v).2) ∧ Below w.heap.size w w' := by
  obtain ⟨k, yes, neg, c, s, t, day, l, ns, hv⟩ : ∃ k yes neg c s t day l ns, v = V.mk k yes neg c s t day l ns := by cases v; exact ⟨_, _, _, _, _, _, _, _, _, rfl⟩
  have hvk : v.kind = k := by rw [hv]; rfl
  have hvl : v.kids = l := by rw [hv]; rfl
  have hfk := form_kind (v := v) (code_good hv0)
  have hof : ofT v = if k = 5 then (5, cm 0 l) else if k = 6 then (0, 0) else (k, 0) := by unfold ofT; rw [hvk, hvl]
  rw [hof]
  rw [hvk, hvl] at hfk
  rw [hv] at hx
  obtain ⟨lv, nv, rfl, ⟨hc, ht, hl, hnl⟩, hL, hN, hsz⟩ := at_mk hx
  obtain ⟨pl, cl, rfl⟩ := hL.shape
  obtain ⟨pn, cn, rfl⟩ := hN.shape
  clear hx hv hvk hvl hof hN hsz hc ht hnl hv0
  by_cases k6 : k = 6
  · subst k6
    clear hfk hL
    go_enter Tryd.func16, Tryd.ntmps16
    go_wp2
    go_returns
    exact ⟨rfl, by (repeat' (first | (with_reducible exact Below.refl _ _) | (with_reducible assumption) | (with_reducible refine Below.alloc ?_ ?_ _) | (with_reducible refine below_drewN ?_ _) | (with_reducible refine below_drew ?_) | (with_reducible refine below_ext ?_ ?_ _ _) | (with_reducible refine Below.setCell ?_ ?_ _) | (simp; done) | (simp; omega) | omega))⟩
  obtain ⟨hk0, hk7, hk5, -⟩ := hfk
  have k6' : (k == 6) = false := beq_eq_false_iff_ne.2 k6
  have hres : (if k = 5 then (5, cm 0 l) else if k = 6 then (0, 0) else (k, 0) : Int × Int) = (k, cm 0 l) := by
    by_cases h5 : k = 5
    · rw [if_pos h5, h5]
    · rw [if_neg h5, if_neg k6, hk5 (by omega)]; rfl
  rw [hres]
  rcases hL with ⟨rfl, hlv⟩ | ⟨g, o, cap, hlv, hgn, hg, hrow⟩
  · clear hlv
    clear hres k6 hk5
    go_enter Tryd.func16, Tryd.ntmps16
    go_wp2
    refine wp_loop_rounds 1 ?_
    rw [rounds_succ]
    go_wp2
    go_returns
    exact ⟨rfl, by (repeat' (first | (with_reducible exact Below.refl _ _) | (with_reducible assumption) | (with_reducible refine Below.alloc ?_ ?_ _) | (with_reducible refine below_drewN ?_ _) | (with_reducible refine below_drew ?_) | (with_reducible refine below_ext ?_ ?_ _ _) | (with_reducible refine Below.setCell ?_ ?_ _) | (simp; done) | (simp; omega) | omega))⟩
  · simp only [Value.slice.injEq] at hlv
    obtain ⟨rfl, -, rfl⟩ := hlv
    have hg1 : g < w.heap.size + 1 := by omega
    have hg2 : g < w.heap.size + 1 + 1 := by omega
    have HK5 := Lib.hid (show 0 < l.length → k = 5 from fun h => Decidable.byContradiction fun h5 => by rw [hk5 (by omega)] at h; simp at h)
    have HROW := Lib.hid hrow
    obtain ⟨len, hlen⟩ : ∃ len, l.length = len := ⟨_, rfl⟩
    have HLen := Lib.hid hlen
    rw [hlen] at hl ⊢
    clear hrow hlen hres hk5 k6
    go_enter Tryd.func16, Tryd.ntmps16
    go_wp2
    go_loopw [4, 5] (fun fi i wr => ∃ (f : Int) (m : Nat), fi = .bool (f == 0) ∧ m ≤ len ∧ i = .int .i64 m ∧ wr = ((w.alloc (.cells #[.int .i64 k, .bool yes, .bool neg, .int .u64 (Word.hi c : Int), .int .u64 (lo c : Int), .int .i64 s, .string t, .int .i64 day, .slice (some ⟨g, o, none⟩) len cl, .slice pn ns.length cn] 30)).alloc (.cells #[.int .i64 0, .int .i64 0] 32)).alloc (.cells #[.int .i64 k, .int .i64 f] 32) ∧ f ≤ 4 ∧ cm f (l.drop m) = cm 0 l) (fun _ i _ => len - (intOf i).toNat)
    case atStart => exact ⟨0, 0, rfl, by omega, rfl, rfl, by omega, rfl⟩
    case round =>
      obtain ⟨f, m, rfl, hm, rfl, rfl, hf4, hcm⟩ := hrel
      have HCM := Lib.hid hcm
      by_cases hml : m < len
      · have hi : (m : Int) < len := by omega
        have hmn : m < l.length := by have := HLen.out; omega
        have HK := Lib.hid (HK5.out (by omega))
        obtain ⟨k', yes', neg', a', b', s', t', day', pl', nl', cl', pn', nn', cn', h0, h1, h2, h3, h4, h5, h6, h7, h8, h9, hat⟩ := HROW.out.elem m hmn
        have hk := at_kind hat
        have hst := cm_drop f l m hmn
        rw [hk, hcm] at hst
        have HST := Lib.hid hst
        clear hat hcm hst hk h1 h2 h3 h4 h5 h6 h7 h8 h9
        by_cases hz : k' = 0
        · subst hz
          have HN := Lib.hid (show cm f (l.drop (m + 1)) = cm 0 l by have := HST.out; rw [if_pos (.inl rfl)] at this; exact this.symm)
          clear HST
          go_wp2
          go_roundw
          case rel => exact ⟨f, m + 1, rfl, by omega, by go_num, rfl, hf4, HN.out⟩
          case measure => simp [intOf]; omega
        · have hz1 : (k' == 0) = false := beq_eq_false_iff_ne.2 hz
          by_cases hb4 : 4 < k'
          · have HN := Lib.hid (show cm 0 l = 0 ∧ k = 5 by
              have := HST.out
              rw [if_neg (by omega), if_pos (.inl hb4)] at this
              exact ⟨this, HK.out⟩)
            clear HST
            go_wp2
            go_returns
            exact ⟨by rw [HN.out.1, HN.out.2], by (repeat' (first | (with_reducible exact Below.refl _ _) | (with_reducible assumption) | (with_reducible refine Below.alloc ?_ ?_ _) | (with_reducible refine below_drewN ?_ _) | (with_reducible refine below_drew ?_) | (with_reducible refine below_ext ?_ ?_ _ _) | (with_reducible refine Below.setCell ?_ ?_ _) | (simp; done) | (simp; omega) | omega))⟩
          · by_cases hf0 : f = 0
            · subst hf0
              have HN := Lib.hid (show cm k' (l.drop (m + 1)) = cm 0 l by have := HST.out; rw [if_neg (by omega), if_neg (by omega)] at this; exact this.symm)
              clear HST
              go_wp2
              go_roundw
              case rel => exact ⟨k', m + 1, by rw [hz1], by omega, by go_num, rfl, by omega, HN.out⟩
              case measure => simp [intOf]; omega
            · have hf1 : (f == 0) = false := beq_eq_false_iff_ne.2 hf0
              by_cases hkf : k' = f
              · subst hkf
                have HN := Lib.hid (show cm k' (l.drop (m + 1)) = cm 0 l by have := HST.out; rw [if_pos (.inr rfl)] at this; exact this.symm)
                clear HST
                go_wp2
                go_roundw
                case rel => exact ⟨k', m + 1, by rw [hz1], by omega, by go_num, rfl, by omega, HN.out⟩
                case measure => simp [intOf]; omega
              · have HN := Lib.hid (show cm 0 l = 0 ∧ k = 5 by
                  have := HST.out
                  rw [if_neg (by omega), if_pos (.inr hf0)] at this
                  exact ⟨this, HK.out⟩)
                have hk1 := bneF (beq_eq_false_iff_ne.2 hkf)
                clear HST
                go_wp2
                go_returns
                exact ⟨by rw [HN.out.1, HN.out.2], by (repeat' (first | (with_reducible exact Below.refl _ _) | (with_reducible assumption) | (with_reducible refine Below.alloc ?_ ?_ _) | (with_reducible refine below_drewN ?_ _) | (with_reducible refine below_drew ?_) | (with_reducible refine below_ext ?_ ?_ _ _) | (with_reducible refine Below.setCell ?_ ?_ _) | (simp; done) | (simp; omega) | omega))⟩
      · obtain rfl : m = len := by omega
        have hi : ¬ (m : Int) < m := by omega
        have HN := Lib.hid (show f = cm 0 l by rw [← HCM.out, ← HLen.out, List.drop_length]; rfl)
        clear hcm
        go_wp2
        go_returns
        exact ⟨by rw [← HN.out], by (repeat' (first | (with_reducible exact Below.refl _ _) | (with_reducible assumption) | (with_reducible refine Below.alloc ?_ ?_ _) | (with_reducible refine below_drewN ?_ _) | (with_reducible refine below_drew ?_) | (with_reducible refine below_ext ?_ ?_ _ _) | (with_reducible refine Below.setCell ?_ ?_ _) | (simp; done) | (simp; omega) | omega))⟩
set_option maxHeartbeats 8000000 in
theorem docOf_any (v : V) (n : Nat) (w : World) (x : Value) (hx : v.At n w x) (hnw : n ≤ w.heap.size) :
    Calls Tryd.prog 6 #[x] w fun e w' => e = .returned (.tuple #[if v.code = 0 then T (ofT v).1 (ofT v).2 else T 0 0, .int .i64 v.code]) ∧ Below w.heap.size w w' := by
  have HC := Lib.hid (fun w' (hb : Below w.heap.size w w') => rcheck_any v n w' x (hx.below (hb.mono hnw)) (Nat.le_trans hnw hb.size))
  have HO := Lib.hid (fun (h : v.code = 0) w' (hb : Below w.heap.size w w') => rOf_any v n w' x (hx.below (hb.mono hnw)) (Nat.le_trans hnw hb.size) h)
  obtain ⟨k, yes, neg, c, s, t, day, l, ns, hv⟩ : ∃ k yes neg c s t day l ns, v = V.mk k yes neg c s t day l ns := by cases v; exact ⟨_, _, _, _, _, _, _, _, _, rfl⟩
  obtain ⟨pl, nl, cl, pn, nn, cn, rfl⟩ : ∃ pl nl cl pn nn cn, x = VC k yes neg c s t day (.slice pl nl cl) (.slice pn nn cn) := by
    rw [hv] at hx
    obtain ⟨lv, nv, rfl, _, hL, hN, _⟩ := at_mk hx
    obtain ⟨pl, cl, rfl⟩ := hL.shape
    obtain ⟨pn, cn, rfl⟩ := hN.shape
    exact ⟨_, _, _, _, _, _, rfl⟩
  clear hx hv
  by_cases h0 : v.code = 0
  · have HO2 := Lib.hid (HO.out h0)
    obtain ⟨o1, ho1⟩ : ∃ o1, o1 = (ofT v).1 := ⟨_, rfl⟩
    obtain ⟨o2, ho2⟩ : ∃ o2, o2 = (ofT v).2 := ⟨_, rfl⟩
    rw [h0] at HC
    rw [← ho1, ← ho2] at HO2
    rw [h0, if_pos rfl, ← ho1, ← ho2]
    clear HO h0 ho1 ho2
    go_enter Tryd.func6, Tryd.ntmps6
    go_wp2_with (first
      | (go_at_call 11; ((with_reducible refine (HC.out _ (by (repeat' (first | (with_reducible exact Below.refl _ _) | (with_reducible assumption) | (with_reducible refine Below.alloc ?_ ?_ _) | (with_reducible refine below_drewN ?_ _) | (with_reducible refine below_drew ?_) | (with_reducible refine below_ext ?_ ?_ _ _) | (with_reducible refine Below.setCell ?_ ?_ _) | (simp; done) | (simp; omega) | omega)))).mono ?_); rintro e w1 ⟨rfl, hb1⟩; obtain ⟨osA, dA, rfl⟩ := ext_of_below hb1; clear hb1))
      | (go_at_call 16; ((with_reducible refine (HO2.out _ (by (repeat' (first | (with_reducible exact Below.refl _ _) | (with_reducible assumption) | (with_reducible refine Below.alloc ?_ ?_ _) | (with_reducible refine below_drewN ?_ _) | (with_reducible refine below_drew ?_) | (with_reducible refine below_ext ?_ ?_ _ _) | (with_reducible refine Below.setCell ?_ ?_ _) | (simp; done) | (simp; omega) | omega)))).mono ?_); rintro e w1 ⟨rfl, hb1⟩; obtain ⟨osB, dB, rfl⟩ := ext_of_below hb1; clear hb1)))
    go_returns
    exact ⟨rfl, by (repeat' (first | (with_reducible exact Below.refl _ _) | (with_reducible assumption) | (with_reducible refine Below.alloc ?_ ?_ _) | (with_reducible refine below_drewN ?_ _) | (with_reducible refine below_drew ?_) | (with_reducible refine below_ext ?_ ?_ _ _) | (with_reducible refine Below.setCell ?_ ?_ _) | (simp; done) | (simp; omega) | omega))⟩
  · rw [if_neg h0]
    clear HO
    generalize v.code = cd at *
    have h1 : (cd == 0) = false := beq_eq_false_iff_ne.2 h0
    have h2 : (cd != 0) = true := by simp [bne, h1]
    go_enter Tryd.func6, Tryd.ntmps6
    go_wp2_with (first
      | (go_at_call 11; ((with_reducible refine (HC.out _ (by (repeat' (first | (with_reducible exact Below.refl _ _) | (with_reducible assumption) | (with_reducible refine Below.alloc ?_ ?_ _) | (with_reducible refine below_drewN ?_ _) | (with_reducible refine below_drew ?_) | (with_reducible refine below_ext ?_ ?_ _ _) | (with_reducible refine Below.setCell ?_ ?_ _) | (simp; done) | (simp; omega) | omega)))).mono ?_); rintro e w1 ⟨rfl, hb1⟩; obtain ⟨osA, dA, rfl⟩ := ext_of_below hb1; clear hb1)))
    go_returns
    exact ⟨rfl, by (repeat' (first | (with_reducible exact Below.refl _ _) | (with_reducible assumption) | (with_reducible refine Below.alloc ?_ ?_ _) | (with_reducible refine below_drewN ?_ _) | (with_reducible refine below_drew ?_) | (with_reducible refine below_ext ?_ ?_ _ _) | (with_reducible refine Below.setCell ?_ ?_ _) | (simp; done) | (simp; omega) | omega))⟩
set_option maxHeartbeats 8000000 in
theorem kFits_any (v : V) (tk tq : Int) (n : Nat) (w : World) (x : Value) (hx : v.At n w x) (hnw : n ≤ w.heap.size) (hT : Tens w) (hU : Tabs w) :
    Calls Tryd.prog 9 #[x, T tk tq] w fun e w' => e = .returned (.tuple #[.bool (decide (v.code = 0) && (tform tk tq && fitsB v tk tq)), .int .i64 (if v.code = 0 then if tform tk tq = true then 0 else 2 else v.code)]) ∧ Below w.heap.size w w' := by
  have HC := Lib.hid (fun w' (hb : Below w.heap.size w w') => vcheck_any v n w' x (hx.below (hb.mono hnw)) (Nat.le_trans hnw hb.size) (hT.below hb) (hU.below hb))
  have HTF := Lib.hid (fun w => kform_any tk tq w)
  obtain ⟨k, yes, neg, c, s, t, day, l, ns, hv⟩ : ∃ k yes neg c s t day l ns, v = V.mk k yes neg c s t day l ns := by cases v; exact ⟨_, _, _, _, _, _, _, _, _, rfl⟩
  have hft : fitsB v tk tq = ((k == 0 || tk == 0) || (k == tk && allB tq l)) := by rw [hv]; rfl
  rw [hft]
  rw [hv] at hx
  obtain ⟨lv, nv, rfl, ⟨hc, ht, hl, hnl⟩, hL, hN, hsz⟩ := at_mk hx
  have HM := Lib.hid (fun w' (hb : Below w.heap.size w w') => allOf_any n w' l lv tq (hL.below (hb.mono hnw)) hl (Nat.le_trans hnw hb.size))
  obtain ⟨pl, cl, rfl⟩ := hL.shape
  obtain ⟨pn, cn, rfl⟩ := hN.shape
  obtain ⟨cd, hcd⟩ : ∃ cd, cd = v.code := ⟨_, rfl⟩
  rw [← hcd] at HC ⊢
  generalize allB tq l = ab at *
  generalize tform tk tq = tf at *
  clear hx hv hL hN hsz hc ht hT hU hnl hl hcd hft
  by_cases h0 : cd = 0
  · subst h0
    rw [if_pos rfl, decide_eq_true rfl]
    cases tf
    · go_enter Tryd.func9, Tryd.ntmps9
      go_wp2_with (first
        | (go_at_call 17; ((with_reducible refine (HC.out _ (by (repeat' (first | (with_reducible exact Below.refl _ _) | (with_reducible assumption) | (with_reducible refine Below.alloc ?_ ?_ _) | (with_reducible refine below_drewN ?_ _) | (with_reducible refine below_drew ?_) | (with_reducible refine below_ext ?_ ?_ _ _) | (with_reducible refine Below.setCell ?_ ?_ _) | (simp; done) | (simp; omega) | omega)))).mono ?_); rintro e w1 ⟨rfl, hb1⟩; obtain ⟨osA, dA, rfl⟩ := ext_of_below hb1; clear hb1))
        | (go_at_call 20; ((with_reducible refine (HTF.out _).mono ?_); rintro e w1 ⟨rfl, hb1⟩; obtain ⟨osB, dB, rfl⟩ := ext_of_below hb1; clear hb1)))
      go_ret2
      exact ⟨rfl, by (repeat' (first | (with_reducible exact Below.refl _ _) | (with_reducible assumption) | (with_reducible refine Below.alloc ?_ ?_ _) | (with_reducible refine below_drewN ?_ _) | (with_reducible refine below_drew ?_) | (with_reducible refine below_ext ?_ ?_ _ _) | (with_reducible refine Below.setCell ?_ ?_ _) | (simp; done) | (simp; omega) | omega))⟩
    · cases hk0 : (k == 0)
      · cases ht0 : (tk == 0)
        · cases hkt : (k == tk)
          · go_enter Tryd.func9, Tryd.ntmps9
            go_wp2_with (first
              | (go_at_call 17; ((with_reducible refine (HC.out _ (by (repeat' (first | (with_reducible exact Below.refl _ _) | (with_reducible assumption) | (with_reducible refine Below.alloc ?_ ?_ _) | (with_reducible refine below_drewN ?_ _) | (with_reducible refine below_drew ?_) | (with_reducible refine below_ext ?_ ?_ _ _) | (with_reducible refine Below.setCell ?_ ?_ _) | (simp; done) | (simp; omega) | omega)))).mono ?_); rintro e w1 ⟨rfl, hb1⟩; obtain ⟨osA, dA, rfl⟩ := ext_of_below hb1; clear hb1))
              | (go_at_call 20; ((with_reducible refine (HTF.out _).mono ?_); rintro e w1 ⟨rfl, hb1⟩; obtain ⟨osB, dB, rfl⟩ := ext_of_below hb1; clear hb1)))
            go_ret2
            exact ⟨rfl, by (repeat' (first | (with_reducible exact Below.refl _ _) | (with_reducible assumption) | (with_reducible refine Below.alloc ?_ ?_ _) | (with_reducible refine below_drewN ?_ _) | (with_reducible refine below_drew ?_) | (with_reducible refine below_ext ?_ ?_ _ _) | (with_reducible refine Below.setCell ?_ ?_ _) | (simp; done) | (simp; omega) | omega))⟩
          · go_enter Tryd.func9, Tryd.ntmps9
            go_wp2_with (first
              | (go_at_call 17; ((with_reducible refine (HC.out _ (by (repeat' (first | (with_reducible exact Below.refl _ _) | (with_reducible assumption) | (with_reducible refine Below.alloc ?_ ?_ _) | (with_reducible refine below_drewN ?_ _) | (with_reducible refine below_drew ?_) | (with_reducible refine below_ext ?_ ?_ _ _) | (with_reducible refine Below.setCell ?_ ?_ _) | (simp; done) | (simp; omega) | omega)))).mono ?_); rintro e w1 ⟨rfl, hb1⟩; obtain ⟨osA, dA, rfl⟩ := ext_of_below hb1; clear hb1))
              | (go_at_call 20; ((with_reducible refine (HTF.out _).mono ?_); rintro e w1 ⟨rfl, hb1⟩; obtain ⟨osB, dB, rfl⟩ := ext_of_below hb1; clear hb1))
              | (go_at_call 21; ((with_reducible refine (HM.out _ (by (repeat' (first | (with_reducible exact Below.refl _ _) | (with_reducible assumption) | (with_reducible refine Below.alloc ?_ ?_ _) | (with_reducible refine below_drewN ?_ _) | (with_reducible refine below_drew ?_) | (with_reducible refine below_ext ?_ ?_ _ _) | (with_reducible refine Below.setCell ?_ ?_ _) | (simp; done) | (simp; omega) | omega)))).mono ?_); rintro e w1 ⟨rfl, hb1⟩; obtain ⟨osC, dC, rfl⟩ := ext_of_below hb1; clear hb1)))
            go_ret2
            exact ⟨rfl, by (repeat' (first | (with_reducible exact Below.refl _ _) | (with_reducible assumption) | (with_reducible refine Below.alloc ?_ ?_ _) | (with_reducible refine below_drewN ?_ _) | (with_reducible refine below_drew ?_) | (with_reducible refine below_ext ?_ ?_ _ _) | (with_reducible refine Below.setCell ?_ ?_ _) | (simp; done) | (simp; omega) | omega))⟩
        · go_enter Tryd.func9, Tryd.ntmps9
          go_wp2_with (first
            | (go_at_call 17; ((with_reducible refine (HC.out _ (by (repeat' (first | (with_reducible exact Below.refl _ _) | (with_reducible assumption) | (with_reducible refine Below.alloc ?_ ?_ _) | (with_reducible refine below_drewN ?_ _) | (with_reducible refine below_drew ?_) | (with_reducible refine below_ext ?_ ?_ _ _) | (with_reducible refine Below.setCell ?_ ?_ _) | (simp; done) | (simp; omega) | omega)))).mono ?_); rintro e w1 ⟨rfl, hb1⟩; obtain ⟨osA, dA, rfl⟩ := ext_of_below hb1; clear hb1))
            | (go_at_call 20; ((with_reducible refine (HTF.out _).mono ?_); rintro e w1 ⟨rfl, hb1⟩; obtain ⟨osB, dB, rfl⟩ := ext_of_below hb1; clear hb1)))
          go_ret2
          exact ⟨rfl, by (repeat' (first | (with_reducible exact Below.refl _ _) | (with_reducible assumption) | (with_reducible refine Below.alloc ?_ ?_ _) | (with_reducible refine below_drewN ?_ _) | (with_reducible refine below_drew ?_) | (with_reducible refine below_ext ?_ ?_ _ _) | (with_reducible refine Below.setCell ?_ ?_ _) | (simp; done) | (simp; omega) | omega))⟩
      · go_enter Tryd.func9, Tryd.ntmps9
        go_wp2_with (first
          | (go_at_call 17; ((with_reducible refine (HC.out _ (by (repeat' (first | (with_reducible exact Below.refl _ _) | (with_reducible assumption) | (with_reducible refine Below.alloc ?_ ?_ _) | (with_reducible refine below_drewN ?_ _) | (with_reducible refine below_drew ?_) | (with_reducible refine below_ext ?_ ?_ _ _) | (with_reducible refine Below.setCell ?_ ?_ _) | (simp; done) | (simp; omega) | omega)))).mono ?_); rintro e w1 ⟨rfl, hb1⟩; obtain ⟨osA, dA, rfl⟩ := ext_of_below hb1; clear hb1))
          | (go_at_call 20; ((with_reducible refine (HTF.out _).mono ?_); rintro e w1 ⟨rfl, hb1⟩; obtain ⟨osB, dB, rfl⟩ := ext_of_below hb1; clear hb1)))
        go_ret2
        exact ⟨rfl, by (repeat' (first | (with_reducible exact Below.refl _ _) | (with_reducible assumption) | (with_reducible refine Below.alloc ?_ ?_ _) | (with_reducible refine below_drewN ?_ _) | (with_reducible refine below_drew ?_) | (with_reducible refine below_ext ?_ ?_ _ _) | (with_reducible refine Below.setCell ?_ ?_ _) | (simp; done) | (simp; omega) | omega))⟩
  · rw [if_neg h0, decide_eq_false h0]
    have h1 : (cd == 0) = false := beq_eq_false_iff_ne.2 h0
    have h2 : (cd != 0) = true := by simp [bne, h1]
    go_enter Tryd.func9, Tryd.ntmps9
    go_wp2_with (first
      | (go_at_call 17; ((with_reducible refine (HC.out _ (by (repeat' (first | (with_reducible exact Below.refl _ _) | (with_reducible assumption) | (with_reducible refine Below.alloc ?_ ?_ _) | (with_reducible refine below_drewN ?_ _) | (with_reducible refine below_drew ?_) | (with_reducible refine below_ext ?_ ?_ _ _) | (with_reducible refine Below.setCell ?_ ?_ _) | (simp; done) | (simp; omega) | omega)))).mono ?_); rintro e w1 ⟨rfl, hb1⟩; obtain ⟨osA, dA, rfl⟩ := ext_of_below hb1; clear hb1)))
    go_ret2
    exact ⟨rfl, by (repeat' (first | (with_reducible exact Below.refl _ _) | (with_reducible assumption) | (with_reducible refine Below.alloc ?_ ?_ _) | (with_reducible refine below_drewN ?_ _) | (with_reducible refine below_drew ?_) | (with_reducible refine below_ext ?_ ?_ _ _) | (with_reducible refine Below.setCell ?_ ?_ _) | (simp; done) | (simp; omega) | omega))⟩
set_option maxHeartbeats 8000000 in
theorem rFits_any (v : V) (tk tq : Int) (n : Nat) (w : World) (x : Value) (hx : v.At n w x) (_hnw : n ≤ w.heap.size) :
    Calls Tryd.prog 19 #[x, T tk tq] w fun e w' => e = .returned (.bool (fitsB v tk tq)) ∧ Below w.heap.size w w' := by
  obtain ⟨k, yes, neg, c, s, t, day, l, ns, hv⟩ : ∃ k yes neg c s t day l ns, v = V.mk k yes neg c s t day l ns := by cases v; exact ⟨_, _, _, _, _, _, _, _, _, rfl⟩
  have hft : fitsB v tk tq = ((k == 0 || tk == 0) || (k == tk && allB tq l)) := by rw [hv]; rfl
  rw [hft]
  rw [hv] at hx
  obtain ⟨lv, nv, rfl, ⟨hc, ht, hl, hnl⟩, hL, hN, hsz⟩ := at_mk hx
  obtain ⟨pl, cl, rfl⟩ := hL.shape
  obtain ⟨pn, cn, rfl⟩ := hN.shape
  clear hx hv hN hsz hc ht hnl hft
  cases hk : (k == 0)
  · cases htk : (tk == 0)
    · cases hkt : (k == tk)
      · have hkt' := bneF hkt
        clear hL
        go_enter Tryd.func19, Tryd.ntmps19
        go_wp2
        go_ret
        exact ⟨rfl, by (repeat' (first | (with_reducible exact Below.refl _ _) | (with_reducible assumption) | (with_reducible refine Below.alloc ?_ ?_ _) | (with_reducible refine below_drewN ?_ _) | (with_reducible refine below_drew ?_) | (with_reducible refine below_ext ?_ ?_ _ _) | (with_reducible refine Below.setCell ?_ ?_ _) | (simp; done) | (simp; omega) | omega))⟩
      · have hkt' := bneT hkt
        cases hto : (tq == 0)
        · have hto' := bneF hto
          rcases hL with ⟨rfl, hlv⟩ | ⟨g, o, cap, hlv, hgn, hg, hrow⟩
          · clear hlv
            go_enter Tryd.func19, Tryd.ntmps19
            go_wp2
            refine wp_loop_rounds 1 ?_
            rw [rounds_succ]
            go_wp2
            go_ret
            exact ⟨rfl, by (repeat' (first | (with_reducible exact Below.refl _ _) | (with_reducible assumption) | (with_reducible refine Below.alloc ?_ ?_ _) | (with_reducible refine below_drewN ?_ _) | (with_reducible refine below_drew ?_) | (with_reducible refine below_ext ?_ ?_ _ _) | (with_reducible refine Below.setCell ?_ ?_ _) | (simp; done) | (simp; omega) | omega))⟩
          · simp only [Value.slice.injEq] at hlv
            obtain ⟨rfl, -, rfl⟩ := hlv
            have HROW := Lib.hid hrow
            obtain ⟨len, hlen⟩ : ∃ len, l.length = len := ⟨_, rfl⟩
            have HLen := Lib.hid hlen
            rw [hlen] at hl ⊢
            have hg1 : g < w.heap.size + 1 := by omega
            clear hrow hlen
            go_enter Tryd.func19, Tryd.ntmps19
            go_wp2
            go_loopw [5] (fun i wr => ∃ m d' : Nat, m ≤ len ∧ i = .int .i64 m ∧ wr = ((w.alloc (.cells #[.int .i64 k, .bool yes, .bool neg, .int .u64 (Word.hi c : Int), .int .u64 (lo c : Int), .int .i64 s, .string t, .int .i64 day, .slice (some ⟨g, o, none⟩) len cl, .slice pn ns.length cn] 30)).alloc (.cells #[.int .i64 tk, .int .i64 tq] 32)).drewN d' ∧ allB tq (l.drop m) = allB tq l) (fun i _ => len - (intOf i).toNat)
            case atStart => exact ⟨0, 0, by omega, rfl, rfl, rfl⟩
            case round =>
              obtain ⟨m, d', hm, rfl, rfl, hcm⟩ := hrel
              have HCM := Lib.hid hcm
              by_cases hml : m < len
              · have hi : (m : Int) < len := by omega
                have hmn : m < l.length := by have := HLen.out; omega
                obtain ⟨k', yes', neg', a', b', s', t', day', pl', nl', cl', pn', nn', cn', hk0, h1, h2, h3, h4, h5, h6, h7, h8, h9, hat⟩ := HROW.out.elem m hmn
                have hkk := at_kind hat
                have hst := allB_drop tq l m hmn
                rw [hkk, hcm, hto] at hst
                have HST := Lib.hid hst
                clear hat hcm hst hkk h1 h2 h3 h4 h5 h6 h7 h8 h9
                cases hz : (k' == 0)
                · have hz' := bneF hz
                  cases hq : (k' == tq)
                  · have hq' := bneF hq
                    have HN := Lib.hid (show allB tq l = false by have := HST.out; rw [hz, hq] at this; exact this)
                    clear HST
                    go_wp2
                    go_region
                    all_goals
                      go_wp2
                      go_ret
                      exact ⟨by rw [HN.out]; rfl, by (repeat' (first | (with_reducible exact Below.refl _ _) | (with_reducible assumption) | (with_reducible refine Below.alloc ?_ ?_ _) | (with_reducible refine below_drewN ?_ _) | (with_reducible refine below_drew ?_) | (with_reducible refine below_ext ?_ ?_ _ _) | (with_reducible refine Below.setCell ?_ ?_ _) | (simp; done) | (simp; omega) | omega))⟩
                  · have hq' := bneT hq
                    have HN := Lib.hid (show allB tq (l.drop (m + 1)) = allB tq l by have := HST.out; rw [hz, hq] at this; exact this.symm)
                    clear HST
                    go_wp2
                    go_region
                    all_goals
                      go_wp2
                      go_roundw
                      case rel => exact ⟨m + 1, _, by omega, by go_num, rfl, HN.out⟩
                      case measure => simp [intOf]; omega
                · have hz' := bneT hz
                  have HN := Lib.hid (show allB tq (l.drop (m + 1)) = allB tq l by have := HST.out; rw [hz] at this; exact this.symm)
                  clear HST
                  go_wp2
                  go_region
                  all_goals
                    go_wp2
                    go_roundw
                    case rel => exact ⟨m + 1, _, by omega, by go_num, rfl, HN.out⟩
                    case measure => simp [intOf]; omega
              · obtain rfl : m = len := by omega
                have hi : ¬ (m : Int) < m := by omega
                have HN := Lib.hid (show true = allB tq l by rw [← HCM.out, ← HLen.out, List.drop_length]; rfl)
                clear hcm
                go_wp2
                go_ret
                exact ⟨by rw [← HN.out]; rfl, by (repeat' (first | (with_reducible exact Below.refl _ _) | (with_reducible assumption) | (with_reducible refine Below.alloc ?_ ?_ _) | (with_reducible refine below_drewN ?_ _) | (with_reducible refine below_drew ?_) | (with_reducible refine below_ext ?_ ?_ _ _) | (with_reducible refine Below.setCell ?_ ?_ _) | (simp; done) | (simp; omega) | omega))⟩
        · have hto' := bneT hto
          have hal : allB tq l = true := by unfold allB; rw [hto]; simp
          rw [hal]
          clear hL hal
          go_enter Tryd.func19, Tryd.ntmps19
          go_wp2
          refine wp_loop_rounds 1 ?_
          rw [rounds_succ]
          go_wp2
          go_ret
          exact ⟨rfl, by (repeat' (first | (with_reducible exact Below.refl _ _) | (with_reducible assumption) | (with_reducible refine Below.alloc ?_ ?_ _) | (with_reducible refine below_drewN ?_ _) | (with_reducible refine below_drew ?_) | (with_reducible refine below_ext ?_ ?_ _ _) | (with_reducible refine Below.setCell ?_ ?_ _) | (simp; done) | (simp; omega) | omega))⟩
    · clear hL
      go_enter Tryd.func19, Tryd.ntmps19
      go_wp2
      go_ret
      exact ⟨rfl, by (repeat' (first | (with_reducible exact Below.refl _ _) | (with_reducible assumption) | (with_reducible refine Below.alloc ?_ ?_ _) | (with_reducible refine below_drewN ?_ _) | (with_reducible refine below_drew ?_) | (with_reducible refine below_ext ?_ ?_ _ _) | (with_reducible refine Below.setCell ?_ ?_ _) | (simp; done) | (simp; omega) | omega))⟩
  · clear hL
    go_enter Tryd.func19, Tryd.ntmps19
    go_wp2
    go_ret
    exact ⟨rfl, by (repeat' (first | (with_reducible exact Below.refl _ _) | (with_reducible assumption) | (with_reducible refine Below.alloc ?_ ?_ _) | (with_reducible refine below_drewN ?_ _) | (with_reducible refine below_drew ?_) | (with_reducible refine below_ext ?_ ?_ _ _) | (with_reducible refine Below.setCell ?_ ?_ _) | (simp; done) | (simp; omega) | omega))⟩
set_option maxHeartbeats 8000000 in
theorem docFits_any (v : V) (tk tq : Int) (n : Nat) (w : World) (x : Value) (hx : v.At n w x) (hnw : n ≤ w.heap.size) :
    Calls Tryd.prog 8 #[x, T tk tq] w fun e w' => e = .returned (.tuple #[.bool (decide (v.code = 0) && (tform tk tq && fitsB v tk tq)), .int .i64 (if v.code = 0 then if tform tk tq = true then 0 else 2 else v.code)]) ∧ Below w.heap.size w w' := by
  have HC := Lib.hid (fun w' (hb : Below w.heap.size w w') => rcheck_any v n w' x (hx.below (hb.mono hnw)) (Nat.le_trans hnw hb.size))
  have HTF := Lib.hid (fun w => kdform_any tk tq w)
  have HM := Lib.hid (fun w' (hb : Below w.heap.size w w') => rFits_any v tk tq n w' x (hx.below (hb.mono hnw)) (Nat.le_trans hnw hb.size))
  obtain ⟨k, yes, neg, c, s, t, day, l, ns, hv⟩ : ∃ k yes neg c s t day l ns, v = V.mk k yes neg c s t day l ns := by cases v; exact ⟨_, _, _, _, _, _, _, _, _, rfl⟩
  obtain ⟨pl, nl, cl, pn, nn, cn, rfl⟩ : ∃ pl nl cl pn nn cn, x = VC k yes neg c s t day (.slice pl nl cl) (.slice pn nn cn) := by
    rw [hv] at hx
    obtain ⟨lv, nv, rfl, _, hL, hN, _⟩ := at_mk hx
    obtain ⟨pl, cl, rfl⟩ := hL.shape
    obtain ⟨pn, cn, rfl⟩ := hN.shape
    exact ⟨_, _, _, _, _, _, rfl⟩
  obtain ⟨cd, hcd⟩ : ∃ cd, cd = v.code := ⟨_, rfl⟩
  rw [← hcd] at HC ⊢
  generalize fitsB v tk tq = ab at *
  generalize tform tk tq = tf at *
  clear hx hv hcd
  by_cases h0 : cd = 0
  · subst h0
    rw [if_pos rfl, decide_eq_true rfl]
    cases tf
    all_goals
      go_enter Tryd.func8, Tryd.ntmps8
      go_wp2_with (first
        | (go_at_call 11; ((with_reducible refine (HC.out _ (by (repeat' (first | (with_reducible exact Below.refl _ _) | (with_reducible assumption) | (with_reducible refine Below.alloc ?_ ?_ _) | (with_reducible refine below_drewN ?_ _) | (with_reducible refine below_drew ?_) | (with_reducible refine below_ext ?_ ?_ _ _) | (with_reducible refine Below.setCell ?_ ?_ _) | (simp; done) | (simp; omega) | omega)))).mono ?_); rintro e w1 ⟨rfl, hb1⟩; obtain ⟨osA, dA, rfl⟩ := ext_of_below hb1; clear hb1))
        | (go_at_call 10; ((with_reducible refine (HTF.out _).mono ?_); rintro e w1 ⟨rfl, hb1⟩; obtain ⟨osB, dB, rfl⟩ := ext_of_below hb1; clear hb1))
        | (go_at_call 19; ((with_reducible refine (HM.out _ (by (repeat' (first | (with_reducible exact Below.refl _ _) | (with_reducible assumption) | (with_reducible refine Below.alloc ?_ ?_ _) | (with_reducible refine below_drewN ?_ _) | (with_reducible refine below_drew ?_) | (with_reducible refine below_ext ?_ ?_ _ _) | (with_reducible refine Below.setCell ?_ ?_ _) | (simp; done) | (simp; omega) | omega)))).mono ?_); rintro e w1 ⟨rfl, hb1⟩; obtain ⟨osC, dC, rfl⟩ := ext_of_below hb1; clear hb1)))
      go_ret2
      exact ⟨rfl, by (repeat' (first | (with_reducible exact Below.refl _ _) | (with_reducible assumption) | (with_reducible refine Below.alloc ?_ ?_ _) | (with_reducible refine below_drewN ?_ _) | (with_reducible refine below_drew ?_) | (with_reducible refine below_ext ?_ ?_ _ _) | (with_reducible refine Below.setCell ?_ ?_ _) | (simp; done) | (simp; omega) | omega))⟩
  · rw [if_neg h0, decide_eq_false h0]
    have h1 : (cd == 0) = false := beq_eq_false_iff_ne.2 h0
    have h2 : (cd != 0) = true := by simp [bne, h1]
    go_enter Tryd.func8, Tryd.ntmps8
    go_wp2_with (first
      | (go_at_call 11; ((with_reducible refine (HC.out _ (by (repeat' (first | (with_reducible exact Below.refl _ _) | (with_reducible assumption) | (with_reducible refine Below.alloc ?_ ?_ _) | (with_reducible refine below_drewN ?_ _) | (with_reducible refine below_drew ?_) | (with_reducible refine below_ext ?_ ?_ _ _) | (with_reducible refine Below.setCell ?_ ?_ _) | (simp; done) | (simp; omega) | omega)))).mono ?_); rintro e w1 ⟨rfl, hb1⟩; obtain ⟨osA, dA, rfl⟩ := ext_of_below hb1; clear hb1)))
    go_ret2
    exact ⟨rfl, by (repeat' (first | (with_reducible exact Below.refl _ _) | (with_reducible assumption) | (with_reducible refine Below.alloc ?_ ?_ _) | (with_reducible refine below_drewN ?_ _) | (with_reducible refine below_drew ?_) | (with_reducible refine below_ext ?_ ?_ _ _) | (with_reducible refine Below.setCell ?_ ?_ _) | (simp; done) | (simp; omega) | omega))⟩
end Go.Proofs.YtdmmpknpoephnaaDoor
