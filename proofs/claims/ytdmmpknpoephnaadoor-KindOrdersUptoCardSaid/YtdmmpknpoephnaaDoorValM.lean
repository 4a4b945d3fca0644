/-
  The statements on which types values fit: KindFits.
-/
import Derived.Test.YtdmmpknpoephnaaDoorValK
import Derived.Test.YtdmmpknpoephnaaDoorKindI
namespace Go.Proofs.YtdmmpknpoephnaaDoor
open Go.RowKit Word Txt
attribute [local go_sem] setCell_drewN cell?_ext frozen?_ext shape?_ext setCell_ext lt_1' ne_1' en_1' le_1' lt_2' ne_2' en_2' le_2' lt_3' ne_3' en_3' le_3' lt_4' ne_4' en_4' le_4' lt_5' ne_5' en_5' le_5' lt_6' ne_6' en_6' le_6' lt_7' ne_7' en_7' le_7' lt_8' ne_8' en_8' le_8' lt_9' ne_9' en_9' le_9' lt_10' ne_10' en_10' le_10' lt_11' ne_11' en_11' le_11' lt_12' ne_12' en_12' le_12'

theorem cm_ok : ∀ (l : List V) (f : Int), 0 ≤ f → f ≤ 4 → (∀ v ∈ l, 0 ≤ v.kind) → 0 ≤ cm f l ∧ cm f l ≤ 4 ∧ (cm f l = 0 ∨ f = 0 ∨ cm f l = f) ∧ allB (cm f l) l = true
  | [], f, h0, h4, _ => ⟨h0, h4, .inr (.inr rfl), rfl⟩
  | v :: r, f, h0, h4, hk => by
    have hv := hk v (by simp)
    have hr := fun u hu => hk u (List.mem_cons_of_mem _ hu)
    rw [allB_cons]
    unfold cm
    by_cases h1 : v.kind = 0 ∨ v.kind = f
    · rw [if_pos h1]
      obtain ⟨a1, a2, a3, a4⟩ := cm_ok r f h0 h4 hr
      refine ⟨a1, a2, a3, ?_⟩
      rw [a4]
      rcases h1 with h1 | h1
      · simp [h1]
      · rcases a3 with a3 | a3 | a3
        · simp [a3]
        · simp [h1, a3]
        · simp [h1, a3]
    · rw [if_neg h1]
      by_cases h2 : 4 < v.kind ∨ f ≠ 0
      · rw [if_pos h2]
        exact ⟨by omega, by omega, .inl rfl, by simp [allB]⟩
      · rw [if_neg h2]
        have h3 : f = 0 := Decidable.byContradiction fun h => h2 (.inr h)
        have h5 : ¬ 4 < v.kind := fun h => h2 (.inl h)
        obtain ⟨a1, a2, a3, a4⟩ := cm_ok r v.kind hv (by omega) hr
        refine ⟨a1, a2, .inr (.inl h3), ?_⟩
        rw [a4]
        rcases a3 with a3 | a3 | a3
        · simp [a3]
        · exact absurd (.inl a3) h1
        · simp [a3]
/-- a value fits its type -/
theorem own_fits (v : V) (h : v.form = true) : tform (ofT v).1 (ofT v).2 = true ∧ fitsB v (ofT v).1 (ofT v).2 = true := by
  obtain ⟨h0, h6, h5, hf⟩ := form_kind h
  have hk : ∀ u ∈ v.kids, 0 ≤ u.kind := fun u hu => (form_kind (hf u hu)).1
  obtain ⟨c1, c2, -, c4⟩ := cm_ok v.kids 0 (by omega) (by omega) hk
  unfold ofT fitsB tform
  by_cases k5 : v.kind = 5
  · rw [if_pos k5]
    simp [k5, c1, c2, c4]
  · rw [if_neg k5]
    by_cases k6 : v.kind = 6
    · rw [if_pos k6]; simp
    · rw [if_neg k6]
      have : v.kids = [] := h5 (by omega)
      rw [this]
      simp only [if_neg k5]
      refine ⟨by simp; omega, by simp [allB]⟩
/-- what fits a type fits all above it -/
theorem fits_up (v : V) (a b c d : Int) (hu : unB a b c d = true) (hf : fitsB v a b = true) : fitsB v c d = true := by
  unfold unB at hu
  unfold fitsB at hf ⊢
  simp only [Bool.or_eq_true, Bool.and_eq_true, beq_iff_eq] at hu hf ⊢
  rcases hu with ⟨rfl, rfl⟩ | ⟨rfl, rfl⟩ | ⟨rfl, rfl, rfl⟩
  · exact hf
  · exact .inl (.inr rfl)
  · rcases hf with (h | h) | ⟨h, _⟩
    · exact .inl (.inl h)
    · omega
    · exact .inr ⟨h, by simp [allB]⟩
set_option maxHeartbeats 8000000 in
theorem kindFits_law (v : V) (tk tq : Int) (w : World) (x : Value) (hx : v.At w.heap.size w x) (hw : Words w) (hT : Tens w) (hU : Tabs w) :
    Calls Tryd.prog 3 #[x, T tk tq] w fun e w' => e = .returned (.bool true) ∧ Below w.heap.size w w' := by
  have HA := Lib.hid (fun w' (hb : Below w.heap.size w w') => hx.below hb)
  have HK := Lib.hid (fun w' (hb : Below w.heap.size w w') => kknown_any w' (hw.below hb))
  have HO1 := Lib.hid (fun w' (hb : Below w.heap.size w w') => kOf_any v w.heap.size w' x (hx.below hb) hb.size (hT.below hb) (hU.below hb))
  have HO2 := Lib.hid (fun w' (hb : Below w.heap.size w w') => docOf_any v w.heap.size w' x (hx.below hb) hb.size)
  have HF1 := Lib.hid (fun w' (hb : Below w.heap.size w w') => kFits_any v tk tq w.heap.size w' x (hx.below hb) hb.size (hT.below hb) (hU.below hb))
  have HF2 := Lib.hid (fun w' (hb : Below w.heap.size w w') => docFits_any v tk tq w.heap.size w' x (hx.below hb) hb.size)
  obtain ⟨k, yes, neg, c, s, t, day, l, ns, hv⟩ : ∃ k yes neg c s t day l ns, v = V.mk k yes neg c s t day l ns := by cases v; exact ⟨_, _, _, _, _, _, _, _, _, rfl⟩
  obtain ⟨pl, nl, cl, pn, nn, cn, rfl⟩ : ∃ pl nl cl pn nn cn, x = VC k yes neg c s t day (.slice pl nl cl) (.slice pn nn cn) := by
    rw [hv] at hx
    obtain ⟨lv, nv, rfl, _, hL, hN, _⟩ := at_mk hx
    obtain ⟨pl, cl, rfl⟩ := hL.shape
    obtain ⟨pn, cn, rfl⟩ := hN.shape
    exact ⟨_, _, _, _, _, _, rfl⟩
  obtain ⟨fb, hfb⟩ : ∃ fb, fb = (decide (v.code = 0) && (tform tk tq && fitsB v tk tq)) := ⟨_, rfl⟩
  obtain ⟨fe, hfe⟩ : ∃ fe, fe = (if v.code = 0 then if tform tk tq = true then 0 else 2 else v.code : Int) := ⟨_, rfl⟩
  rw [← hfb, ← hfe] at HF1 HF2
  clear hfb hfe
  by_cases h0 : v.code = 0
  · obtain ⟨o1, ho1⟩ : ∃ o1, o1 = (ofT v).1 := ⟨_, rfl⟩
    obtain ⟨o2, ho2⟩ : ∃ o2, o2 = (ofT v).2 := ⟨_, rfl⟩
    have hown := own_fits v (code_good h0)
    have HW := Lib.hid (fun w' (hb : Below w.heap.size w w') => kFits_any v o1 o2 w.heap.size w' _ (HA.out w' hb) hb.size (hT.below hb) (hU.below hb))
    rw [h0, if_pos rfl, ← ho1, ← ho2] at HO1 HO2
    rw [← ho1, ← ho2] at hown
    rw [h0, decide_eq_true rfl, if_pos rfl, hown.1, hown.2, if_pos rfl] at HW
    clear hx hv hT hU hw hown ho1 ho2 h0 HA
    go_enter Tryd.func3, Tryd.ntmps3
    go_wp2_with (first
      | (go_at_call 5; ((with_reducible refine (HK.out _ (by (repeat' (first | (with_reducible exact Below.refl _ _) | (with_reducible assumption) | (with_reducible refine Below.alloc ?_ ?_ _) | (with_reducible refine below_drewN ?_ _) | (with_reducible refine below_drew ?_) | (with_reducible refine below_ext ?_ ?_ _ _) | (with_reducible refine Below.setCell ?_ ?_ _) | (simp; done) | (simp; omega) | omega)))).mono ?_); rintro e w1 ⟨rfl, hb1⟩; obtain ⟨osA, dA, rfl⟩ := ext_of_below hb1; clear hb1))
      | (go_at_call 6; ((with_reducible refine (HO2.out _ (by (repeat' (first | (with_reducible exact Below.refl _ _) | (with_reducible assumption) | (with_reducible refine Below.alloc ?_ ?_ _) | (with_reducible refine below_drewN ?_ _) | (with_reducible refine below_drew ?_) | (with_reducible refine below_ext ?_ ?_ _ _) | (with_reducible refine Below.setCell ?_ ?_ _) | (simp; done) | (simp; omega) | omega)))).mono ?_); rintro e w1 ⟨rfl, hb1⟩; obtain ⟨osB, dB, rfl⟩ := ext_of_below hb1; clear hb1))
      | (go_at_call 7; ((with_reducible refine (HO1.out _ (by (repeat' (first | (with_reducible exact Below.refl _ _) | (with_reducible assumption) | (with_reducible refine Below.alloc ?_ ?_ _) | (with_reducible refine below_drewN ?_ _) | (with_reducible refine below_drew ?_) | (with_reducible refine below_ext ?_ ?_ _ _) | (with_reducible refine Below.setCell ?_ ?_ _) | (simp; done) | (simp; omega) | omega)))).mono ?_); rintro e w1 ⟨rfl, hb1⟩; obtain ⟨osC, dC, rfl⟩ := ext_of_below hb1; clear hb1))
      | (go_at_call 8; ((with_reducible refine (HF2.out _ (by (repeat' (first | (with_reducible exact Below.refl _ _) | (with_reducible assumption) | (with_reducible refine Below.alloc ?_ ?_ _) | (with_reducible refine below_drewN ?_ _) | (with_reducible refine below_drew ?_) | (with_reducible refine below_ext ?_ ?_ _ _) | (with_reducible refine Below.setCell ?_ ?_ _) | (simp; done) | (simp; omega) | omega)))).mono ?_); rintro e w1 ⟨rfl, hb1⟩; obtain ⟨osD, dD, rfl⟩ := ext_of_below hb1; clear hb1))
      | (go_at_call 9; ((with_reducible refine (HF1.out _ (by (repeat' (first | (with_reducible exact Below.refl _ _) | (with_reducible assumption) | (with_reducible refine Below.alloc ?_ ?_ _) | (with_reducible refine below_drewN ?_ _) | (with_reducible refine below_drew ?_) | (with_reducible refine below_ext ?_ ?_ _ _) | (with_reducible refine Below.setCell ?_ ?_ _) | (simp; done) | (simp; omega) | omega)))).mono ?_); rintro e w1 ⟨rfl, hb1⟩; obtain ⟨osE, dE, rfl⟩ := ext_of_below hb1; clear hb1))
      | (go_at_call 9; ((with_reducible refine (HW.out _ (by (repeat' (first | (with_reducible exact Below.refl _ _) | (with_reducible assumption) | (with_reducible refine Below.alloc ?_ ?_ _) | (with_reducible refine below_drewN ?_ _) | (with_reducible refine below_drew ?_) | (with_reducible refine below_ext ?_ ?_ _ _) | (with_reducible refine Below.setCell ?_ ?_ _) | (simp; done) | (simp; omega) | omega)))).mono ?_); rintro e w1 ⟨rfl, hb1⟩; obtain ⟨osF, dF, rfl⟩ := ext_of_below hb1; clear hb1)))
    all_goals
      go_ret
      exact ⟨rfl, by (repeat' (first | (with_reducible exact Below.refl _ _) | (with_reducible assumption) | (with_reducible refine Below.alloc ?_ ?_ _) | (with_reducible refine below_drewN ?_ _) | (with_reducible refine below_drew ?_) | (with_reducible refine below_ext ?_ ?_ _ _) | (with_reducible refine Below.setCell ?_ ?_ _) | (simp; done) | (simp; omega) | omega))⟩
  · rw [if_neg h0] at HO1 HO2
    generalize v.code = cd at *
    have h1 : (cd == 0) = false := beq_eq_false_iff_ne.2 h0
    have h2 : (cd != 0) = true := by simp [bne, h1]
    clear hx hv hT hU hw HA
    go_enter Tryd.func3, Tryd.ntmps3
    go_wp2_with (first
      | (go_at_call 5; ((with_reducible refine (HK.out _ (by (repeat' (first | (with_reducible exact Below.refl _ _) | (with_reducible assumption) | (with_reducible refine Below.alloc ?_ ?_ _) | (with_reducible refine below_drewN ?_ _) | (with_reducible refine below_drew ?_) | (with_reducible refine below_ext ?_ ?_ _ _) | (with_reducible refine Below.setCell ?_ ?_ _) | (simp; done) | (simp; omega) | omega)))).mono ?_); rintro e w1 ⟨rfl, hb1⟩; obtain ⟨osA, dA, rfl⟩ := ext_of_below hb1; clear hb1))
      | (go_at_call 6; ((with_reducible refine (HO2.out _ (by (repeat' (first | (with_reducible exact Below.refl _ _) | (with_reducible assumption) | (with_reducible refine Below.alloc ?_ ?_ _) | (with_reducible refine below_drewN ?_ _) | (with_reducible refine below_drew ?_) | (with_reducible refine below_ext ?_ ?_ _ _) | (with_reducible refine Below.setCell ?_ ?_ _) | (simp; done) | (simp; omega) | omega)))).mono ?_); rintro e w1 ⟨rfl, hb1⟩; obtain ⟨osB, dB, rfl⟩ := ext_of_below hb1; clear hb1))
      | (go_at_call 7; ((with_reducible refine (HO1.out _ (by (repeat' (first | (with_reducible exact Below.refl _ _) | (with_reducible assumption) | (with_reducible refine Below.alloc ?_ ?_ _) | (with_reducible refine below_drewN ?_ _) | (with_reducible refine below_drew ?_) | (with_reducible refine below_ext ?_ ?_ _ _) | (with_reducible refine Below.setCell ?_ ?_ _) | (simp; done) | (simp; omega) | omega)))).mono ?_); rintro e w1 ⟨rfl, hb1⟩; obtain ⟨osC, dC, rfl⟩ := ext_of_below hb1; clear hb1))
      | (go_at_call 8; ((with_reducible refine (HF2.out _ (by (repeat' (first | (with_reducible exact Below.refl _ _) | (with_reducible assumption) | (with_reducible refine Below.alloc ?_ ?_ _) | (with_reducible refine below_drewN ?_ _) | (with_reducible refine below_drew ?_) | (with_reducible refine below_ext ?_ ?_ _ _) | (with_reducible refine Below.setCell ?_ ?_ _) | (simp; done) | (simp; omega) | omega)))).mono ?_); rintro e w1 ⟨rfl, hb1⟩; obtain ⟨osD, dD, rfl⟩ := ext_of_below hb1; clear hb1))
      | (go_at_call 9; ((with_reducible refine (HF1.out _ (by (repeat' (first | (with_reducible exact Below.refl _ _) | (with_reducible assumption) | (with_reducible refine Below.alloc ?_ ?_ _) | (with_reducible refine below_drewN ?_ _) | (with_reducible refine below_drew ?_) | (with_reducible refine below_ext ?_ ?_ _ _) | (with_reducible refine Below.setCell ?_ ?_ _) | (simp; done) | (simp; omega) | omega)))).mono ?_); rintro e w1 ⟨rfl, hb1⟩; obtain ⟨osE, dE, rfl⟩ := ext_of_below hb1; clear hb1)))
    all_goals
      go_ret
      exact ⟨rfl, by (repeat' (first | (with_reducible exact Below.refl _ _) | (with_reducible assumption) | (with_reducible refine Below.alloc ?_ ?_ _) | (with_reducible refine below_drewN ?_ _) | (with_reducible refine below_drew ?_) | (with_reducible refine below_ext ?_ ?_ _ _) | (with_reducible refine Below.setCell ?_ ?_ _) | (simp; done) | (simp; omega) | omega))⟩
end Go.Proofs.YtdmmpknpoephnaaDoor
