/-
  The law DecBetween.
-/
import Derived.Test.YtcnkcfbodpkllaaDoorDNear
import Derived.Test.YtcnkcfbodpkllaaDoorSign
namespace Go.Proofs.YtcnkcfbodpkllaaDoor
open Go.RowKit Num Word
attribute [local go_sem] setCell_drewN cell?_ext frozen?_ext shape?_ext setCell_ext lt_1' ne_1' en_1' le_1' lt_2' ne_2' en_2' le_2' lt_3' ne_3' en_3' le_3' lt_4' ne_4' en_4' le_4' lt_5' ne_5' en_5' le_5' lt_6' ne_6' en_6' le_6' lt_7' ne_7' en_7' le_7' lt_8' ne_8' en_8' le_8' lt_9' ne_9' en_9' le_9' lt_10' ne_10' en_10' le_10' lt_11' ne_11' en_11' le_11' lt_12' ne_12' en_12' le_12'
attribute [local go_sem] lt_13' ne_13' en_13' le_13' lt_14' ne_14' en_14' le_14' lt_15' ne_15' en_15' le_15' lt_16' ne_16' en_16' le_16' lt_17' ne_17' en_17' le_17' lt_18' ne_18' en_18' le_18' lt_19' ne_19' en_19' le_19' lt_20' ne_20' en_20' le_20' lt_21' ne_21' en_21' le_21' lt_22' ne_22' en_22' le_22'

theorem nbP_strip {x c s : Nat} {away : Bool} : ∀ k, Fit.nbP x away k = some (c, s) → ∃ q S, S < k ∧ q < 10 ^ 34 ∧ Fit.strip q S = (c, s)
  | 0, h => by cases h
  | k + 1, h => by
    rw [Fit.nbP] at h
    by_cases hh : Fit.nbQ x away (10 ^ (18 - k)) < 10 ^ 34
    · rw [if_pos hh] at h
      exact ⟨_, k, by omega, hh, Option.some.inj h⟩
    · rw [if_neg hh] at h
      obtain ⟨q, S, a, b, d⟩ := nbP_strip k h
      exact ⟨q, S, by omega, b, d⟩
theorem nb_form {x c s : Nat} {away : Bool} (g : Bool) (h : Fit.nbP x away 19 = some (c, s)) : formB (g && decide (0 < c)) c (s : Int) = true := by
  obtain ⟨q, S, a, b, e⟩ := nbP_strip 19 h
  obtain ⟨b1, b2, b3⟩ := strip_form b S (by omega)
  rw [e] at b1 b2 b3
  refine form_mk b2 b1 (fun _ hg => ?_) b3
  intro h0
  rw [h0] at hg
  cases g <;> cases hg
/-- the neighbour above: there is none, or nothing lies between -/
theorem between_facts (na : Bool) (ca SA : Nat) (hS : SA ≤ 18) (hc : ca < 10 ^ 34) (a3 : SA = 0 → na = true → ca ≠ 0) (a4 : SA ≠ 0 → ca % 10 ≠ 0) :
    (Fit.nbP (Fit.uni ca SA) (!na) 19 = none ∧ na = false ∧ 0 < ca ∧ ∃ c s, Fit.nbP (Fit.uni ca SA) false 19 = some (c, s) ∧ sv false (Fit.uni c s) < sv false (Fit.uni ca SA)) ∨
    (∃ c1 s1, Fit.nbP (Fit.uni ca SA) (!na) 19 = some (c1, s1) ∧ (!flip (na && decide (0 < c1)) c1) = na ∧ Fit.nbP (Fit.uni c1 s1) na 19 = some (ca, SA) ∧ sv na (Fit.uni ca SA) < sv na (Fit.uni c1 s1) ∧
      ∀ (nb : Bool) (cb SB : Nat), SB ≤ 18 → cb < 10 ^ 34 → ¬ (sv na (Fit.uni ca SA) < sv nb (Fit.uni cb SB) ∧ sv nb (Fit.uni cb SB) < sv na (Fit.uni c1 s1))) := by
  have hle : Fit.uni ca SA ≤ 10 ^ 52 := Nat.le_of_lt (uni_lt hc)
  cases na
  · cases h : Fit.nbP (Fit.uni ca SA) (!false) 19 with
    | none =>
      left
      have hn := Fit.nbP_none 19 (by omega) h
      have h0 : 0 < Fit.uni ca SA := by
        rcases Nat.eq_zero_or_pos (Fit.uni ca SA) with h0 | h0
        · exfalso
          refine hn 1 0 (by omega) (by decide) ?_
          rw [h0]; exact Nat.mul_pos (by decide) (Fit.pp _)
        · exact h0
      have hca : 0 < ca := by
        rcases Nat.eq_zero_or_pos ca with h1 | h1
        · rw [h1] at h0; unfold Fit.uni at h0; rw [Nat.zero_mul] at h0; exact absurd h0 (by decide)
        · exact h1
      obtain ⟨⟨c, s⟩, hp⟩ := Fit.nbP_room h0 hle 19 (by omega)
      obtain ⟨_, u, _⟩ := Fit.up_down hS hc a4 h0 hp
      exact ⟨rfl, rfl, hca, c, s, hp, by rw [sv_f, sv_f]; omega⟩
    | some p =>
      obtain ⟨c1, s1⟩ := p
      right
      obtain ⟨d1, d2, d3⟩ := Fit.down_up hS hc a4 h
      have hc1 : 0 < c1 := by
        rcases Nat.eq_zero_or_pos c1 with h1 | h1
        · rw [h1] at d2; unfold Fit.uni at d2; rw [Nat.zero_mul] at d2; exact absurd d2 (by omega)
        · exact h1
      refine ⟨c1, s1, rfl, by rw [flip_FV, decide_eq_true hc1]; rfl, d1, by rw [sv_f, sv_f]; omega, ?_⟩
      rintro nb cb SB hSB hcb ⟨l1, l2⟩
      cases nb
      · rw [sv_f, sv_f] at l1 l2
        have := d3 cb SB hSB hcb (by omega)
        omega
      · rw [sv_f, sv_t] at l1
        omega
  · right
    have h0 : 0 < Fit.uni ca SA := form_signed a3 a4 rfl
    obtain ⟨⟨c1, s1⟩, hp⟩ := Fit.nbP_room h0 hle 19 (by omega)
    obtain ⟨u1, u2, u3⟩ := Fit.up_down hS hc a4 h0 hp
    refine ⟨c1, s1, hp, by rw [flip_FV]; rfl, u1, by rw [sv_t, sv_t]; omega, ?_⟩
    rintro nb cb SB hSB hcb ⟨l1, l2⟩
    cases nb
    · rw [sv_t, sv_f] at l2
      omega
    · rw [sv_t, sv_t] at l1 l2
      have := u3 cb SB hSB hcb (by omega)
      omega
theorem cmp_less {na nb : Bool} {x y : Nat} (h1 : na = true → 0 < x) (h2 : nb = true → 0 < y) (h : sv na x < sv nb y) : ordV na x nb y = -1 := by
  rcases ordV_sv h1 h2 with ⟨a, b⟩ | ⟨a, b⟩ | ⟨a, b⟩
  · exact b
  · omega
  · omega
theorem cmp_not {na nb : Bool} {x y : Nat} (h1 : na = true → 0 < x) (h2 : nb = true → 0 < y) (h : ¬ sv nb y < sv na x) : ordV na x nb y ≤ 0 := by
  rcases ordV_sv h1 h2 with ⟨a, b⟩ | ⟨a, b⟩ | ⟨a, b⟩
  · omega
  · omega
  · omega
/-- the order of two decimals in form -/
theorem dcmp_in (na nb : Bool) (ca cb : Nat) (SA SB : Nat) (fa : formB na ca (SA : Int) = true) (fb : formB nb cb (SB : Int) = true) :
    ∃ r : Int, (∀ w, Tens w → Calls Tryd.prog 19 #[D na ca (SA : Int), D nb cb (SB : Int)] w fun e w' => e = .returned (.tuple #[.int .i64 r, .int .i64 0]) ∧ Below w.heap.size w w') ∧
      ((sv na (Fit.uni ca SA) < sv nb (Fit.uni cb SB) ∧ r = -1) ∨ (sv na (Fit.uni ca SA) = sv nb (Fit.uni cb SB) ∧ r = 0) ∨ (sv nb (Fit.uni cb SB) < sv na (Fit.uni ca SA) ∧ r = 1)) := by
  obtain ⟨SA', hA', _, _, a3, a4⟩ := form_open fa
  obtain ⟨SB', hB', _, _, b3, b4⟩ := form_open fb
  obtain rfl : SA = SA' := by omega
  obtain rfl : SB = SB' := by omega
  exact ⟨_, fun w ht => dcmp_ok na nb ca cb _ _ SA SB rfl rfl fa fb _ rfl w ht, ordV_sv (fun h => form_signed a3 a4 h) (fun h => form_signed b3 b4 h)⟩
set_option maxRecDepth 100000 in
set_option maxHeartbeats 16000000 in
theorem decBetween_law (na : Bool) (ca : Nat) (sa : Int) (nb : Bool) (cb : Nat) (sb : Int) (ha : ca < top2) (_za : (Lit.int .i64 sa).wf = true) (hb : cb < top2) (_zb : (Lit.int .i64 sb).wf = true) (w : World) (ht : Tens w) :
    Calls Tryd.prog 6 #[D na ca sa, D nb cb sb] w fun e w' => e = .returned (.bool true) ∧ Below w.heap.size w w' := by
  have HT := Lib.hid (fun w' (hb : Below w.heap.size w w') => ht.below hb)
  have FA := Lib.hid (fun w => rform_any na ca sa ha w)
  cases fa : formB na ca sa with
  | false =>
    rw [fa] at FA
    have h1 := fun w ht => dNext_bad na ca sa ha fa w ht
    rw [← dbad_D] at h1
    have H1 := Lib.hid h1
    clear h1 ht ha hb _za _zb fa
    go_enter Tryd.func6, Tryd.ntmps6
    go_wp2_with (first
      | (go_at_call 8; ((with_reducible refine (knownD _ (HT.out _ (by (repeat' (first | (with_reducible exact Below.refl _ _) | (with_reducible assumption) | (with_reducible refine Below.alloc ?_ ?_ _) | (with_reducible refine below_drewN ?_ _) | (with_reducible refine below_drew ?_) | (with_reducible refine below_ext ?_ ?_ _ _) | (with_reducible refine Below.setCell ?_ ?_ _) | (simp; done) | (simp; omega) | omega))))).mono ?_); rintro e w1 ⟨rfl, hb1⟩; obtain ⟨osA, dA, rfl⟩ := ext_of_below hb1; clear hb1))
      | (go_at_call 16; ((with_reducible refine (H1.out _ (HT.out _ (by (repeat' (first | (with_reducible exact Below.refl _ _) | (with_reducible assumption) | (with_reducible refine Below.alloc ?_ ?_ _) | (with_reducible refine below_drewN ?_ _) | (with_reducible refine below_drew ?_) | (with_reducible refine below_ext ?_ ?_ _ _) | (with_reducible refine Below.setCell ?_ ?_ _) | (simp; done) | (simp; omega) | omega))))).mono ?_); rintro e w1 ⟨rfl, hb1⟩; obtain ⟨osB, dB, rfl⟩ := ext_of_below hb1; clear hb1))
      | (go_at_call 20; ((with_reducible refine (FA.out _).mono ?_); rintro e w1 ⟨rfl, hb1⟩; obtain ⟨osC, dC, rfl⟩ := ext_of_below hb1; clear hb1)))
    go_ret
    exact ⟨rfl, by (repeat' (first | (with_reducible exact Below.refl _ _) | (with_reducible assumption) | (with_reducible refine Below.alloc ?_ ?_ _) | (with_reducible refine below_drewN ?_ _) | (with_reducible refine below_drew ?_) | (with_reducible refine below_ext ?_ ?_ _ _) | (with_reducible refine Below.setCell ?_ ?_ _) | (simp; done) | (simp; omega) | omega))⟩
  | true =>
    rw [fa] at FA
    obtain ⟨SA, rfl, hSA18, hca, a3, a4⟩ := form_open fa
    rcases between_facts na ca SA hSA18 hca a3 a4 with ⟨e1, rfl, h0, c, s, e2, l2⟩ | ⟨c1, s1, e1, eg, e2, l1, hmid⟩
    · have h1 : ∀ w, Tens w → Calls Tryd.prog 16 #[D false ca (SA : Int)] w fun e w' => e = .returned (.tuple #[.agg #[.bool false, .int .u64 0, .int .u64 0, .int .i64 0], .int .i64 3]) ∧ Below w.heap.size w w' :=
        fun w ht => dNext_ok false ca (SA : Int) SA rfl fa none e1.symm w ht
      have h2 : ∀ w, Tens w → Calls Tryd.prog 18 #[D false ca (SA : Int)] w fun e w' => e = .returned (.tuple #[D false c (s : Int), .int .i64 0]) ∧ Below w.heap.size w w' :=
        fun w ht => dPrev_ok false ca (SA : Int) SA rfl fa false (by unfold flip; rw [decide_eq_false (show ¬ ca = 0 by omega)]; rfl) (some (c, s)) e2.symm w ht
      have fp : formB false c (s : Int) = true := nb_form false e2
      obtain ⟨r, h3, hr⟩ := dcmp_in false false c ca s SA fp fa
      obtain rfl : r = -1 := by
        rcases hr with ⟨_, h⟩ | ⟨h, _⟩ | ⟨h, _⟩
        · exact h
        · omega
        · omega
      have H1 := Lib.hid h1; have H2 := Lib.hid h2; have H3 := Lib.hid h3
      clear h1 h2 h3 hr ht ha hb _za _zb fa fp hSA18 hca a3 a4 e1 e2 l2 h0
      go_enter Tryd.func6, Tryd.ntmps6
      go_wp2_with (first
        | (go_at_call 8; ((with_reducible refine (knownD _ (HT.out _ (by (repeat' (first | (with_reducible exact Below.refl _ _) | (with_reducible assumption) | (with_reducible refine Below.alloc ?_ ?_ _) | (with_reducible refine below_drewN ?_ _) | (with_reducible refine below_drew ?_) | (with_reducible refine below_ext ?_ ?_ _ _) | (with_reducible refine Below.setCell ?_ ?_ _) | (simp; done) | (simp; omega) | omega))))).mono ?_); rintro e w1 ⟨rfl, hb1⟩; obtain ⟨osA, dA, rfl⟩ := ext_of_below hb1; clear hb1))
        | (go_at_call 16; ((with_reducible refine (H1.out _ (HT.out _ (by (repeat' (first | (with_reducible exact Below.refl _ _) | (with_reducible assumption) | (with_reducible refine Below.alloc ?_ ?_ _) | (with_reducible refine below_drewN ?_ _) | (with_reducible refine below_drew ?_) | (with_reducible refine below_ext ?_ ?_ _ _) | (with_reducible refine Below.setCell ?_ ?_ _) | (simp; done) | (simp; omega) | omega))))).mono ?_); rintro e w1 ⟨rfl, hb1⟩; obtain ⟨osB, dB, rfl⟩ := ext_of_below hb1; clear hb1))
        | (go_at_call 20; ((with_reducible refine (FA.out _).mono ?_); rintro e w1 ⟨rfl, hb1⟩; obtain ⟨osC, dC, rfl⟩ := ext_of_below hb1; clear hb1))
        | (go_at_call 18; ((with_reducible refine (H2.out _ (HT.out _ (by (repeat' (first | (with_reducible exact Below.refl _ _) | (with_reducible assumption) | (with_reducible refine Below.alloc ?_ ?_ _) | (with_reducible refine below_drewN ?_ _) | (with_reducible refine below_drew ?_) | (with_reducible refine below_ext ?_ ?_ _ _) | (with_reducible refine Below.setCell ?_ ?_ _) | (simp; done) | (simp; omega) | omega))))).mono ?_); rintro e w1 ⟨rfl, hb1⟩; obtain ⟨osD, dD, rfl⟩ := ext_of_below hb1; clear hb1))
        | (go_at_call 19; ((with_reducible refine (H3.out _ (HT.out _ (by (repeat' (first | (with_reducible exact Below.refl _ _) | (with_reducible assumption) | (with_reducible refine Below.alloc ?_ ?_ _) | (with_reducible refine below_drewN ?_ _) | (with_reducible refine below_drew ?_) | (with_reducible refine below_ext ?_ ?_ _ _) | (with_reducible refine Below.setCell ?_ ?_ _) | (simp; done) | (simp; omega) | omega))))).mono ?_); rintro e w1 ⟨rfl, hb1⟩; obtain ⟨osE, dE, rfl⟩ := ext_of_below hb1; clear hb1)))
      go_ret
      exact ⟨rfl, by (repeat' (first | (with_reducible exact Below.refl _ _) | (with_reducible assumption) | (with_reducible refine Below.alloc ?_ ?_ _) | (with_reducible refine below_drewN ?_ _) | (with_reducible refine below_drew ?_) | (with_reducible refine below_ext ?_ ?_ _ _) | (with_reducible refine Below.setCell ?_ ?_ _) | (simp; done) | (simp; omega) | omega))⟩
    · have h1 : ∀ w, Tens w → Calls Tryd.prog 16 #[D na ca (SA : Int)] w fun e w' => e = .returned (.tuple #[D (na && decide (0 < c1)) c1 (s1 : Int), .int .i64 0]) ∧ Below w.heap.size w w' :=
        fun w ht => dNext_ok na ca (SA : Int) SA rfl fa (some (c1, s1)) e1.symm w ht
      have fn : formB (na && decide (0 < c1)) c1 (s1 : Int) = true := nb_form na e1
      have hsv := sv_sign na c1 s1
      have h2 : ∀ w, Tens w → Calls Tryd.prog 18 #[D (na && decide (0 < c1)) c1 (s1 : Int)] w fun e w' => e = .returned (.tuple #[D (na && decide (0 < ca)) ca (SA : Int), .int .i64 0]) ∧ Below w.heap.size w w' :=
        fun w ht => dPrev_ok _ c1 (s1 : Int) s1 rfl fn na eg.symm (some (ca, SA)) e2.symm w ht
      rw [form_sign a3 a4] at h2
      obtain ⟨g1, hg1⟩ : ∃ g, g = (na && decide (0 < c1)) := ⟨_, rfl⟩
      rw [← hg1] at h1 h2 fn hsv
      rw [← hsv] at l1 hmid
      obtain ⟨r, h3, hr⟩ := dcmp_in na g1 ca c1 SA s1 fa fn
      obtain rfl : r = -1 := by
        rcases hr with ⟨_, h⟩ | ⟨h, _⟩ | ⟨h, _⟩
        · exact h
        · omega
        · omega
      have H1 := Lib.hid h1; have H2 := Lib.hid h2; have H3 := Lib.hid h3
      have F4 := Lib.hid (fun w ht => form_yes fn w ht)
      have FB := Lib.hid (fun w => rform_any nb cb sb hb w)
      cases fb : formB nb cb sb with
      | false =>
        rw [fb] at FB
        clear h1 h2 h3 hr ht ha hb _za _zb fa fn hSA18 hca a3 a4 e1 e2 l1 hmid eg hg1 hsv fb
        go_enter Tryd.func6, Tryd.ntmps6
        go_wp2_with (first
          | (go_at_call 8; ((with_reducible refine (knownD _ (HT.out _ (by (repeat' (first | (with_reducible exact Below.refl _ _) | (with_reducible assumption) | (with_reducible refine Below.alloc ?_ ?_ _) | (with_reducible refine below_drewN ?_ _) | (with_reducible refine below_drew ?_) | (with_reducible refine below_ext ?_ ?_ _ _) | (with_reducible refine Below.setCell ?_ ?_ _) | (simp; done) | (simp; omega) | omega))))).mono ?_); rintro e w1 ⟨rfl, hb1⟩; obtain ⟨osA, dA, rfl⟩ := ext_of_below hb1; clear hb1))
          | (go_at_call 16; ((with_reducible refine (H1.out _ (HT.out _ (by (repeat' (first | (with_reducible exact Below.refl _ _) | (with_reducible assumption) | (with_reducible refine Below.alloc ?_ ?_ _) | (with_reducible refine below_drewN ?_ _) | (with_reducible refine below_drew ?_) | (with_reducible refine below_ext ?_ ?_ _ _) | (with_reducible refine Below.setCell ?_ ?_ _) | (simp; done) | (simp; omega) | omega))))).mono ?_); rintro e w1 ⟨rfl, hb1⟩; obtain ⟨osB, dB, rfl⟩ := ext_of_below hb1; clear hb1))
          | (go_at_call 20; ((with_reducible refine (FA.out _).mono ?_); rintro e w1 ⟨rfl, hb1⟩; obtain ⟨osC, dC, rfl⟩ := ext_of_below hb1; clear hb1))
          | (go_at_call 18; ((with_reducible refine (H2.out _ (HT.out _ (by (repeat' (first | (with_reducible exact Below.refl _ _) | (with_reducible assumption) | (with_reducible refine Below.alloc ?_ ?_ _) | (with_reducible refine below_drewN ?_ _) | (with_reducible refine below_drew ?_) | (with_reducible refine below_ext ?_ ?_ _ _) | (with_reducible refine Below.setCell ?_ ?_ _) | (simp; done) | (simp; omega) | omega))))).mono ?_); rintro e w1 ⟨rfl, hb1⟩; obtain ⟨osD, dD, rfl⟩ := ext_of_below hb1; clear hb1))
          | (go_at_call 19; ((with_reducible refine (H3.out _ (HT.out _ (by (repeat' (first | (with_reducible exact Below.refl _ _) | (with_reducible assumption) | (with_reducible refine Below.alloc ?_ ?_ _) | (with_reducible refine below_drewN ?_ _) | (with_reducible refine below_drew ?_) | (with_reducible refine below_ext ?_ ?_ _ _) | (with_reducible refine Below.setCell ?_ ?_ _) | (simp; done) | (simp; omega) | omega))))).mono ?_); rintro e w1 ⟨rfl, hb1⟩; obtain ⟨osE, dE, rfl⟩ := ext_of_below hb1; clear hb1))
          | (go_at_call 23; ((with_reducible refine (F4.out _ (HT.out _ (by (repeat' (first | (with_reducible exact Below.refl _ _) | (with_reducible assumption) | (with_reducible refine Below.alloc ?_ ?_ _) | (with_reducible refine below_drewN ?_ _) | (with_reducible refine below_drew ?_) | (with_reducible refine below_ext ?_ ?_ _ _) | (with_reducible refine Below.setCell ?_ ?_ _) | (simp; done) | (simp; omega) | omega))))).mono ?_); rintro e w1 ⟨rfl, hb1⟩; obtain ⟨osF, dF, rfl⟩ := ext_of_below hb1; clear hb1))
          | (go_at_call 20; ((with_reducible refine (FB.out _).mono ?_); rintro e w1 ⟨rfl, hb1⟩; obtain ⟨osG, dG, rfl⟩ := ext_of_below hb1; clear hb1)))
        go_ret
        exact ⟨rfl, by (repeat' (first | (with_reducible exact Below.refl _ _) | (with_reducible assumption) | (with_reducible refine Below.alloc ?_ ?_ _) | (with_reducible refine below_drewN ?_ _) | (with_reducible refine below_drew ?_) | (with_reducible refine below_ext ?_ ?_ _ _) | (with_reducible refine Below.setCell ?_ ?_ _) | (simp; done) | (simp; omega) | omega))⟩
      | true =>
        rw [fb] at FB
        obtain ⟨SB, rfl, hSB18, hcb, b3, b4⟩ := form_open fb
        obtain ⟨x, h5, hx⟩ := dcmp_in nb na cb ca SB SA fb fa
        obtain ⟨y, h6, hy⟩ := dcmp_in g1 nb c1 cb s1 SB fn fb
        have hm := hmid nb cb SB hSB18 hcb
        have hxy : x ≤ 0 ∨ (¬ x ≤ 0 ∧ y ≤ 0) := by omega
        have H5 := Lib.hid h5; have H6 := Lib.hid h6
        clear h1 h2 h3 h5 h6 hr ht ha hb _za _zb fa fn hSA18 hca a3 a4 e1 e2 l1 hmid eg hg1 hsv fb hx hy hm hSB18 hcb b3 b4
        rcases hxy with hx | ⟨hx, hy⟩
        all_goals
          go_enter Tryd.func6, Tryd.ntmps6
          go_wp2_with (first
            | (go_at_call 8; ((with_reducible refine (knownD _ (HT.out _ (by (repeat' (first | (with_reducible exact Below.refl _ _) | (with_reducible assumption) | (with_reducible refine Below.alloc ?_ ?_ _) | (with_reducible refine below_drewN ?_ _) | (with_reducible refine below_drew ?_) | (with_reducible refine below_ext ?_ ?_ _ _) | (with_reducible refine Below.setCell ?_ ?_ _) | (simp; done) | (simp; omega) | omega))))).mono ?_); rintro e w1 ⟨rfl, hb1⟩; obtain ⟨osA, dA, rfl⟩ := ext_of_below hb1; clear hb1))
            | (go_at_call 16; ((with_reducible refine (H1.out _ (HT.out _ (by (repeat' (first | (with_reducible exact Below.refl _ _) | (with_reducible assumption) | (with_reducible refine Below.alloc ?_ ?_ _) | (with_reducible refine below_drewN ?_ _) | (with_reducible refine below_drew ?_) | (with_reducible refine below_ext ?_ ?_ _ _) | (with_reducible refine Below.setCell ?_ ?_ _) | (simp; done) | (simp; omega) | omega))))).mono ?_); rintro e w1 ⟨rfl, hb1⟩; obtain ⟨osB, dB, rfl⟩ := ext_of_below hb1; clear hb1))
            | (go_at_call 20; ((with_reducible refine (FA.out _).mono ?_); rintro e w1 ⟨rfl, hb1⟩; obtain ⟨osC, dC, rfl⟩ := ext_of_below hb1; clear hb1))
            | (go_at_call 18; ((with_reducible refine (H2.out _ (HT.out _ (by (repeat' (first | (with_reducible exact Below.refl _ _) | (with_reducible assumption) | (with_reducible refine Below.alloc ?_ ?_ _) | (with_reducible refine below_drewN ?_ _) | (with_reducible refine below_drew ?_) | (with_reducible refine below_ext ?_ ?_ _ _) | (with_reducible refine Below.setCell ?_ ?_ _) | (simp; done) | (simp; omega) | omega))))).mono ?_); rintro e w1 ⟨rfl, hb1⟩; obtain ⟨osD, dD, rfl⟩ := ext_of_below hb1; clear hb1))
            | (go_at_call 19; ((with_reducible refine (H3.out _ (HT.out _ (by (repeat' (first | (with_reducible exact Below.refl _ _) | (with_reducible assumption) | (with_reducible refine Below.alloc ?_ ?_ _) | (with_reducible refine below_drewN ?_ _) | (with_reducible refine below_drew ?_) | (with_reducible refine below_ext ?_ ?_ _ _) | (with_reducible refine Below.setCell ?_ ?_ _) | (simp; done) | (simp; omega) | omega))))).mono ?_); rintro e w1 ⟨rfl, hb1⟩; obtain ⟨osE, dE, rfl⟩ := ext_of_below hb1; clear hb1))
            | (go_at_call 23; ((with_reducible refine (F4.out _ (HT.out _ (by (repeat' (first | (with_reducible exact Below.refl _ _) | (with_reducible assumption) | (with_reducible refine Below.alloc ?_ ?_ _) | (with_reducible refine below_drewN ?_ _) | (with_reducible refine below_drew ?_) | (with_reducible refine below_ext ?_ ?_ _ _) | (with_reducible refine Below.setCell ?_ ?_ _) | (simp; done) | (simp; omega) | omega))))).mono ?_); rintro e w1 ⟨rfl, hb1⟩; obtain ⟨osF, dF, rfl⟩ := ext_of_below hb1; clear hb1))
            | (go_at_call 20; ((with_reducible refine (FB.out _).mono ?_); rintro e w1 ⟨rfl, hb1⟩; obtain ⟨osG, dG, rfl⟩ := ext_of_below hb1; clear hb1))
            | (go_at_call 19; ((with_reducible refine (H5.out _ (HT.out _ (by (repeat' (first | (with_reducible exact Below.refl _ _) | (with_reducible assumption) | (with_reducible refine Below.alloc ?_ ?_ _) | (with_reducible refine below_drewN ?_ _) | (with_reducible refine below_drew ?_) | (with_reducible refine below_ext ?_ ?_ _ _) | (with_reducible refine Below.setCell ?_ ?_ _) | (simp; done) | (simp; omega) | omega))))).mono ?_); rintro e w1 ⟨rfl, hb1⟩; obtain ⟨osH, dH, rfl⟩ := ext_of_below hb1; clear hb1))
            | (go_at_call 19; ((with_reducible refine (H6.out _ (HT.out _ (by (repeat' (first | (with_reducible exact Below.refl _ _) | (with_reducible assumption) | (with_reducible refine Below.alloc ?_ ?_ _) | (with_reducible refine below_drewN ?_ _) | (with_reducible refine below_drew ?_) | (with_reducible refine below_ext ?_ ?_ _ _) | (with_reducible refine Below.setCell ?_ ?_ _) | (simp; done) | (simp; omega) | omega))))).mono ?_); rintro e w1 ⟨rfl, hb1⟩; obtain ⟨osI, dI, rfl⟩ := ext_of_below hb1; clear hb1)))
          go_ret
          exact ⟨rfl, by (repeat' (first | (with_reducible exact Below.refl _ _) | (with_reducible assumption) | (with_reducible refine Below.alloc ?_ ?_ _) | (with_reducible refine below_drewN ?_ _) | (with_reducible refine below_drew ?_) | (with_reducible refine below_ext ?_ ?_ _ _) | (with_reducible refine Below.setCell ?_ ?_ _) | (simp; done) | (simp; omega) | omega))⟩
end Go.Proofs.YtcnkcfbodpkllaaDoor
