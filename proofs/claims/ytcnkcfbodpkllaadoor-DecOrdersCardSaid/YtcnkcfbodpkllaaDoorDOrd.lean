/-
  The law DecOrders.
-/
import Derived.Test.YtcnkcfbodpkllaaDoorDocOne
import Derived.Test.YtcnkcfbodpkllaaDoorUndoBase
import Derived.Test.YtcnkcfbodpkllaaDoorSign
namespace Go.Proofs.YtcnkcfbodpkllaaDoor
open Go.RowKit Num Word
attribute [local go_sem] setCell_drewN cell?_ext frozen?_ext shape?_ext setCell_ext lt_1' ne_1' en_1' le_1' lt_2' ne_2' en_2' le_2' lt_3' ne_3' en_3' le_3' lt_4' ne_4' en_4' le_4' lt_5' ne_5' en_5' le_5' lt_6' ne_6' en_6' le_6' lt_7' ne_7' en_7' le_7' lt_8' ne_8' en_8' le_8' lt_9' ne_9' en_9' le_9' lt_10' ne_10' en_10' le_10' lt_11' ne_11' en_11' le_11' lt_12' ne_12' en_12' le_12'
attribute [local go_sem] lt_13' ne_13' en_13' le_13' lt_14' ne_14' en_14' le_14' lt_15' ne_15' en_15' le_15' lt_16' ne_16' en_16' le_16' lt_17' ne_17' en_17' le_17' lt_18' ne_18' en_18' le_18' lt_19' ne_19' en_19' le_19' lt_20' ne_20' en_20' le_20' lt_21' ne_21' en_21' le_21' lt_22' ne_22' en_22' le_22'

/-- the order of two decimals in form -/
theorem dcmp_in (na nb : Bool) (ca cb : Nat) (SA SB : Nat) (fa : formB na ca (SA : Int) = true) (fb : formB nb cb (SB : Int) = true) :
    ∃ r : Int, (∀ w, Tens w → Calls Tryd.prog 19 #[D na ca (SA : Int), D nb cb (SB : Int)] w fun e w' => e = .returned (.tuple #[.int .i64 r, .int .i64 0]) ∧ Below w.heap.size w w') ∧
      ((sv na (Fit.uni ca SA) < sv nb (Fit.uni cb SB) ∧ r = -1) ∨ (sv na (Fit.uni ca SA) = sv nb (Fit.uni cb SB) ∧ r = 0) ∨ (sv nb (Fit.uni cb SB) < sv na (Fit.uni ca SA) ∧ r = 1)) := by
  obtain ⟨SA', hA', _, _, a3, a4⟩ := form_open fa
  obtain ⟨SB', hB', _, _, b3, b4⟩ := form_open fb
  obtain rfl : SA = SA' := by omega
  obtain rfl : SB = SB' := by omega
  exact ⟨_, fun w ht => dcmp_ok na nb ca cb _ _ SA SB rfl rfl fa fb _ rfl w ht, ordV_sv (fun h => form_signed a3 a4 h) (fun h => form_signed b3 b4 h)⟩
/-- two decimals that differ differ in a part -/
theorem parts_ne {na nb : Bool} {ca cb SA SB : Nat} (h : ¬ (na = nb ∧ ca = cb ∧ SA = SB)) :
    (na == nb) = false ∨ ((na == nb) = true ∧ (((((hi ca : Nat) : Int) == ((hi cb : Nat) : Int)) = false) ∨ (((((hi ca : Nat) : Int) == ((hi cb : Nat) : Int)) = true) ∧ (((((lo ca : Nat) : Int) == ((lo cb : Nat) : Int)) = false) ∨ (((((lo ca : Nat) : Int) == ((lo cb : Nat) : Int)) = true) ∧ ((SA : Int) == (SB : Int)) = false))))) := by
  by_cases h1 : na = nb
  · right
    refine ⟨by rw [h1]; cases nb <;> rfl, ?_⟩
    by_cases h2 : hi ca = hi cb
    · right
      refine ⟨by rw [h2]; exact beq_self_eq_true _, ?_⟩
      by_cases h3 : lo ca = lo cb
      · right
        refine ⟨by rw [h3]; exact beq_self_eq_true _, beq_eq_false_iff_ne.2 (fun h4 => h ⟨h1, ?_, by omega⟩)⟩
        have e1 := hilo ca
        have e2 := hilo cb
        rw [h2, h3] at e1
        omega
      · exact .inl (beq_eq_false_iff_ne.2 (by omega))
    · exact .inl (beq_eq_false_iff_ne.2 (by omega))
  · exact .inl (beq_eq_false_iff_ne.2 h1)
theorem orders_rest (na nb nc : Bool) (ca cb cc SA SB : Nat) (sc : Int) (fa : formB na ca (SA : Int) = true) (fb : formB nb cb (SB : Int) = true) (hc : cc < top2) (q : Int)
    (ho : (sv na (Fit.uni ca SA) < sv nb (Fit.uni cb SB) ∧ q = -1) ∨ (sv na (Fit.uni ca SA) = sv nb (Fit.uni cb SB) ∧ q = 0) ∨ (sv nb (Fit.uni cb SB) < sv na (Fit.uni ca SA) ∧ q = 1)) :
    (∀ w, Calls Tryd.prog 20 #[D nc cc sc] w fun e w' => e = .returned (.bool false) ∧ Below w.heap.size w w') ∨
    ((∀ w, Calls Tryd.prog 20 #[D nc cc sc] w fun e w' => e = .returned (.bool true) ∧ Below w.heap.size w w') ∧ ∃ (n1 : Bool) (c1 : Nat) (s1 e1 : Int) (n2 : Bool) (c2 : Nat) (s2 e2 : Int),
      (∀ w, Tens w → Calls Tryd.prog 22 #[D na ca (SA : Int), D nc cc sc] w fun e w' => e = .returned (.tuple #[D n1 c1 s1, .int .i64 e1]) ∧ Below w.heap.size w w') ∧
      (∀ w, Tens w → Calls Tryd.prog 22 #[D nb cb (SB : Int), D nc cc sc] w fun e w' => e = .returned (.tuple #[D n2 c2 s2, .int .i64 e2]) ∧ Below w.heap.size w w') ∧
      ((e1 = 3 ∧ e2 = 0) ∨ (e1 = 3 ∧ e2 = 3) ∨ (e1 = 0 ∧ e2 = 3) ∨ (e1 = 0 ∧ e2 = 0 ∧ ∃ s : Int, (∀ w, Tens w → Calls Tryd.prog 19 #[D n1 c1 s1, D n2 c2 s2] w fun e w' => e = .returned (.tuple #[.int .i64 s, .int .i64 0]) ∧ Below w.heap.size w w') ∧ (s = 0 ∨ ((s == 0) = false ∧ s = q))))) := by
  have HF := fun w => rform_any nc cc sc hc w
  cases fc : formB nc cc sc with
  | false => rw [fc] at HF; exact .inl HF
  | true =>
    rw [fc] at HF
    obtain ⟨SC, rfl, _, _, _, _⟩ := form_open fc
    refine .inr ⟨HF, ?_⟩
    have v1 := sv_sum na nc (Fit.uni ca SA) (Fit.uni cc SC)
    have v2 := sv_sum nb nc (Fit.uni cb SB) (Fit.uni cc SC)
    have k1 := fun F hF w ht => dadd_ok na nc ca cc (SA : Int) (SC : Int) SA SC rfl rfl fa fc _ F rfl hF w ht
    have k2 := fun F hF w ht => dadd_ok nb nc cb cc (SB : Int) (SC : Int) SB SC rfl rfl fb fc _ F rfl hF w ht
    generalize (Fit.sumN na (Fit.uni ca SA) nc (Fit.uni cc SC)).1 = g1 at *
    generalize (Fit.sumN na (Fit.uni ca SA) nc (Fit.uni cc SC)).2 = m1 at *
    generalize (Fit.sumN nb (Fit.uni cb SB) nc (Fit.uni cc SC)).1 = g2 at *
    generalize (Fit.sumN nb (Fit.uni cb SB) nc (Fit.uni cc SC)).2 = m2 at *
    cases h1 : Fit.fit m1 (10 ^ 18) 19 with
    | none =>
      cases h2 : Fit.fit m2 (10 ^ 18) 19 with
      | none => exact ⟨_, _, _, _, _, _, _, _, k1 none h1.symm, k2 none h2.symm, .inr (.inl ⟨rfl, rfl⟩)⟩
      | some y => exact ⟨_, _, _, _, _, _, _, _, k1 none h1.symm, k2 (some y) h2.symm, .inl ⟨rfl, rfl⟩⟩
    | some x =>
      cases h2 : Fit.fit m2 (10 ^ 18) 19 with
      | none => exact ⟨_, _, _, _, _, _, _, _, k1 (some x) h1.symm, k2 none h2.symm, .inr (.inr (.inl ⟨rfl, rfl⟩))⟩
      | some y =>
        obtain ⟨c1, s1⟩ := x
        obtain ⟨c2, s2⟩ := y
        obtain ⟨s, hs, hsv⟩ := dcmp_in (g1 && decide (0 < c1)) (g2 && decide (0 < c2)) c1 c2 s1 s2 (fit_inform g1 h1) (fit_inform g2 h2)
        rw [sv_sign, sv_sign] at hsv
        have u1 := fun h => sv_fit_mono (g1 := g1) (g2 := g2) h h1 h2
        have u2 := fun h => sv_fit_mono (g1 := g2) (g2 := g1) h h2 h1
        refine ⟨_, _, _, _, _, _, _, _, k1 (some (c1, s1)) h1.symm, k2 (some (c2, s2)) h2.symm, .inr (.inr (.inr ⟨rfl, rfl, s, hs, ?_⟩))⟩
        have key : s = 0 ∨ (s ≠ 0 ∧ s = q) := by
          rcases ho with ⟨h, hq⟩ | ⟨h, hq⟩ | ⟨h, hq⟩
          · have := u1 (by omega); omega
          · have a := u1 (by omega)
            have b := u2 (by omega)
            omega
          · have := u2 (by omega); omega
        rcases key with h | ⟨h, h'⟩
        · exact .inl h
        · exact .inr ⟨beq_eq_false_iff_ne.2 h, h'⟩
set_option maxRecDepth 100000 in
set_option maxHeartbeats 32000000 in
theorem decOrders_law (na : Bool) (ca : Nat) (sa : Int) (nb : Bool) (cb : Nat) (sb : Int) (nc : Bool) (cc : Nat) (sc : Int) (ha : ca < top2) (_za : (Lit.int .i64 sa).wf = true) (hb : cb < top2) (_zb : (Lit.int .i64 sb).wf = true) (hc : cc < top2) (_zc : (Lit.int .i64 sc).wf = true) (w : World) (ht : Tens w) :
    Calls Tryd.prog 5 #[D na ca sa, D nb cb sb, D nc cc sc] w fun e w' => e = .returned (.bool true) ∧ Below w.heap.size w w' := by
  have HT := Lib.hid (fun w' (hb : Below w.heap.size w w') => ht.below hb)
  have FA := Lib.hid (fun w => rform_any na ca sa ha w)
  have FB := Lib.hid (fun w => rform_any nb cb sb hb w)
  have FC := Lib.hid (fun w => rform_any nc cc sc hc w)
  cases fa : formB na ca sa with
  | false =>
    rw [fa] at FA
    have H1 := Lib.hid (fun w ht => dcmp_bad1 na nb ca cb sa sb ha fa w ht)
    clear ht ha hb hc _za _zb _zc fa
    go_enter Tryd.func5, Tryd.ntmps5
    go_wp2_with (first
      | (go_at_call 8; ((with_reducible refine (knownD _ (HT.out _ (by (repeat' (first | (with_reducible exact Below.refl _ _) | (with_reducible assumption) | (with_reducible refine Below.alloc ?_ ?_ _) | (with_reducible refine below_drewN ?_ _) | (with_reducible refine below_drew ?_) | (with_reducible refine below_ext ?_ ?_ _ _) | (with_reducible refine Below.setCell ?_ ?_ _) | (simp; done) | (simp; omega) | omega))))).mono ?_); rintro e w1 ⟨rfl, hb1⟩; obtain ⟨osA, dA, rfl⟩ := ext_of_below hb1; clear hb1))
      | (go_at_call 19; ((with_reducible refine (H1.out _ (HT.out _ (by (repeat' (first | (with_reducible exact Below.refl _ _) | (with_reducible assumption) | (with_reducible refine Below.alloc ?_ ?_ _) | (with_reducible refine below_drewN ?_ _) | (with_reducible refine below_drew ?_) | (with_reducible refine below_ext ?_ ?_ _ _) | (with_reducible refine Below.setCell ?_ ?_ _) | (simp; done) | (simp; omega) | omega))))).mono ?_); rintro e w1 ⟨rfl, hb1⟩; obtain ⟨osB, dB, rfl⟩ := ext_of_below hb1; clear hb1))
      | (go_at_call 20; ((with_reducible refine (FA.out _).mono ?_); rintro e w1 ⟨rfl, hb1⟩; obtain ⟨osC, dC, rfl⟩ := ext_of_below hb1; clear hb1)))
    go_ret
    exact ⟨rfl, by (repeat' (first | (with_reducible exact Below.refl _ _) | (with_reducible assumption) | (with_reducible refine Below.alloc ?_ ?_ _) | (with_reducible refine below_drewN ?_ _) | (with_reducible refine below_drew ?_) | (with_reducible refine below_ext ?_ ?_ _ _) | (with_reducible refine Below.setCell ?_ ?_ _) | (simp; done) | (simp; omega) | omega))⟩
  | true =>
    rw [fa] at FA
    cases fb : formB nb cb sb with
    | false =>
      rw [fb] at FB
      have H1 := Lib.hid (fun w ht => dcmp_bad2 na nb ca cb sa sb fa hb fb w ht)
      clear ht ha hb hc _za _zb _zc fa fb
      go_enter Tryd.func5, Tryd.ntmps5
      go_wp2_with (first
        | (go_at_call 8; ((with_reducible refine (knownD _ (HT.out _ (by (repeat' (first | (with_reducible exact Below.refl _ _) | (with_reducible assumption) | (with_reducible refine Below.alloc ?_ ?_ _) | (with_reducible refine below_drewN ?_ _) | (with_reducible refine below_drew ?_) | (with_reducible refine below_ext ?_ ?_ _ _) | (with_reducible refine Below.setCell ?_ ?_ _) | (simp; done) | (simp; omega) | omega))))).mono ?_); rintro e w1 ⟨rfl, hb1⟩; obtain ⟨osA, dA, rfl⟩ := ext_of_below hb1; clear hb1))
        | (go_at_call 19; ((with_reducible refine (H1.out _ (HT.out _ (by (repeat' (first | (with_reducible exact Below.refl _ _) | (with_reducible assumption) | (with_reducible refine Below.alloc ?_ ?_ _) | (with_reducible refine below_drewN ?_ _) | (with_reducible refine below_drew ?_) | (with_reducible refine below_ext ?_ ?_ _ _) | (with_reducible refine Below.setCell ?_ ?_ _) | (simp; done) | (simp; omega) | omega))))).mono ?_); rintro e w1 ⟨rfl, hb1⟩; obtain ⟨osB, dB, rfl⟩ := ext_of_below hb1; clear hb1))
        | (go_at_call 20; ((with_reducible refine (FA.out _).mono ?_); rintro e w1 ⟨rfl, hb1⟩; obtain ⟨osC, dC, rfl⟩ := ext_of_below hb1; clear hb1))
        | (go_at_call 20; ((with_reducible refine (FB.out _).mono ?_); rintro e w1 ⟨rfl, hb1⟩; obtain ⟨osD, dD, rfl⟩ := ext_of_below hb1; clear hb1)))
      go_ret
      exact ⟨rfl, by (repeat' (first | (with_reducible exact Below.refl _ _) | (with_reducible assumption) | (with_reducible refine Below.alloc ?_ ?_ _) | (with_reducible refine below_drewN ?_ _) | (with_reducible refine below_drew ?_) | (with_reducible refine below_ext ?_ ?_ _ _) | (with_reducible refine Below.setCell ?_ ?_ _) | (simp; done) | (simp; omega) | omega))⟩
    | true =>
      rw [fb] at FB
      obtain ⟨SA, rfl, hSA, hca, a3, a4⟩ := form_open fa
      obtain ⟨SB, rfl, hSB, hcb, b3, b4⟩ := form_open fb
      obtain ⟨o, h1, ho⟩ := dcmp_in na nb ca cb SA SB fa fb
      obtain ⟨p, h2, hp⟩ := dcmp_in nb na cb ca SB SA fb fa
      obtain ⟨q, h5, hq⟩ := dcmp_in (flip nb cb) (flip na ca) cb ca SB SA (flip_form fb) (flip_form fa)
      rw [sv_flip, sv_flip] at hq
      have H3 := Lib.hid (fun w ht => dneg_ok na ca (SA : Int) fa w ht)
      have H4 := Lib.hid (fun w ht => dneg_ok nb cb (SB : Int) fb w ht)
      have hq' : q = o := by omega
      have hp' : p = -o := by omega
      subst hq' hp'
      have hinj := form_inj hSA hSB a3 a4 b3 b4
      have hparts : (q = 0 ∧ na = nb ∧ ca = cb ∧ SA = SB) ∨ ((q = -1 ∨ q = 1) ∧ ¬ (na = nb ∧ ca = cb ∧ SA = SB)) := by
        rcases ho with ⟨k, h⟩ | ⟨k, h⟩ | ⟨k, h⟩
        · exact .inr ⟨.inl h, fun e => by rw [e.1, e.2.1, e.2.2] at k; omega⟩
        · exact .inl ⟨h, hinj k⟩
        · exact .inr ⟨.inr h, fun e => by rw [e.1, e.2.1, e.2.2] at k; omega⟩
      obtain ⟨fna, hfna⟩ : ∃ x, x = flip na ca := ⟨_, rfl⟩
      obtain ⟨fnb, hfnb⟩ : ∃ x, x = flip nb cb := ⟨_, rfl⟩
      rw [← hfna] at H3 h5
      rw [← hfnb] at H4 h5
      have hw : IntKind.i64.wrap (-q) = -q := IntWalk.i64_in _ (by omega)
      have hrest := orders_rest na nb nc ca cb cc SA SB sc fa fb hc q ho
      have hcheck : (q = 0 ∧ na = nb ∧ ca = cb ∧ SA = SB) ∨ ((q = -1 ∨ q = 1) ∧ ((na == nb) = false ∨ ((na == nb) = true ∧ (((((hi ca : Nat) : Int) == ((hi cb : Nat) : Int)) = false) ∨ (((((hi ca : Nat) : Int) == ((hi cb : Nat) : Int)) = true) ∧ (((((lo ca : Nat) : Int) == ((lo cb : Nat) : Int)) = false) ∨ (((((lo ca : Nat) : Int) == ((lo cb : Nat) : Int)) = true) ∧ ((SA : Int) == (SB : Int)) = false))))))) := by
        rcases hparts with h | ⟨h, h'⟩
        · exact .inl h
        · exact .inr ⟨h, parts_ne h'⟩
      have H1 := Lib.hid h1; have H2 := Lib.hid h2; have H5 := Lib.hid h5; have HP := Lib.hid hcheck; have HR := Lib.hid hrest
      clear h1 h2 h5 hp hq ho hinj hparts hcheck hrest hfna hfnb ht ha hb hc _za _zb _zc hSA hca a3 a4 hSB hcb b3 b4 fa fb FC
      go_enter Tryd.func5, Tryd.ntmps5
      go_upto_region 10 with (first
        | (go_at_call 8; ((with_reducible refine (knownD _ (HT.out _ (by (repeat' (first | (with_reducible exact Below.refl _ _) | (with_reducible assumption) | (with_reducible refine Below.alloc ?_ ?_ _) | (with_reducible refine below_drewN ?_ _) | (with_reducible refine below_drew ?_) | (with_reducible refine below_ext ?_ ?_ _ _) | (with_reducible refine Below.setCell ?_ ?_ _) | (simp; done) | (simp; omega) | omega))))).mono ?_); rintro e w1 ⟨rfl, hb1⟩; obtain ⟨osA, dA, rfl⟩ := ext_of_below hb1; clear hb1))
        | (go_at_call 19; ((with_reducible refine (H1.out _ (HT.out _ (by (repeat' (first | (with_reducible exact Below.refl _ _) | (with_reducible assumption) | (with_reducible refine Below.alloc ?_ ?_ _) | (with_reducible refine below_drewN ?_ _) | (with_reducible refine below_drew ?_) | (with_reducible refine below_ext ?_ ?_ _ _) | (with_reducible refine Below.setCell ?_ ?_ _) | (simp; done) | (simp; omega) | omega))))).mono ?_); rintro e w1 ⟨rfl, hb1⟩; obtain ⟨osB, dB, rfl⟩ := ext_of_below hb1; clear hb1))
        | (go_at_call 20; ((with_reducible refine (FA.out _).mono ?_); rintro e w1 ⟨rfl, hb1⟩; obtain ⟨osC, dC, rfl⟩ := ext_of_below hb1; clear hb1))
        | (go_at_call 20; ((with_reducible refine (FB.out _).mono ?_); rintro e w1 ⟨rfl, hb1⟩; obtain ⟨osD, dD, rfl⟩ := ext_of_below hb1; clear hb1))
        | (go_at_call 19; ((with_reducible refine (H2.out _ (HT.out _ (by (repeat' (first | (with_reducible exact Below.refl _ _) | (with_reducible assumption) | (with_reducible refine Below.alloc ?_ ?_ _) | (with_reducible refine below_drewN ?_ _) | (with_reducible refine below_drew ?_) | (with_reducible refine below_ext ?_ ?_ _ _) | (with_reducible refine Below.setCell ?_ ?_ _) | (simp; done) | (simp; omega) | omega))))).mono ?_); rintro e w1 ⟨rfl, hb1⟩; obtain ⟨osE, dE, rfl⟩ := ext_of_below hb1; clear hb1))
        | (go_at_call 21; ((with_reducible refine (H3.out _ (HT.out _ (by (repeat' (first | (with_reducible exact Below.refl _ _) | (with_reducible assumption) | (with_reducible refine Below.alloc ?_ ?_ _) | (with_reducible refine below_drewN ?_ _) | (with_reducible refine below_drew ?_) | (with_reducible refine below_ext ?_ ?_ _ _) | (with_reducible refine Below.setCell ?_ ?_ _) | (simp; done) | (simp; omega) | omega))))).mono ?_); rintro e w1 ⟨rfl, hb1⟩; obtain ⟨osF, dF, rfl⟩ := ext_of_below hb1; clear hb1))
        | (go_at_call 21; ((with_reducible refine (H4.out _ (HT.out _ (by (repeat' (first | (with_reducible exact Below.refl _ _) | (with_reducible assumption) | (with_reducible refine Below.alloc ?_ ?_ _) | (with_reducible refine below_drewN ?_ _) | (with_reducible refine below_drew ?_) | (with_reducible refine below_ext ?_ ?_ _ _) | (with_reducible refine Below.setCell ?_ ?_ _) | (simp; done) | (simp; omega) | omega))))).mono ?_); rintro e w1 ⟨rfl, hb1⟩; obtain ⟨osG, dG, rfl⟩ := ext_of_below hb1; clear hb1))
        | (go_at_call 19; ((with_reducible refine (H5.out _ (HT.out _ (by (repeat' (first | (with_reducible exact Below.refl _ _) | (with_reducible assumption) | (with_reducible refine Below.alloc ?_ ?_ _) | (with_reducible refine below_drewN ?_ _) | (with_reducible refine below_drew ?_) | (with_reducible refine below_ext ?_ ?_ _ _) | (with_reducible refine Below.setCell ?_ ?_ _) | (simp; done) | (simp; omega) | omega))))).mono ?_); rintro e w1 ⟨rfl, hb1⟩; obtain ⟨osH, dH, rfl⟩ := ext_of_below hb1; clear hb1)))
      go_cut [100] (fun sx wx => sx = .bool false ∧ wx = (ext ((ext ((ext (ext (ext (ext (ext (ext (((w.alloc (.cells #[.bool na, .int .u64 (hi ca : Int), .int .u64 (lo ca : Int), .int .i64 (SA : Int)] 26)).alloc (.cells #[.bool nb, .int .u64 (hi cb : Int), .int .u64 (lo cb : Int), .int .i64 (SB : Int)] 26)).alloc (.cells #[.bool nc, .int .u64 (hi cc : Int), .int .u64 (lo cc : Int), .int .i64 sc] 26)) osA dA) osB dB) osC dC) osD dD) osE dE) osF dF).alloc (.cells #[.bool fna, .int .u64 (hi ca : Int), .int .u64 (lo ca : Int), .int .i64 (SA : Int)] 26)) osG dG).alloc (.cells #[.bool fnb, .int .u64 (hi cb : Int), .int .u64 (lo cb : Int), .int .i64 (SB : Int)] 26)) osH dH))
      case first =>
        rcases HP.out with ⟨rfl, rfl, rfl, rfl⟩ | ⟨hq, hne⟩
        · clear HP HR
          go_wp2_with fail
          go_meet
          exact ⟨rfl, rfl⟩
        · clear HP HR
          rcases hq with rfl | rfl
          all_goals
            rcases hne with n1 | ⟨n1, n2 | ⟨n2, n3 | ⟨n3, n4⟩⟩⟩
            all_goals
              go_wp2_with fail
              go_meet
              exact ⟨rfl, rfl⟩
      case rest =>
        obtain ⟨rfl, rfl⟩ := hcut
        rcases HR.out with hf | ⟨hf, n1, c1, s1, e1, n2, c2, s2, e2, h6, h7, hcase⟩
        · have FC := Lib.hid hf
          clear hf HP HR
          go_wp2_with (first
            | (go_at_call 20; ((with_reducible refine (FC.out _).mono ?_); rintro e w1 ⟨rfl, hb1⟩; obtain ⟨osI, dI, rfl⟩ := ext_of_below hb1; clear hb1)))
          go_ret
          exact ⟨rfl, by (repeat' (first | (with_reducible exact Below.refl _ _) | (with_reducible assumption) | (with_reducible refine Below.alloc ?_ ?_ _) | (with_reducible refine below_drewN ?_ _) | (with_reducible refine below_drew ?_) | (with_reducible refine below_ext ?_ ?_ _ _) | (with_reducible refine Below.setCell ?_ ?_ _) | (simp; done) | (simp; omega) | omega))⟩
        · have FC := Lib.hid hf; have H6 := Lib.hid h6; have H7 := Lib.hid h7
          clear hf h6 h7 HP HR
          rcases hcase with ⟨rfl, rfl⟩ | ⟨rfl, rfl⟩ | ⟨rfl, rfl⟩ | ⟨rfl, rfl, s, h8, hs⟩
          · skip
            go_wp2_with (first
              | (go_at_call 20; ((with_reducible refine (FC.out _).mono ?_); rintro e w1 ⟨rfl, hb1⟩; obtain ⟨osI, dI, rfl⟩ := ext_of_below hb1; clear hb1))
              | (go_at_call 22; ((with_reducible refine (H6.out _ (HT.out _ (by (repeat' (first | (with_reducible exact Below.refl _ _) | (with_reducible assumption) | (with_reducible refine Below.alloc ?_ ?_ _) | (with_reducible refine below_drewN ?_ _) | (with_reducible refine below_drew ?_) | (with_reducible refine below_ext ?_ ?_ _ _) | (with_reducible refine Below.setCell ?_ ?_ _) | (simp; done) | (simp; omega) | omega))))).mono ?_); rintro e w1 ⟨rfl, hb1⟩; obtain ⟨osJ, dJ, rfl⟩ := ext_of_below hb1; clear hb1))
              | (go_at_call 22; ((with_reducible refine (H7.out _ (HT.out _ (by (repeat' (first | (with_reducible exact Below.refl _ _) | (with_reducible assumption) | (with_reducible refine Below.alloc ?_ ?_ _) | (with_reducible refine below_drewN ?_ _) | (with_reducible refine below_drew ?_) | (with_reducible refine below_ext ?_ ?_ _ _) | (with_reducible refine Below.setCell ?_ ?_ _) | (simp; done) | (simp; omega) | omega))))).mono ?_); rintro e w1 ⟨rfl, hb1⟩; obtain ⟨osK, dK, rfl⟩ := ext_of_below hb1; clear hb1)))
            go_ret
            exact ⟨rfl, by (repeat' (first | (with_reducible exact Below.refl _ _) | (with_reducible assumption) | (with_reducible refine Below.alloc ?_ ?_ _) | (with_reducible refine below_drewN ?_ _) | (with_reducible refine below_drew ?_) | (with_reducible refine below_ext ?_ ?_ _ _) | (with_reducible refine Below.setCell ?_ ?_ _) | (simp; done) | (simp; omega) | omega))⟩
          · skip
            go_wp2_with (first
              | (go_at_call 20; ((with_reducible refine (FC.out _).mono ?_); rintro e w1 ⟨rfl, hb1⟩; obtain ⟨osI, dI, rfl⟩ := ext_of_below hb1; clear hb1))
              | (go_at_call 22; ((with_reducible refine (H6.out _ (HT.out _ (by (repeat' (first | (with_reducible exact Below.refl _ _) | (with_reducible assumption) | (with_reducible refine Below.alloc ?_ ?_ _) | (with_reducible refine below_drewN ?_ _) | (with_reducible refine below_drew ?_) | (with_reducible refine below_ext ?_ ?_ _ _) | (with_reducible refine Below.setCell ?_ ?_ _) | (simp; done) | (simp; omega) | omega))))).mono ?_); rintro e w1 ⟨rfl, hb1⟩; obtain ⟨osJ, dJ, rfl⟩ := ext_of_below hb1; clear hb1))
              | (go_at_call 22; ((with_reducible refine (H7.out _ (HT.out _ (by (repeat' (first | (with_reducible exact Below.refl _ _) | (with_reducible assumption) | (with_reducible refine Below.alloc ?_ ?_ _) | (with_reducible refine below_drewN ?_ _) | (with_reducible refine below_drew ?_) | (with_reducible refine below_ext ?_ ?_ _ _) | (with_reducible refine Below.setCell ?_ ?_ _) | (simp; done) | (simp; omega) | omega))))).mono ?_); rintro e w1 ⟨rfl, hb1⟩; obtain ⟨osK, dK, rfl⟩ := ext_of_below hb1; clear hb1)))
            go_ret
            exact ⟨rfl, by (repeat' (first | (with_reducible exact Below.refl _ _) | (with_reducible assumption) | (with_reducible refine Below.alloc ?_ ?_ _) | (with_reducible refine below_drewN ?_ _) | (with_reducible refine below_drew ?_) | (with_reducible refine below_ext ?_ ?_ _ _) | (with_reducible refine Below.setCell ?_ ?_ _) | (simp; done) | (simp; omega) | omega))⟩
          · skip
            go_wp2_with (first
              | (go_at_call 20; ((with_reducible refine (FC.out _).mono ?_); rintro e w1 ⟨rfl, hb1⟩; obtain ⟨osI, dI, rfl⟩ := ext_of_below hb1; clear hb1))
              | (go_at_call 22; ((with_reducible refine (H6.out _ (HT.out _ (by (repeat' (first | (with_reducible exact Below.refl _ _) | (with_reducible assumption) | (with_reducible refine Below.alloc ?_ ?_ _) | (with_reducible refine below_drewN ?_ _) | (with_reducible refine below_drew ?_) | (with_reducible refine below_ext ?_ ?_ _ _) | (with_reducible refine Below.setCell ?_ ?_ _) | (simp; done) | (simp; omega) | omega))))).mono ?_); rintro e w1 ⟨rfl, hb1⟩; obtain ⟨osJ, dJ, rfl⟩ := ext_of_below hb1; clear hb1))
              | (go_at_call 22; ((with_reducible refine (H7.out _ (HT.out _ (by (repeat' (first | (with_reducible exact Below.refl _ _) | (with_reducible assumption) | (with_reducible refine Below.alloc ?_ ?_ _) | (with_reducible refine below_drewN ?_ _) | (with_reducible refine below_drew ?_) | (with_reducible refine below_ext ?_ ?_ _ _) | (with_reducible refine Below.setCell ?_ ?_ _) | (simp; done) | (simp; omega) | omega))))).mono ?_); rintro e w1 ⟨rfl, hb1⟩; obtain ⟨osK, dK, rfl⟩ := ext_of_below hb1; clear hb1)))
            go_ret
            exact ⟨rfl, by (repeat' (first | (with_reducible exact Below.refl _ _) | (with_reducible assumption) | (with_reducible refine Below.alloc ?_ ?_ _) | (with_reducible refine below_drewN ?_ _) | (with_reducible refine below_drew ?_) | (with_reducible refine below_ext ?_ ?_ _ _) | (with_reducible refine Below.setCell ?_ ?_ _) | (simp; done) | (simp; omega) | omega))⟩
          · have H8 := Lib.hid h8
            clear h8
            rcases hs with rfl | ⟨hs, rfl⟩
            all_goals
              go_wp2_with (first
                | (go_at_call 20; ((with_reducible refine (FC.out _).mono ?_); rintro e w1 ⟨rfl, hb1⟩; obtain ⟨osI, dI, rfl⟩ := ext_of_below hb1; clear hb1))
                | (go_at_call 22; ((with_reducible refine (H6.out _ (HT.out _ (by (repeat' (first | (with_reducible exact Below.refl _ _) | (with_reducible assumption) | (with_reducible refine Below.alloc ?_ ?_ _) | (with_reducible refine below_drewN ?_ _) | (with_reducible refine below_drew ?_) | (with_reducible refine below_ext ?_ ?_ _ _) | (with_reducible refine Below.setCell ?_ ?_ _) | (simp; done) | (simp; omega) | omega))))).mono ?_); rintro e w1 ⟨rfl, hb1⟩; obtain ⟨osJ, dJ, rfl⟩ := ext_of_below hb1; clear hb1))
                | (go_at_call 22; ((with_reducible refine (H7.out _ (HT.out _ (by (repeat' (first | (with_reducible exact Below.refl _ _) | (with_reducible assumption) | (with_reducible refine Below.alloc ?_ ?_ _) | (with_reducible refine below_drewN ?_ _) | (with_reducible refine below_drew ?_) | (with_reducible refine below_ext ?_ ?_ _ _) | (with_reducible refine Below.setCell ?_ ?_ _) | (simp; done) | (simp; omega) | omega))))).mono ?_); rintro e w1 ⟨rfl, hb1⟩; obtain ⟨osK, dK, rfl⟩ := ext_of_below hb1; clear hb1))
                | (go_at_call 19; ((with_reducible refine (H8.out _ (HT.out _ (by (repeat' (first | (with_reducible exact Below.refl _ _) | (with_reducible assumption) | (with_reducible refine Below.alloc ?_ ?_ _) | (with_reducible refine below_drewN ?_ _) | (with_reducible refine below_drew ?_) | (with_reducible refine below_ext ?_ ?_ _ _) | (with_reducible refine Below.setCell ?_ ?_ _) | (simp; done) | (simp; omega) | omega))))).mono ?_); rintro e w1 ⟨rfl, hb1⟩; obtain ⟨osL, dL, rfl⟩ := ext_of_below hb1; clear hb1)))
              go_ret
              exact ⟨rfl, by (repeat' (first | (with_reducible exact Below.refl _ _) | (with_reducible assumption) | (with_reducible refine Below.alloc ?_ ?_ _) | (with_reducible refine below_drewN ?_ _) | (with_reducible refine below_drew ?_) | (with_reducible refine below_ext ?_ ?_ _ _) | (with_reducible refine Below.setCell ?_ ?_ _) | (simp; done) | (simp; omega) | omega))⟩
end Go.Proofs.YtcnkcfbodpkllaaDoor
