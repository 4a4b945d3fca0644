/-
  CheckTests: the law.
-/
import Derived.Test.YtalahkincccffaaGreatDoorTyrT
import Derived.Deep.RegionHeld
namespace Go.Proofs.YtalahkincccffaaGreatDoor
open Go.ChangeShapes Go.WideShapes Go.ChangeAt Go.RowKit Go.Joins Go.Deep Num Word Txt
attribute [local go_sem] setCell_drewN cell?_ext frozen?_ext shape?_ext setCell_ext lt_1' ne_1' en_1' le_1' lt_2' ne_2' en_2' le_2' lt_3' ne_3' en_3' le_3' lt_4' ne_4' en_4' le_4' lt_5' ne_5' en_5' le_5' lt_6' ne_6' en_6' le_6' lt_7' ne_7' en_7' le_7' lt_8' ne_8' en_8' le_8' lt_9' ne_9' en_9' le_9' lt_10' ne_10' en_10' le_10' lt_11' ne_11' en_11' le_11' lt_12' ne_12' en_12' le_12'

section
variable {H : Type} {enc : TypeId × Value → H} {w : World} {base : Nat} {spare : Nat → Bool} {held : Bool}
set_option maxRecDepth 100000 in
theorem open_typeT {r : Reach} {b0 : Nat} {v : Value} {d : DataW H} {p : List MemPlace} (hv : Value.okWide Tryz.prog w r b0 26 v) (h : DataW.Trod enc Tryz.prog w base spare held 26 v d p) :
    ∃ k o, v = TyV (k, o) ∧ d = .agg [.lit (.int .i64 k), .lit (.int .i64 o)] ∧ p = [] ∧ (Lit.int .i64 k).wf = true ∧ (Lit.int .i64 o).wf = true := by
  obtain ⟨cs, rfl, hsz⟩ := okWide_struct Tryz.underlying26 hv
  have hsz2 : cs.size = 2 := hsz.trans icType
  obtain ⟨c0, c1, rfl⟩ : ∃ c0 c1, cs = #[c0, c1] := ⟨cs[0], cs[1], by apply Array.ext <;> simp [hsz2]; intro i h1 h2; match i, h2 with | 0, _ => rfl | 1, _ => rfl⟩
  obtain ⟨fuel, hf⟩ := h
  obtain ⟨y0, y1, m, hx, _, h0, h1⟩ := trod_struct2 Tryz.underlying26 hf
  simp only [Value.cells, icInt] at h0 h1
  obtain ⟨x0, e0, rfl, k0⟩ := DataW.trod_int Tryz.underlying3 h0
  obtain ⟨x1, e1, rfl, k1⟩ := DataW.trod_int Tryz.underlying3 h1
  simp at e0 e1
  subst e0 e1
  simp only [Prod.mk.injEq] at hx
  obtain ⟨rfl, rfl⟩ := hx
  exact ⟨x0, x1, rfl, rfl, rfl, k0, k1⟩
end

set_option maxRecDepth 100000 in
set_option maxHeartbeats 8000000 in
theorem rdoctests_any (l : List NdD) (t : Ty) (sy : List SyD) (n : Nat) (w : World) (v vs : Value) (hv : RL 8 ndE n w v l) (hs : RL 3 syE n w vs sy) (hn : n ≤ w.heap.size) (hwf : ∀ x ∈ l, x.Wf) (hts : ∀ x ∈ l, x.t.size ≤ 1048576) :
    Calls Tryz.prog 9 #[v, TyV t, vs] w fun e w' => e = .returned (.int .i64 (tsR l t sy)) ∧ Below w.heap.size w w' := by
  have HC := Lib.hid (fun w' (hb : Below w.heap.size w w') => dcheck_any l true n w' v (hv.keep (hb.mono hn)) (Nat.le_trans hn hb.size) hwf hts)
  have HN := Lib.hid (fun w' (hb : Below w.heap.size w w') => rnames_any sy n w' vs (hs.keep (hb.mono hn)) (Nat.le_trans hn hb.size))
  have HF := Lib.hid (fun w => kdform_any t.1 t.2 w)
  by_cases hE : docE l true = 0
  · rw [hE] at HC
    by_cases hN : namM sy = 0
    · rw [hN] at HN
      by_cases hfm : tform t.1 t.2 = true
      · have HX := Lib.hid (show ∀ w', Below w.heap.size w w' → Calls Tryz.prog 19 #[v, .agg #[.int .i64 t.1, .int .i64 t.2], vs] w' fun e w'' => e = .returned (.int .i64 (tsR l t sy)) ∧ Below w'.heap.size w' w'' from fun w' hb => rtests_any l t hfm sy hE hN n w' v vs (hv.keep (hb.mono hn)) (hs.keep (hb.mono hn)) (Nat.le_trans hn hb.size))
        rw [hfm] at HF
        generalize tsR l t sy = R at HX ⊢
        obtain ⟨t1, t2⟩ := t
        simp only at HX
        obtain ⟨p, c, rfl, -⟩ := hv
        obtain ⟨sp, sc, rfl, -⟩ := hs
        generalize l.length = len at HC HX ⊢
        generalize sy.length = sl at HN HX ⊢
        clear hwf hts hE hN hn hfm
        go_enter Tryz.func9, Tryz.ntmps9
        go_wp2_with (first
          | (go_at_call 10; ((with_reducible refine (HC.out _ (by (repeat' (first | (with_reducible first | exact Below.refl _ _ | assumption | refine Below.alloc ?_ ?_ _ | refine below_drewN ?_ _ | refine below_drew ?_ | refine below_ext ?_ ?_ _ _ | refine Below.setCell ?_ ?_ _) | (simp; done) | (simp; omega) | omega)))).mono ?_); rintro e w1 ⟨rfl, hb1⟩; obtain ⟨osA, dA, rfl⟩ := ext_of_below hb1; clear hb1))
          | (go_at_call 11; ((with_reducible refine (HN.out _ (by (repeat' (first | (with_reducible first | exact Below.refl _ _ | assumption | refine Below.alloc ?_ ?_ _ | refine below_drewN ?_ _ | refine below_drew ?_ | refine below_ext ?_ ?_ _ _ | refine Below.setCell ?_ ?_ _) | (simp; done) | (simp; omega) | omega)))).mono ?_); rintro e w1 ⟨rfl, hb1⟩; obtain ⟨osB, dB, rfl⟩ := ext_of_below hb1; clear hb1))
          | (go_at_call 18; ((with_reducible refine (HF.out _).mono ?_); rintro e w1 ⟨rfl, hb1⟩; obtain ⟨osF, dF, rfl⟩ := ext_of_below hb1; clear hb1))
          | (go_at_call 19; ((with_reducible refine (HX.out _ (by (repeat' (first | (with_reducible first | exact Below.refl _ _ | assumption | refine Below.alloc ?_ ?_ _ | refine below_drewN ?_ _ | refine below_drew ?_ | refine below_ext ?_ ?_ _ _ | refine Below.setCell ?_ ?_ _) | (simp; done) | (simp; omega) | omega)))).mono ?_); rintro e w1 ⟨rfl, hb1⟩; obtain ⟨osC, dC, rfl⟩ := ext_of_below hb1; clear hb1)))
        go_ret
        exact ⟨rfl, by (repeat' (first | (with_reducible first | exact Below.refl _ _ | assumption | refine Below.alloc ?_ ?_ _ | refine below_drewN ?_ _ | refine below_drew ?_ | refine below_ext ?_ ?_ _ _ | refine Below.setCell ?_ ?_ _) | (simp; done) | (simp; omega) | omega))⟩
      · have hff : tform t.1 t.2 = false := by simpa using hfm
        have hres : tsR l t sy = 2 := by
          unfold tsR
          rw [if_neg (by simp [hE]), if_neg (by simp [hN]), if_pos hff]
        rw [hres]
        rw [hff] at HF
        obtain ⟨t1, t2⟩ := t
        obtain ⟨p, c, rfl, -⟩ := hv
        obtain ⟨sp, sc, rfl, -⟩ := hs
        generalize l.length = len at HC ⊢
        generalize sy.length = sl at HN ⊢
        clear hres hwf hts hE hN hn hfm hff
        go_enter Tryz.func9, Tryz.ntmps9
        go_wp2_with (first
          | (go_at_call 10; ((with_reducible refine (HC.out _ (by (repeat' (first | (with_reducible first | exact Below.refl _ _ | assumption | refine Below.alloc ?_ ?_ _ | refine below_drewN ?_ _ | refine below_drew ?_ | refine below_ext ?_ ?_ _ _ | refine Below.setCell ?_ ?_ _) | (simp; done) | (simp; omega) | omega)))).mono ?_); rintro e w1 ⟨rfl, hb1⟩; obtain ⟨osA, dA, rfl⟩ := ext_of_below hb1; clear hb1))
          | (go_at_call 11; ((with_reducible refine (HN.out _ (by (repeat' (first | (with_reducible first | exact Below.refl _ _ | assumption | refine Below.alloc ?_ ?_ _ | refine below_drewN ?_ _ | refine below_drew ?_ | refine below_ext ?_ ?_ _ _ | refine Below.setCell ?_ ?_ _) | (simp; done) | (simp; omega) | omega)))).mono ?_); rintro e w1 ⟨rfl, hb1⟩; obtain ⟨osB, dB, rfl⟩ := ext_of_below hb1; clear hb1))
          | (go_at_call 18; ((with_reducible refine (HF.out _).mono ?_); rintro e w1 ⟨rfl, hb1⟩; obtain ⟨osF, dF, rfl⟩ := ext_of_below hb1; clear hb1)))
        go_ret
        exact ⟨rfl, by (repeat' (first | (with_reducible first | exact Below.refl _ _ | assumption | refine Below.alloc ?_ ?_ _ | refine below_drewN ?_ _ | refine below_drew ?_ | refine below_ext ?_ ?_ _ _ | refine Below.setCell ?_ ?_ _) | (simp; done) | (simp; omega) | omega))⟩
    · have hres : tsR l t sy = namM sy := by
        unfold tsR
        rw [if_neg (by simp [hE]), if_pos hN]
      rw [hres]
      generalize namM sy = er at HN hN ⊢
      obtain ⟨t1, t2⟩ := t
      obtain ⟨p, c, rfl, -⟩ := hv
      obtain ⟨sp, sc, rfl, -⟩ := hs
      have qe : (er == 0) = false := beq_eq_false_iff_ne.2 hN
      generalize l.length = len at HC ⊢
      generalize sy.length = sl at HN ⊢
      clear hres hwf hts hE hN hn HF
      go_enter Tryz.func9, Tryz.ntmps9
      go_wp2_with (first
        | (go_at_call 10; ((with_reducible refine (HC.out _ (by (repeat' (first | (with_reducible first | exact Below.refl _ _ | assumption | refine Below.alloc ?_ ?_ _ | refine below_drewN ?_ _ | refine below_drew ?_ | refine below_ext ?_ ?_ _ _ | refine Below.setCell ?_ ?_ _) | (simp; done) | (simp; omega) | omega)))).mono ?_); rintro e w1 ⟨rfl, hb1⟩; obtain ⟨osA, dA, rfl⟩ := ext_of_below hb1; clear hb1))
        | (go_at_call 11; ((with_reducible refine (HN.out _ (by (repeat' (first | (with_reducible first | exact Below.refl _ _ | assumption | refine Below.alloc ?_ ?_ _ | refine below_drewN ?_ _ | refine below_drew ?_ | refine below_ext ?_ ?_ _ _ | refine Below.setCell ?_ ?_ _) | (simp; done) | (simp; omega) | omega)))).mono ?_); rintro e w1 ⟨rfl, hb1⟩; obtain ⟨osB, dB, rfl⟩ := ext_of_below hb1; clear hb1)))
      go_ret
      exact ⟨rfl, by (repeat' (first | (with_reducible first | exact Below.refl _ _ | assumption | refine Below.alloc ?_ ?_ _ | refine below_drewN ?_ _ | refine below_drew ?_ | refine below_ext ?_ ?_ _ _ | refine Below.setCell ?_ ?_ _) | (simp; done) | (simp; omega) | omega))⟩
  · have hres : tsR l t sy = docE l true := by
      unfold tsR
      rw [if_pos hE]
    rw [hres]
    generalize docE l true = er at HC hE ⊢
    obtain ⟨t1, t2⟩ := t
    obtain ⟨p, c, rfl, -⟩ := hv
    obtain ⟨sp, sc, rfl, -⟩ := hs
    have qe : (er == 0) = false := beq_eq_false_iff_ne.2 hE
    generalize l.length = len at HC ⊢
    generalize sy.length = sl at HN ⊢
    clear hres hwf hts hE hn HN HF
    go_enter Tryz.func9, Tryz.ntmps9
    go_wp2_with (first
      | (go_at_call 10; ((with_reducible refine (HC.out _ (by (repeat' (first | (with_reducible first | exact Below.refl _ _ | assumption | refine Below.alloc ?_ ?_ _ | refine below_drewN ?_ _ | refine below_drew ?_ | refine below_ext ?_ ?_ _ _ | refine Below.setCell ?_ ?_ _) | (simp; done) | (simp; omega) | omega)))).mono ?_); rintro e w1 ⟨rfl, hb1⟩; obtain ⟨osA, dA, rfl⟩ := ext_of_below hb1; clear hb1)))
    go_ret
    exact ⟨rfl, by (repeat' (first | (with_reducible first | exact Below.refl _ _ | assumption | refine Below.alloc ?_ ?_ _ | refine below_drewN ?_ _ | refine below_drew ?_ | refine below_ext ?_ ?_ _ _ | refine Below.setCell ?_ ?_ _) | (simp; done) | (simp; omega) | omega))⟩
set_option maxRecDepth 100000 in
set_option maxHeartbeats 4000000 in
theorem checkTests_law (l : List NdD) (t : Ty) (sy : List SyD) (n : Nat) (w : World) (v vs : Value) (hv : RL 8 ndE n w v l) (hs : RL 3 syE n w vs sy) (hn : n ≤ w.heap.size) (hwf : ∀ x ∈ l, x.Wf) (hts : ∀ x ∈ l, x.t.size ≤ 1048576) (hsz : ∀ x ∈ sy, x.s.size ≤ 1048576) (hG : TyG w) (hT : Tens w) (hU : Tabs w) :
    Calls Tryz.prog 4 #[v, TyV t, vs] w fun e w' => e = .returned (.bool true) ∧ Below w.heap.size w w' := by
  have HK := Lib.hid (fun w' (hb : Below w.heap.size w w') => chkknown_any w' (hG.below hb) (hT.below hb) (hU.below hb))
  have HD := Lib.hid (show ∀ w', Below w.heap.size w w' → Calls Tryz.prog 9 #[v, .agg #[.int .i64 t.1, .int .i64 t.2], vs] w' fun e w'' => e = .returned (.int .i64 (tsR l t sy)) ∧ Below w'.heap.size w' w'' from fun w' hb => rdoctests_any l t sy n w' v vs (hv.keep (hb.mono hn)) (hs.keep (hb.mono hn)) (Nat.le_trans hn hb.size) hwf hts)
  have HC := Lib.hid (show ∀ w', Below w.heap.size w w' → Calls Tryz.prog 8 #[v, .agg #[.int .i64 t.1, .int .i64 t.2], vs] w' fun e w'' => e = .returned (.int .i64 (tsR l t sy)) ∧ Below w'.heap.size w' w'' from fun w' hb => ctests_any l t sy n w' v vs (hv.keep (hb.mono hn)) (hs.keep (hb.mono hn)) (Nat.le_trans hn hb.size) hwf hsz (hT.below hb) (hU.below hb) (hG.below hb))
  generalize tsR l t sy = er at HD HC
  obtain ⟨t1, t2⟩ := t
  simp only at HD HC
  have HB0 := Lib.hid (show ∀ W, Below (w.heap.size + 1) (w.alloc (.cells #[.int .i64 t1, .int .i64 t2] 26)) W → W.cell? ⟨w.heap.size, 0, none⟩ = some (.int .i64 t1) ∧ W.cell? ⟨w.heap.size, 1, none⟩ = some (.int .i64 t2) from fun W hb => ⟨(hb.cell (p := ⟨w.heap.size, _, none⟩) (Nat.lt_succ_self _)).trans (by simp [go_sem]), (hb.cell (p := ⟨w.heap.size, _, none⟩) (Nat.lt_succ_self _)).trans (by simp [go_sem])⟩)
  obtain ⟨p, c, rfl, -⟩ := hv
  obtain ⟨sp, sc, rfl, -⟩ := hs
  generalize l.length = len at HD HC ⊢
  generalize sy.length = sl at HD HC ⊢
  clear hwf hts hsz hG hT hU hn
  go_enter Tryz.func4, Tryz.ntmps4
  go_upto_region 1 with fail
  go_region_held3 (fun w' => w'.cell? ⟨w.heap.size, 0, none⟩ = some (.int .i64 t1) ∧ w'.cell? ⟨w.heap.size, 1, none⟩ = some (.int .i64 t2)) (exact HB0.out _ (by (repeat' (first | (with_reducible first | exact Below.refl _ _ | assumption | refine Below.alloc ?_ ?_ _ | refine below_drewN ?_ _ | refine below_drew ?_ | refine below_ext ?_ ?_ _ _ | refine Below.setCell ?_ ?_ _) | (simp; done) | (simp; omega) | omega)))) (first
    | (go_at_call 5; ((with_reducible refine (HK.out _ (by (repeat' (first | (with_reducible first | exact Below.refl _ _ | assumption | refine Below.alloc ?_ ?_ _ | refine below_drewN ?_ _ | refine below_drew ?_ | refine below_ext ?_ ?_ _ _ | refine Below.setCell ?_ ?_ _) | (simp; done) | (simp; omega) | omega)))).mono ?_); rintro e w1 ⟨rfl, hb1⟩; obtain ⟨osK, dK, rfl⟩ := ext_of_below hb1; clear hb1))
    | (go_at_call 9; ((with_reducible refine (HD.out _ (by (repeat' (first | (with_reducible first | exact Below.refl _ _ | assumption | refine Below.alloc ?_ ?_ _ | refine below_drewN ?_ _ | refine below_drew ?_ | refine below_ext ?_ ?_ _ _ | refine Below.setCell ?_ ?_ _) | (simp; done) | (simp; omega) | omega)))).mono ?_); rintro e w1 ⟨rfl, hb1⟩; obtain ⟨osA, dA, rfl⟩ := ext_of_below hb1; clear hb1))
    | (go_at_call 8; ((with_reducible refine (HC.out _ (by (repeat' (first | (with_reducible first | exact Below.refl _ _ | assumption | refine Below.alloc ?_ ?_ _ | refine below_drewN ?_ _ | refine below_drew ?_ | refine below_ext ?_ ?_ _ _ | refine Below.setCell ?_ ?_ _) | (simp; done) | (simp; omega) | omega)))).mono ?_); rintro e w1 ⟨rfl, hb1⟩; obtain ⟨osB, dB, rfl⟩ := ext_of_below hb1; clear hb1)))
  all_goals
    go_wp2
    go_ret
    exact ⟨rfl, by (repeat' (first | (with_reducible first | exact Below.refl _ _ | assumption | refine Below.alloc ?_ ?_ _ | refine below_drewN ?_ _ | refine below_drew ?_ | refine below_ext ?_ ?_ _ _ | refine Below.setCell ?_ ?_ _) | (simp; done) | (simp; omega) | omega))⟩
end Go.Proofs.YtalahkincccffaaGreatDoor
