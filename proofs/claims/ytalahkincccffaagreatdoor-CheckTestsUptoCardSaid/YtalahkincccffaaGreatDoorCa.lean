/-
  The document's fit: do tests fit a type?
  The document's types of all nodes.
  The document's look at names.
-/
import Derived.Test.YtalahkincccffaaGreatDoorTyrA
import Derived.Test.YtalahkincccffaaGreatDoorTypH
import Derived.Test.YtalahkincccffaaGreatDoorBw
import Derived.Test.YtalahkincccffaaGreatDoorTyrD
import Derived.Test.YtalahkincccffaaGreatDoorTypC
import Derived.Test.YtalahkincccffaaGreatDoorBz
import Derived.Test.YtalahkincccffaaGreatDoorBt
namespace Go.Proofs.YtalahkincccffaaGreatDoor
open Go.RowKit Word Txt
attribute [local go_sem] setCell_drewN cell?_ext frozen?_ext shape?_ext setCell_ext lt_1' ne_1' en_1' le_1' lt_2' ne_2' en_2' le_2' lt_3' ne_3' en_3' le_3' lt_4' ne_4' en_4' le_4' lt_5' ne_5' en_5' le_5' lt_6' ne_6' en_6' le_6' lt_7' ne_7' en_7' le_7' lt_8' ne_8' en_8' le_8' lt_9' ne_9' en_9' le_9' lt_10' ne_10' en_10' le_10' lt_11' ne_11' en_11' le_11' lt_12' ne_12' en_12' le_12'

structure FtW (l : List NdD) (P : List (List Nat)) (T : List Ty) (w : World) (v pv tv : Value) : Prop where
  nd : RL 8 ndE w.heap.size w v l
  pl : WPl w pv P
  ty : RL 2 tpE w.heap.size w tv T
theorem FtW.new {l : List NdD} {P : List (List Nat)} {T : List Ty} {w w' : World} {v pv tv : Value} (h : FtW l P T w v pv tv) (hb : Below w.heap.size w w') : FtW l P T w' v pv tv :=
  ⟨h.nd.up hb, h.pl.new hb, h.ty.up hb⟩
def FtC (l : List NdD) (P : List (List Nat)) (T : List Ty) (n i : Nat) : Prop := ∀ (w : World) (v pv tv : Value) (t : Ty), FtW l P T w v pv tv → FmT t →
  Calls Tryz.prog 35 #[v, pv, tv, .int .i64 (i : Int), TyV t] w fun e w' => e = .returned (.bool (fitD l P T n i t)) ∧ Below w.heap.size w w'
theorem rd_int {P : Nat → Prop} {w : World} {q : Option Addr} {k c : Nat} {ps : List Nat} (h : RdP P w (.slice q k c) ps) {j : Nat} (hj : j < ps.length) : ∃ g o, q = some ⟨g, o, none⟩ ∧ g < w.heap.size ∧ w.cell? ⟨g, o + j, none⟩ = some (.int .i64 (ps[j] : Int)) := by
  obtain ⟨q2, c2, e, hh⟩ := h.form
  injection e with e1 e2 e3
  obtain ⟨-, g, o, e4, h5, h6⟩ := h.cells (by omega)
  exact ⟨g, o, e4, h5, h6 j hj⟩
set_option maxRecDepth 100000 in
set_option maxHeartbeats 16000000 in
theorem fit_step {l : List NdD} {P : List (List Nat)} {T : List Ty} (hl : l.length ≤ 300) (hPl : P.length = l.length) (hTl : T.length = l.length) (hT : ∀ t ∈ T, FmT t) (n i : Nat) (hi : i < l.length) (hk : ∀ p ∈ P.getD i [], p < l.length) (hkl : (P.getD i []).length ≤ 300) (hin : opA l i = 36 ∨ opA l i = 37 → ∀ p ∈ P.getD i [], FtC l P T n p) : FtC l P T (n + 1) i := by
  intro w v pv tv t hw ht
  obtain ⟨p, c, rfl, h2⟩ := id hw.nd
  obtain ⟨g, o, rfl, hg, hc⟩ := h2 (by omega)
  obtain ⟨oa, ka, ta, na, ca, sa, da, he, x0, x1, x2, x3, x4, x5, x6, x7⟩ := nd_cells hc i hi
  have hop : opA l i = oa := by rw [nd_op hi, he]
  obtain ⟨gx, cx, rfl, hpc, hgx, hps⟩ := id hw.pl
  obtain ⟨q, qc, hq1, hq2⟩ := hps i (by omega)
  obtain ⟨tp, tc, rfl, -⟩ := id hw.ty
  have hpi : i < P.length := by omega
  have HW := Lib.hid (fun w' (hb : Below w.heap.size w w') => hw.new hb)
  have HK := Lib.hid hk
  have HTF := Lib.hid (show ∀ p, FmT (tyA T p) from fun p => fm_A hT p)
  have HTY := Lib.hid (show ∀ w', Below w.heap.size w w' → ∀ p, p < l.length → ∃ g o x y, tp = some ⟨g, o, none⟩ ∧ g < w'.heap.size ∧ tyA T p = (x, y) ∧ w'.cell? ⟨g, o + p * 2, none⟩ = some (.int .i64 x) ∧ w'.cell? ⟨g, o + p * 2 + 1, none⟩ = some (.int .i64 y) from fun w' hb p hp => by
    obtain ⟨g, o, x, y, e1, e2, e3, e4, e5⟩ := rl_ty hw.ty hb (i := p) (by omega)
    refine ⟨g, o, x, y, e1, Nat.lt_of_lt_of_le e2 hb.size, ?_, e4, e5⟩
    unfold tyA
    rw [List.getD_eq_getElem?_getD, List.getElem?_eq_getElem (by omega)]
    exact e3)
  have HRD := Lib.hid (show ∀ w', Below w.heap.size w w' → ∀ j (hj : j < (P.getD i []).length), ∃ g o, q = some ⟨g, o, none⟩ ∧ g < w'.heap.size ∧ w'.cell? ⟨g, o + j, none⟩ = some (.int .i64 ((P.getD i [])[j] : Int)) from fun w' hb j hj => by
    obtain ⟨g, o, e1, e2, e3⟩ := rd_int hq2 hj
    exact ⟨g, o, e1, Nat.lt_of_lt_of_le e2 hb.size, (hb.cell (p := ⟨g, _, none⟩) e2).trans e3⟩)
  have HPX := Lib.hid (show ∀ w', Below w.heap.size w w' → w'.cell? ⟨gx, i, none⟩ = some (.slice q (P.getD i []).length qc) from fun w' hb => (hb.cell (p := ⟨gx, _, none⟩) hgx).trans hq1)
  obtain ⟨ps, hpsd⟩ : ∃ ps, ps = P.getD i [] := ⟨_, rfl⟩
  rw [hop] at hin
  rw [← hpsd] at HK HRD HPX hin
  rw [← hpsd] at hkl
  obtain ⟨kn, hkn⟩ : ∃ kn, kn = ps.length := ⟨_, rfl⟩
  rw [← hkn] at hkl
  have HKN := Lib.hid hkn
  rw [← hkn] at HPX
  have hfd : fitD l P T (n + 1) i t = ps.all fun p => if oa = 36 ∨ oa = 37 then fitD l P T n p t else if oa = 30 then meetB t (tyA T p) else ordB t (tyA T p) := by
    rw [hpsd, ← hop]; rfl
  obtain ⟨F, hF⟩ : ∃ F : Nat → Bool, F = fun p => if oa = 36 ∨ oa = 37 then fitD l P T n p t else if oa = 30 then meetB t (tyA T p) else ordB t (tyA T p) := ⟨_, rfl⟩
  have hfd2 : fitD l P T (n + 1) i t = ps.all F := by rw [hfd, hF]
  rw [hfd2]
  obtain ⟨R, hR⟩ : ∃ R, R = ps.all F := ⟨_, rfl⟩
  have HR := Lib.hid hR
  rw [← hR]
  have HFF := Lib.hid hF
  have HIN := Lib.hid hin
  have hil : (i : Int) < (l.length : Int) := by omega
  have hipl : (i : Int) < (P.length : Int) := by omega
  have HLL := Lib.hid (show l.length ≤ 300 ∧ T.length = l.length ∧ P.length = l.length from ⟨hl, hTl, hPl⟩)
  obtain ⟨len, hlen⟩ : ∃ len, len = l.length := ⟨_, rfl⟩
  obtain ⟨pl, hpl⟩ : ∃ pl, pl = P.length := ⟨_, rfl⟩
  obtain ⟨tl, htl⟩ : ∃ tl, tl = T.length := ⟨_, rfl⟩
  have HLP := Lib.hid (show tl = len ∧ len = l.length ∧ tl ≤ 300 ∧ pl = P.length ∧ tl = T.length from ⟨by omega, hlen, by omega, hpl, htl⟩)
  rw [← hlen] at hil
  rw [← hpl] at hipl
  rw [← hlen, ← hpl, ← htl]
  obtain ⟨t1, t2⟩ := t
  have hq0 := HPX.out w (Below.refl _ _)
  generalize (Word.hi ca : Int) = ha at *
  generalize (Word.lo ca : Int) = la at *
  clear h2 hc hop hw he hps hq1 hq2 hpsd hkn hfd hfd2 hF hR hin hlen hpl htl hi hpi hl hPl hTl hT hk hpc
  go_enter Tryz.func35, Tryz.ntmps35
  go_wp2
  go_loopw [12] (fun z wr => ∃ j : Nat, z = .int .i64 j ∧ j ≤ kn ∧ Hid (Below w.heap.size w wr) ∧ w.heap.size + 1 < wr.heap.size ∧ Hid (wr.cell? ⟨w.heap.size, 0, none⟩ = some (.int .i64 t1) ∧ wr.cell? ⟨w.heap.size, 1, none⟩ = some (.int .i64 t2) ∧ wr.cell? ⟨w.heap.size + 1, 0, none⟩ = some (.int .i64 oa)) ∧ Hid ((ps.drop j).all F = R)) (fun z _ => kn - (intOf z).toNat)
  case atStart => exact ⟨0, rfl, Nat.zero_le _, Lib.hid (by (repeat' (first | (with_reducible first | exact Below.refl _ _ | assumption | refine Below.alloc ?_ ?_ _ | refine below_drewN ?_ _ | refine below_drew ?_ | refine below_ext ?_ ?_ _ _ | refine Below.setCell ?_ ?_ _) | (simp; done) | (simp; omega) | omega))), by simp, Lib.hid ⟨by simp [go_sem], by simp [go_sem], by simp [go_sem]⟩, Lib.hid HR.out.symm⟩
  case round =>
    obtain ⟨j, rfl, hj, hbe, hlt, hcs, hro⟩ := hrel
    have hsw := hbe.out.size
    have hlt0 : w.heap.size < wr.heap.size := by omega
    obtain ⟨k0, k1, k2⟩ := hcs.out
    have HCK := Lib.hid (show ∀ w', Below wr.heap.size wr w' → w'.cell? ⟨w.heap.size, 0, none⟩ = some (.int .i64 t1) ∧ w'.cell? ⟨w.heap.size, 1, none⟩ = some (.int .i64 t2) ∧ w'.cell? ⟨w.heap.size + 1, 0, none⟩ = some (.int .i64 oa) from fun w' h => ⟨(h.cell (p := ⟨_, _, none⟩) hlt0).trans k0, (h.cell (p := ⟨_, _, none⟩) hlt0).trans k1, (h.cell (p := ⟨_, _, none⟩) hlt).trans k2⟩)
    have hpx := HPX.out wr hbe.out
    clear hq0
    by_cases hjl : j < kn
    · have hji : (j : Int) < (kn : Int) := by omega
      have hj2 : j < ps.length := by rw [← HKN.out]; exact hjl
      obtain ⟨gq, oq, rfl, hgq, hqc⟩ := HRD.out wr hbe.out j hj2
      obtain ⟨pp, hpp⟩ : ∃ pp, pp = ps[j] := ⟨_, rfl⟩
      rw [← hpp] at hqc
      have hpm : pp ∈ ps := by rw [hpp]; exact List.getElem_mem hj2
      have hpl2 : pp < l.length := HK.out pp hpm
      have hRO : R = (F pp && (ps.drop (j + 1)).all F) := by rw [← hro.out, List.drop_eq_getElem_cons hj2, ← hpp]; rfl
      by_cases h67 : oa = 36 ∨ oa = 37
      · have hFp : F pp = fitD l P T n pp (t1, t2) := by rw [HFF.out]; exact if_pos h67
        have HC := Lib.hid (show ∀ w', Below wr.heap.size wr w' → Calls Tryz.prog 35 #[.slice (some ⟨g, o, none⟩) len c, .slice (some ⟨gx, 0, none⟩) pl cx, .slice tp tl tc, .int .i64 (pp : Int), .agg #[.int .i64 t1, .int .i64 t2]] w' fun e w'' => e = .returned (.bool (F pp)) ∧ Below w'.heap.size w' w'' from fun w' hb => by
          have h9 := HIN.out h67 pp hpm w' _ _ _ (t1, t2) (HW.out w' (hbe.out.trans (hb.mono hsw))) ht
          rw [hFp]
          have hx := HLP.out
          rw [hx.2.1, hx.2.2.2.1, hx.2.2.2.2]
          exact h9)
        have HRO := Lib.hid hRO
        generalize F pp = m at HC HRO
        clear hcs hpp hpm hpl2 hRO hFp hj2 hro
        rcases h67 with rfl | rfl
        all_goals
          cases m with
          | false =>
            have HF := Lib.hid (show R = false by rw [HRO.out]; rfl)
            go_wp2_with (first | (go_at_call 35; ((with_reducible refine (HC.out _ (by (repeat' (first | (with_reducible first | exact Below.refl _ _ | assumption | refine Below.alloc ?_ ?_ _ | refine below_drewN ?_ _ | refine below_drew ?_ | refine below_ext ?_ ?_ _ _ | refine Below.setCell ?_ ?_ _) | (simp; done) | (simp; omega) | omega)))).mono ?_); rintro e w1 ⟨rfl, hb1⟩; obtain ⟨osA, dA, rfl⟩ := ext_of_below hb1; clear hb1)))
            go_ret
            exact ⟨by rw [HF.out]; rfl, hbe.out.trans (show Below w.heap.size wr _ by (repeat' (first | (with_reducible first | exact Below.refl _ _ | assumption | refine Below.alloc ?_ ?_ _ | refine below_drewN ?_ _ | refine below_drew ?_ | refine below_ext ?_ ?_ _ _ | refine Below.setCell ?_ ?_ _) | (simp; done) | (simp; omega) | omega)))⟩
          | true =>
            have HF := Lib.hid (show (ps.drop (j + 1)).all F = R by rw [HRO.out]; rfl)
            go_wp2_with (first | (go_at_call 35; ((with_reducible refine (HC.out _ (by (repeat' (first | (with_reducible first | exact Below.refl _ _ | assumption | refine Below.alloc ?_ ?_ _ | refine below_drewN ?_ _ | refine below_drew ?_ | refine below_ext ?_ ?_ _ _ | refine Below.setCell ?_ ?_ _) | (simp; done) | (simp; omega) | omega)))).mono ?_); rintro e w1 ⟨rfl, hb1⟩; obtain ⟨osA, dA, rfl⟩ := ext_of_below hb1; clear hb1)))
            go_roundw
            case rel => exact ⟨j + 1, by go_num, by omega, Lib.hid (hbe.out.trans (show Below w.heap.size wr _ by (repeat' (first | (with_reducible first | exact Below.refl _ _ | assumption | refine Below.alloc ?_ ?_ _ | refine below_drewN ?_ _ | refine below_drew ?_ | refine below_ext ?_ ?_ _ _ | refine Below.setCell ?_ ?_ _) | (simp; done) | (simp; omega) | omega)))), by (first | (simp; done) | (simp; omega)), Lib.hid (HCK.out _ (by (repeat' (first | (with_reducible first | exact Below.refl _ _ | assumption | refine Below.alloc ?_ ?_ _ | refine below_drewN ?_ _ | refine below_drew ?_ | refine below_ext ?_ ?_ _ _ | refine Below.setCell ?_ ?_ _) | (simp; done) | (simp; omega) | omega)))), HF⟩
            case measure => simp [intOf]; omega
      · obtain ⟨gt, ot, y1, y2, rfl, hgt, hya, d0, d1⟩ := HTY.out wr hbe.out pp hpl2
        have hyf : FmT (y1, y2) := by rw [← hya]; exact HTF.out pp
        have hptl : (pp : Int) < (tl : Int) := by have := HLP.out; omega
        have HKT := Lib.hid (show ∀ w', Below wr.heap.size wr w' → w'.cell? ⟨w.heap.size, 0, none⟩ = some (.int .i64 t1) ∧ w'.cell? ⟨w.heap.size, 1, none⟩ = some (.int .i64 t2) ∧ w'.cell? ⟨gt, ot + pp * 2, none⟩ = some (.int .i64 y1) ∧ w'.cell? ⟨gt, ot + pp * 2 + 1, none⟩ = some (.int .i64 y2) from fun w' h => ⟨(HCK.out w' h).1, (HCK.out w' h).2.1, (h.cell (p := ⟨gt, _, none⟩) hgt).trans d0, (h.cell (p := ⟨gt, _, none⟩) hgt).trans d1⟩)
        have q36 : (oa == 36) = false := beq_eq_false_iff_ne.2 (fun e => h67 (.inl e))
        have q37 : (oa == 37) = false := beq_eq_false_iff_ne.2 (fun e => h67 (.inr e))
        by_cases h30 : oa = 30
        · have hFp : F pp = meetB (t1, t2) (y1, y2) := by rw [HFF.out]; show (if oa = 36 ∨ oa = 37 then _ else if oa = 30 then meetB (t1, t2) (tyA T pp) else _) = _; rw [if_neg h67, if_pos h30, hya]
          have HC := Lib.hid (show ∀ w', Calls Tryz.prog 62 #[.agg #[.int .i64 t1, .int .i64 t2], .agg #[.int .i64 y1, .int .i64 y2]] w' fun e w'' => e = .returned (.bool (F pp)) ∧ Below w'.heap.size w' w'' from fun w' => by rw [hFp]; exact rMeet_any (t1, t2) (y1, y2) ht hyf w')
          have HRO := Lib.hid hRO
          generalize F pp = m at HC HRO
          have q30 : (oa == 30) = true := by rw [h30]; rfl
          clear hcs hpp hpm hpl2 hRO hFp hj2 hro h30 h67 d0 d1 hya hyf
          cases m with
          | false =>
            have HF := Lib.hid (show R = false by rw [HRO.out]; rfl)
            go_upto_region 12 with fail
            go_region_held3 (fun w' => w'.cell? ⟨w.heap.size, 0, none⟩ = some (.int .i64 t1) ∧ w'.cell? ⟨w.heap.size, 1, none⟩ = some (.int .i64 t2) ∧ w'.cell? ⟨gt, ot + pp * 2, none⟩ = some (.int .i64 y1) ∧ w'.cell? ⟨gt, ot + pp * 2 + 1, none⟩ = some (.int .i64 y2)) (exact HKT.out _ (by (repeat' (first | (with_reducible first | exact Below.refl _ _ | assumption | refine Below.alloc ?_ ?_ _ | refine below_drewN ?_ _ | refine below_drew ?_ | refine below_ext ?_ ?_ _ _ | refine Below.setCell ?_ ?_ _) | (simp; done) | (simp; omega) | omega)))) (first | (go_at_call 62; ((with_reducible refine (HC.out _).mono ?_); rintro e w1 ⟨rfl, hb1⟩; obtain ⟨osA, dA, rfl⟩ := ext_of_below hb1; clear hb1)))
            all_goals
              go_wp2
              go_ret
              exact ⟨by rw [HF.out]; rfl, hbe.out.trans (show Below w.heap.size wr _ by (repeat' (first | (with_reducible first | exact Below.refl _ _ | assumption | refine Below.alloc ?_ ?_ _ | refine below_drewN ?_ _ | refine below_drew ?_ | refine below_ext ?_ ?_ _ _ | refine Below.setCell ?_ ?_ _) | (simp; done) | (simp; omega) | omega)))⟩
          | true =>
            have HF := Lib.hid (show (ps.drop (j + 1)).all F = R by rw [HRO.out]; rfl)
            go_upto_region 12 with fail
            go_region_held3 (fun w' => w'.cell? ⟨w.heap.size, 0, none⟩ = some (.int .i64 t1) ∧ w'.cell? ⟨w.heap.size, 1, none⟩ = some (.int .i64 t2) ∧ w'.cell? ⟨gt, ot + pp * 2, none⟩ = some (.int .i64 y1) ∧ w'.cell? ⟨gt, ot + pp * 2 + 1, none⟩ = some (.int .i64 y2)) (exact HKT.out _ (by (repeat' (first | (with_reducible first | exact Below.refl _ _ | assumption | refine Below.alloc ?_ ?_ _ | refine below_drewN ?_ _ | refine below_drew ?_ | refine below_ext ?_ ?_ _ _ | refine Below.setCell ?_ ?_ _) | (simp; done) | (simp; omega) | omega)))) (first | (go_at_call 62; ((with_reducible refine (HC.out _).mono ?_); rintro e w1 ⟨rfl, hb1⟩; obtain ⟨osA, dA, rfl⟩ := ext_of_below hb1; clear hb1)))
            all_goals
              go_wp2
              go_roundw
              case rel => exact ⟨j + 1, by go_num, by omega, Lib.hid (hbe.out.trans (show Below w.heap.size wr _ by (repeat' (first | (with_reducible first | exact Below.refl _ _ | assumption | refine Below.alloc ?_ ?_ _ | refine below_drewN ?_ _ | refine below_drew ?_ | refine below_ext ?_ ?_ _ _ | refine Below.setCell ?_ ?_ _) | (simp; done) | (simp; omega) | omega)))), by (first | (simp; done) | (simp; omega)), Lib.hid (HCK.out _ (by (repeat' (first | (with_reducible first | exact Below.refl _ _ | assumption | refine Below.alloc ?_ ?_ _ | refine below_drewN ?_ _ | refine below_drew ?_ | refine below_ext ?_ ?_ _ _ | refine Below.setCell ?_ ?_ _) | (simp; done) | (simp; omega) | omega)))), HF⟩
              case measure => simp [intOf]; omega
        · have hFp : F pp = ordB (t1, t2) (y1, y2) := by rw [HFF.out]; show (if oa = 36 ∨ oa = 37 then _ else if oa = 30 then _ else ordB (t1, t2) (tyA T pp)) = _; rw [if_neg h67, if_neg h30, hya]
          have HC := Lib.hid (show ∀ w', Calls Tryz.prog 63 #[.agg #[.int .i64 t1, .int .i64 t2], .agg #[.int .i64 y1, .int .i64 y2]] w' fun e w'' => e = .returned (.bool (F pp)) ∧ Below w'.heap.size w' w'' from fun w' => by rw [hFp]; exact rordered_any (t1, t2) (y1, y2) ht hyf w')
          have HRO := Lib.hid hRO
          generalize F pp = m at HC HRO
          have q30 : (oa == 30) = false := beq_eq_false_iff_ne.2 h30
          clear hcs hpp hpm hpl2 hRO hFp hj2 hro h30 h67 d0 d1 hya hyf
          cases m with
          | false =>
            have HF := Lib.hid (show R = false by rw [HRO.out]; rfl)
            go_upto_region 6 with fail
            go_region_held3 (fun w' => w'.cell? ⟨w.heap.size, 0, none⟩ = some (.int .i64 t1) ∧ w'.cell? ⟨w.heap.size, 1, none⟩ = some (.int .i64 t2) ∧ w'.cell? ⟨gt, ot + pp * 2, none⟩ = some (.int .i64 y1) ∧ w'.cell? ⟨gt, ot + pp * 2 + 1, none⟩ = some (.int .i64 y2)) (exact HKT.out _ (by (repeat' (first | (with_reducible first | exact Below.refl _ _ | assumption | refine Below.alloc ?_ ?_ _ | refine below_drewN ?_ _ | refine below_drew ?_ | refine below_ext ?_ ?_ _ _ | refine Below.setCell ?_ ?_ _) | (simp; done) | (simp; omega) | omega)))) (first | (go_at_call 63; ((with_reducible refine (HC.out _).mono ?_); rintro e w1 ⟨rfl, hb1⟩; obtain ⟨osA, dA, rfl⟩ := ext_of_below hb1; clear hb1)))
            all_goals
              go_wp2
              go_ret
              exact ⟨by rw [HF.out]; rfl, hbe.out.trans (show Below w.heap.size wr _ by (repeat' (first | (with_reducible first | exact Below.refl _ _ | assumption | refine Below.alloc ?_ ?_ _ | refine below_drewN ?_ _ | refine below_drew ?_ | refine below_ext ?_ ?_ _ _ | refine Below.setCell ?_ ?_ _) | (simp; done) | (simp; omega) | omega)))⟩
          | true =>
            have HF := Lib.hid (show (ps.drop (j + 1)).all F = R by rw [HRO.out]; rfl)
            go_upto_region 6 with fail
            go_region_held3 (fun w' => w'.cell? ⟨w.heap.size, 0, none⟩ = some (.int .i64 t1) ∧ w'.cell? ⟨w.heap.size, 1, none⟩ = some (.int .i64 t2) ∧ w'.cell? ⟨gt, ot + pp * 2, none⟩ = some (.int .i64 y1) ∧ w'.cell? ⟨gt, ot + pp * 2 + 1, none⟩ = some (.int .i64 y2)) (exact HKT.out _ (by (repeat' (first | (with_reducible first | exact Below.refl _ _ | assumption | refine Below.alloc ?_ ?_ _ | refine below_drewN ?_ _ | refine below_drew ?_ | refine below_ext ?_ ?_ _ _ | refine Below.setCell ?_ ?_ _) | (simp; done) | (simp; omega) | omega)))) (first | (go_at_call 63; ((with_reducible refine (HC.out _).mono ?_); rintro e w1 ⟨rfl, hb1⟩; obtain ⟨osA, dA, rfl⟩ := ext_of_below hb1; clear hb1)))
            all_goals
              go_wp2
              go_roundw
              case rel => exact ⟨j + 1, by go_num, by omega, Lib.hid (hbe.out.trans (show Below w.heap.size wr _ by (repeat' (first | (with_reducible first | exact Below.refl _ _ | assumption | refine Below.alloc ?_ ?_ _ | refine below_drewN ?_ _ | refine below_drew ?_ | refine below_ext ?_ ?_ _ _ | refine Below.setCell ?_ ?_ _) | (simp; done) | (simp; omega) | omega)))), by (first | (simp; done) | (simp; omega)), Lib.hid (HCK.out _ (by (repeat' (first | (with_reducible first | exact Below.refl _ _ | assumption | refine Below.alloc ?_ ?_ _ | refine below_drewN ?_ _ | refine below_drew ?_ | refine below_ext ?_ ?_ _ _ | refine Below.setCell ?_ ?_ _) | (simp; done) | (simp; omega) | omega)))), HF⟩
              case measure => simp [intOf]; omega
    · obtain rfl : j = kn := by omega
      have hji : ¬ (j : Int) < j := by omega
      have HF := Lib.hid (show R = true by rw [← hro.out, List.drop_eq_nil_of_le (by rw [← HKN.out]; exact Nat.le_refl _)]; rfl)
      go_wp2
      go_ret
      exact ⟨by rw [HF.out]; rfl, hbe.out.trans (show Below w.heap.size wr _ by (repeat' (first | (with_reducible first | exact Below.refl _ _ | assumption | refine Below.alloc ?_ ?_ _ | refine below_drewN ?_ _ | refine below_drew ?_ | refine below_ext ?_ ?_ _ _ | refine Below.setCell ?_ ?_ _) | (simp; done) | (simp; omega) | omega)))⟩
theorem chain_len {L : List Nat} : ∀ {ps : List Nat} {a b : Nat}, Chain L a ps b → a + ps.length ≤ b
  | [], _, _, h => Nat.le_of_eq h
  | _ :: _, _, _, h => by
    have h1 := chain_len h.2.2
    have h2 := h.2.1
    rw [List.length_cons]
    omega
section
variable {l : List NdD} {P : List (List Nat)} {L : List Nat} {T : List Ty}
theorem kids_len (hl : l.length ≤ 300) (hTr : Tr l P L) {i : Nat} (hi : i < l.length) : (P.getD i []).length ≤ 300 := by
  have := chain_len (hTr.chain i hi)
  omega
theorem ft_test (hl : l.length ≤ 300) (hTr : Tr l P L) (hTl : T.length = l.length) (hT : ∀ t ∈ T, FmT t) (n : Nat) {i : Nat} (hi : i < l.length) (ho : opA l i ≠ 36 ∧ opA l i ≠ 37) : FtC l P T (n + 1) i :=
  fit_step hl hTr.lp hTl hT n i hi (fun p hp => by have := kid_lt hTr hi p hp; omega) (kids_len hl hTr hi) (fun h => absurd h (not_or.2 ho))
theorem ft_some (hl : l.length ≤ 300) (hTr : Tr l P L) (hS : SoP l P) (hTl : T.length = l.length) (hT : ∀ t ∈ T, FmT t) (n : Nat) {i : Nat} (hi : i < l.length) (ho : opA l i = 36) : FtC l P T (n + 2) i :=
  fit_step hl hTr.lp hTl hT (n + 1) i hi (fun p hp => by have := kid_lt hTr hi p hp; omega) (kids_len hl hTr hi) (fun _ p hp => by
    have h1 := kid_lt hTr hi p hp
    have h3 := sort_three (sorts_mem (hS i hi) (fun j => by rw [ho]; rfl) p hp)
    exact ft_test hl hTr hTl hT n (by omega) ⟨by omega, by omega⟩)
theorem ft_not (hl : l.length ≤ 300) (hTr : Tr l P L) (hS : SoP l P) (hTl : T.length = l.length) (hT : ∀ t ∈ T, FmT t) (n : Nat) {i : Nat} (hi : i < l.length) (ho : opA l i = 37) : FtC l P T (n + 3) i :=
  fit_step hl hTr.lp hTl hT (n + 2) i hi (fun p hp => by have := kid_lt hTr hi p hp; omega) (kids_len hl hTr hi) (fun _ p hp => by
    have h1 := kid_lt hTr hi p hp
    have h4 := sort_four (sorts_mem (hS i hi) (fun j => by rw [ho]; rfl) p hp)
    exact ft_some hl hTr hS hTl hT n (by omega) h4)
end
end Go.Proofs.YtalahkincccffaaGreatDoor
namespace Go.Proofs.YtalahkincccffaaGreatDoor
open Go.RowKit Word Txt
attribute [local go_sem] setCell_drewN cell?_ext frozen?_ext shape?_ext setCell_ext lt_1' ne_1' en_1' le_1' lt_2' ne_2' en_2' le_2' lt_3' ne_3' en_3' le_3' lt_4' ne_4' en_4' le_4' lt_5' ne_5' en_5' le_5' lt_6' ne_6' en_6' le_6' lt_7' ne_7' en_7' le_7' lt_8' ne_8' en_8' le_8' lt_9' ne_9' en_9' le_9' lt_10' ne_10' en_10' le_10' lt_11' ne_11' en_11' le_11' lt_12' ne_12' en_12' le_12'

theorem tmake (n : Nat) (hn : n ≤ 1000000) : ∀ w, (Instr.makeSlice 63 (.int .i64 (n : Int)) (.int .i64 (n : Int))).run Tryz.prog w = .ok (.slice (some ⟨w.heap.size, 0, none⟩) n n) (w.alloc (.cells (madeCells #[.int .i64 0, .int .i64 0] (n * 2)) 26)) := fun w => by
  obtain ⟨i0, hi, hz0, hz1, hz2⟩ := info_parts tpK_ok.info
  have hrun := run_make (P := Tryz.prog) w tpK.S tpK.T i0 _ tpK_ok.und hi hz0 .i64 .i64 (n : Int) (n : Int) (by omega) (by omega) (by
    rw [hz2]
    show ((16 : Nat) : Int) * (n : Int) ≤ _
    omega) (by omega)
  rw [hz1, Int.toNat_natCast] at hrun
  exact hrun
structure TRow (w : World) (g n : Nat) (T : List Ty) : Prop where
  lt : g < w.heap.size
  c0 : ∀ j, j < n → w.cell? ⟨g, j * 2, none⟩ = some (.int .i64 (tyA T j).1)
  c1 : ∀ j, j < n → w.cell? ⟨g, j * 2 + 1, none⟩ = some (.int .i64 (tyA T j).2)
  free : ∀ j, w.frozen? ⟨g, j, none⟩ = false
theorem TRow.new {w w' : World} {g n : Nat} {T : List Ty} (h : TRow w g n T) (hb : Below w.heap.size w w') : TRow w' g n T :=
  ⟨Nat.lt_of_lt_of_le h.lt hb.size, fun j hj => (hb.cell (p := ⟨g, _, none⟩) h.lt).trans (h.c0 j hj), fun j hj => (hb.cell (p := ⟨g, _, none⟩) h.lt).trans (h.c1 j hj), fun j => (hb.frozen (p := ⟨g, _, none⟩) h.lt).trans (h.free j)⟩
theorem TRow.made (w : World) (n : Nat) : TRow (w.alloc (.cells (madeCells #[.int .i64 0, .int .i64 0] (n * 2)) 26)) w.heap.size n [] := by
  have h1 : (w.alloc (.cells (madeCells #[.int .i64 0, .int .i64 0] (n * 2)) 26)).heap[w.heap.size]? = some (.cells (madeCells #[.int .i64 0, .int .i64 0] (n * 2)) 26) := by
    show (w.heap.push _)[w.heap.size]? = _
    simp
  have hc : ∀ j, j < n * 2 → (w.alloc (.cells (madeCells #[.int .i64 0, .int .i64 0] (n * 2)) 26)).cell? ⟨w.heap.size, j, none⟩ = some (.int .i64 0) := fun j hj => by
    rw [World.cell?_alloc_at _ _ _ _ rfl]
    have hm : j % 2 = 0 ∨ j % 2 = 1 := by omega
    rcases hm with hm | hm <;> simp [madeCells, hj, hm]
  refine ⟨by rw [World.size_alloc]; omega, fun j hj => hc _ (by omega), fun j hj => hc _ (by omega), fun j => ?_⟩
  unfold World.frozen?
  simp only
  rw [h1]
  simp
theorem TRow.store {w : World} {g n i : Nat} {T : List Ty} (h : TRow w g n T) (hi : i < n) (hT : T.length = i) (t : Ty) : TRow ((w.setCell ⟨g, i * 2, none⟩ (.int .i64 t.1)).setCell ⟨g, i * 2 + 1, none⟩ (.int .i64 t.2)) g n (T ++ [t]) := by
  have hne : ∀ a b : Nat, a ≠ b → (⟨g, a, none⟩ : Addr) ≠ ⟨g, b, none⟩ := fun a b hab e => by injection e with _ e2 _; exact hab e2
  have hty : ∀ j, j ≠ i → tyA (T ++ [t]) j = tyA T j := fun j hj => by
    by_cases hlt : j < T.length
    · exact tyA_append hlt
    · unfold tyA
      rw [List.getD_eq_getElem?_getD, List.getD_eq_getElem?_getD, List.getElem?_eq_none (by simp; omega), List.getElem?_eq_none (by omega)]
  have hend : tyA (T ++ [t]) i = t := by rw [← hT]; exact tyA_end
  refine ⟨by simp [World.size_setCell]; exact h.lt, fun j hj => ?_, fun j hj => ?_, fun j => by rw [World.frozen?_setCell, World.frozen?_setCell]; exact h.free j⟩
  · by_cases e : j = i
    · subst e
      rw [World.cell?_setCell_other _ _ _ _ (hne _ _ (by omega)), World.cell?_setCell_same _ _ _ (h.c0 j hj), hend]
    · rw [World.cell?_setCell_other _ _ _ _ (hne _ _ (by omega)), World.cell?_setCell_other _ _ _ _ (hne _ _ (by omega)), h.c0 j hj, hty j e]
  · by_cases e : j = i
    · subst e
      rw [World.cell?_setCell_same _ _ _ ((World.cell?_setCell_other _ _ _ _ (hne _ _ (by omega))).trans (h.c1 j hj)), hend]
    · rw [World.cell?_setCell_other _ _ _ _ (hne _ _ (by omega)), World.cell?_setCell_other _ _ _ _ (hne _ _ (by omega)), h.c1 j hj, hty j e]
def padT (T : List Ty) (n : Nat) : List Ty := T ++ List.replicate (n - T.length) (0, 0)
theorem padT_len {T : List Ty} {n : Nat} (h : T.length ≤ n) : (padT T n).length = n := by
  unfold padT; rw [List.length_append, List.length_replicate]; omega
theorem padT_at (T : List Ty) (n p : Nat) : tyA (padT T n) p = tyA T p := by
  unfold tyA padT
  rw [List.getD_eq_getElem?_getD, List.getD_eq_getElem?_getD]
  by_cases h : p < T.length
  · rw [List.getElem?_append_left h]
  · rw [List.getElem?_append_right (by omega), List.getElem?_eq_none (show T.length ≤ p by omega), List.getElem?_replicate]
    split <;> rfl
theorem TRow.rl {w : World} {g n : Nat} {T : List Ty} (h : TRow w g n T) (hT : T.length ≤ n) : RL 2 tpE w.heap.size w (.slice (some ⟨g, 0, none⟩) n n) (padT T n) := by
  refine ⟨_, n, by rw [padT_len hT], fun _ => ⟨g, 0, rfl, h.lt, fun j hj i u hu => ?_⟩⟩
  rw [padT_len hT] at hj
  have e : (padT T n)[j]'(by rw [padT_len hT]; exact hj) = tyA T j := by
    rw [← padT_at T n j]
    unfold tyA
    rw [List.getD_eq_getElem?_getD, List.getElem?_eq_getElem (by rw [padT_len hT]; exact hj)]; rfl
  rw [e] at hu
  have hi2 : i < 2 := by
    have := (List.getElem?_eq_some_iff.1 hu).1
    simpa [tpE] using this
  have hi3 : i = 0 ∨ i = 1 := by omega
  rw [Nat.zero_add]
  rcases hi3 with rfl | rfl
  · rw [← show (some (Value.int .i64 (tyA T j).1)) = some u from hu]; exact h.c0 j hj
  · rw [← show (some (Value.int .i64 (tyA T j).2)) = some u from hu]; exact h.c1 j hj
theorem fitD_congr {l : List NdD} {P : List (List Nat)} {T T' : List Ty} (h : ∀ p, tyA T p = tyA T' p) : ∀ n i t, fitD l P T n i t = fitD l P T' n i t
  | 0, _, _ => rfl
  | n + 1, i, t => by
    unfold fitD
    congr 1
    funext p
    rw [fitD_congr h n p t, h p]
theorem OL.tys {B : Nat} {w : World} {q : Option Addr} {c : Nat} {l : List Ty} (h : OL tpK tpE B w (.slice q l.length c) l) : RL 2 tpE w.heap.size w (.slice q l.length c) l := by
  refine ⟨q, c, rfl, fun h0 => ?_⟩
  obtain ⟨q2, c2, e, hq, -⟩ := OL.form h
  injection e with e1 _ _
  obtain ⟨g, rfl, -, hg⟩ := hq h0
  subst e1
  exact ⟨g, 0, rfl, hg, fun j hj i u hu => by
    have := OL.cell tpE_cells h j i hj hu
    rwa [show j * tpK.size + i = 0 + j * 2 + i by show j * 2 + i = _; omega] at this⟩
def TyQ (R : List Ty × Int) (w : World) (e : Ending) (w' : World) : Prop := Below w.heap.size w w' ∧ ∃ v, e = .returned (.tuple #[v, .int .i64 R.2]) ∧ RL 2 tpE w'.heap.size w' v R.1
theorem dyM_fm {sy : List SyD} (hs : ∀ x ∈ sy, FmT x.t) {x : NdD} {ts : List Ty} (h : ∀ t ∈ ts, FmT t) : FmT (dyM sy x ts).1 := by
  unfold dyM
  split
  · exact tyM_fm hs h
  · exact fmT_k (by decide)
theorem rd_int2 {P : Nat → Prop} {w : World} {q : Option Addr} {k c : Nat} {ps : List Nat} (h : RdP P w (.slice q k c) ps) {j : Nat} (hj : j < ps.length) : ∃ g o, q = some ⟨g, o, none⟩ ∧ P g ∧ g < w.heap.size ∧ w.cell? ⟨g, o + j, none⟩ = some (.int .i64 (ps[j] : Int)) := by
  rcases h with ⟨_, rfl⟩ | ⟨g, off, cap', hv, hc, hg, hp, hx⟩
  · cases hj
  · injection hv with h1 h2 h3
    exact ⟨g, off, h1, hp, hg, hx j hj⟩
set_option maxRecDepth 100000 in
set_option maxHeartbeats 16000000 in
theorem rtypes_any (sy : List SyD) (l : List NdD) {L : List Nat} {H : List Nat} {P : List (List Nat)} (n : Nat) (w : World) (v vs : Value) (hv : RL 8 ndE n w v l) (hs : RL 3 syE n w vs sy) (hn : n ≤ w.heap.size) (hl : l.length ≤ 300) (h0 : 0 < l.length) (hls : sy.length ≤ 100) (hsy : ∀ x ∈ sy, FmT x.t) (hsp : stkP 0 l [] = some (H, P)) (hTr : Tr l P L) (hS : SoP l P) :
    Calls Tryz.prog 26 #[v, vs] w fun e w' => TyQ (typD l P sy l []) w e w' := by
  have HPL := Lib.hid (fun w' (hb : Below w.heap.size w w') => rplaces_any l n w' v (hv.keep (hb.mono hn)) (Nat.le_trans hn hb.size) (by omega) h0 hsp)
  have HVW := Lib.hid (fun w' (hb : Below w.heap.size w w') => And.intro (hv.keep (hb.mono hn)) (hs.keep (hb.mono hn)))
  obtain ⟨p, c, rfl, h2⟩ := id hv
  obtain ⟨g, o, rfl, hg, hc⟩ := h2 h0
  obtain ⟨sp, sc, rfl, -⟩ := id hs
  have HT9 := Lib.hid (And.intro hTr (And.intro hS (And.intro hsy hl)))
  obtain ⟨len, hlen⟩ : ∃ len, len = l.length := ⟨_, rfl⟩
  have HL := Lib.hid hlen
  have HC := Lib.hid (show ∀ w', Below w.heap.size w w' → ∀ j (h : j < l.length) i u, (ndE l[j])[i]? = some u → w'.cell? ⟨g, o + j * 8 + i, none⟩ = some u from fun w' hb j hj i u hu => (hb.cell (p := ⟨g, _, none⟩) (Nat.lt_of_lt_of_le hg hn)).trans (hc j hj i u hu))
  have hPl := hTr.lp
  rw [← hlen] at HPL HVW hl h0 hPl ⊢
  obtain ⟨sl, hsl⟩ : ∃ sl, sl = sy.length := ⟨_, rfl⟩
  rw [← hsl] at HVW hls ⊢
  have HSL := Lib.hid (show sy.length ≤ 100 by rw [← hsl]; exact hls)
  obtain ⟨RES, hRES⟩ : ∃ RES, RES = typD l P sy l [] := ⟨_, rfl⟩
  have HR := Lib.hid hRES
  rw [← hRES]
  have hmk := tmake len (by omega)
  have hgw : g < w.heap.size := Nat.lt_of_lt_of_le hg hn
  clear h2 hc hv hs hsp hTr hS hsy hlen hsl hRES
  go_enter Tryz.func26, Tryz.ntmps26
  go_upto_region 2 with (go_at_call 36; (with_reducible refine (HPL.out _ (by (repeat' (first | (with_reducible first | exact Below.refl _ _ | assumption | refine Below.alloc ?_ ?_ _ | refine below_drewN ?_ _ | refine below_drew ?_ | refine below_ext ?_ ?_ _ _ | refine Below.setCell ?_ ?_ _) | (simp; done) | (simp; omega) | omega)))).mono ?_); rintro e w1 ⟨⟨pv, rfl, hpw⟩, hb1⟩; have HPW := Lib.hid hpw; have HB1 := Lib.hid hb1; clear hpw hb1)
  obtain ⟨gx, cx, rfl, hpc, hgx, hps⟩ := id HPW.out
  rw [hPl] at hps hpc HPW ⊢
  have hs1 := HB1.out.size
  have HPX := Lib.hid (show ∀ w', Below w1.heap.size w1 w' → ∀ i, i < len → ∃ q c, w'.cell? ⟨gx, i, none⟩ = some (.slice q (P.getD i []).length c) ∧ RdP (fun g => g < w1.heap.size) w' (.slice q (P.getD i []).length c) (P.getD i []) from fun w' hb i hi => by
    obtain ⟨q, c, h4, h5⟩ := hps i hi
    exact ⟨q, c, (hb.cell (p := ⟨gx, _, none⟩) hgx).trans h4, h5.old.later hb⟩)
  have HT0 := Lib.hid (TRow.made w1 len)
  clear hps
  go_wp2
  go_loopw [8] (fun z wr => ∃ (i : Nat) (T : List Ty), z = .int .i64 i ∧ i ≤ len ∧ T.length = i ∧ Hid (TRow wr w1.heap.size len T) ∧ Hid (Below w1.heap.size w1 wr) ∧ Hid ((∀ t ∈ T, FmT t) ∧ typD l P sy (l.drop i) T = RES)) (fun z _ => len - (intOf z).toNat)
  case atStart => exact ⟨0, [], rfl, Nat.zero_le _, rfl, HT0, Lib.hid (by (repeat' (first | (with_reducible first | exact Below.refl _ _ | assumption | refine Below.alloc ?_ ?_ _ | refine below_drewN ?_ _ | refine below_drew ?_ | refine below_ext ?_ ?_ _ _ | refine Below.setCell ?_ ?_ _) | (simp; done) | (simp; omega) | omega))), Lib.hid ⟨fun t ht => (by cases ht), HR.out.symm⟩⟩
  case round =>
    obtain ⟨i, T, rfl, hil, hTl, htr, hbe, hru⟩ := hrel
    clear HT0
    have hsw := hbe.out.size
    have hg1 := htr.out.lt
    by_cases hlt : i < len
    · have hii : (i : Int) < (len : Int) := by omega
      have hil2 : i < l.length := by rw [← HL.out]; exact hlt
      obtain ⟨hTf, hty⟩ := hru.out
      obtain ⟨hTr, hS, hsy, hl3⟩ := HT9.out
      obtain ⟨q, qc, hqx, hqr⟩ := HPX.out wr hbe.out i hlt
      have hqx2 := fun w' (hb : Below wr.heap.size wr w') => (hb.cell (p := ⟨gx, i, none⟩) (Nat.lt_of_lt_of_le hgx hsw)).trans hqx
      have HQX := Lib.hid hqx2
      obtain ⟨oa, ka, ta, na, ca, sa, da, he, x0, x1, x2, x3, x4, x5, x6, x7⟩ := nd_cells (HC.out wr (HB1.out.trans (hbe.out.mono hs1))) i hil2
      have hkid : ∀ p ∈ P.getD i [], p < i := kid_lt hTr hil2
      have hkn := kids_len hl3 hTr hil2
      have hkids := hTr.kids i hil2
      rw [he] at hkids
      simp only at hkids
      obtain ⟨ps, hpsd⟩ : ∃ ps, ps = P.getD i [] := ⟨_, rfl⟩
      have hpl9 : plT P T i = ps.map (tyA T) := by rw [hpsd]; rfl
      rw [← hpsd] at hkid hkn hqr HQX hkids hqx
      obtain ⟨kn, hknd⟩ : ∃ kn, kn = ps.length := ⟨_, rfl⟩
      have HKN := Lib.hid hknd
      rw [← hknd] at hkn HQX hqr hqx
      have HRD := Lib.hid (show ∀ w', Below wr.heap.size wr w' → ∀ j (hj : j < ps.length), ∃ g o, q = some ⟨g, o, none⟩ ∧ g < w1.heap.size ∧ w'.cell? ⟨g, o + j, none⟩ = some (.int .i64 (ps[j] : Int)) from fun w' hb j hj => by
        obtain ⟨g, o, e1, e0, e2, e3⟩ := rd_int2 hqr hj
        exact ⟨g, o, e1, e0, (hb.cell (p := ⟨g, _, none⟩) e2).trans e3⟩)
      have HTR := Lib.hid (fun w' (hb : Below wr.heap.size wr w') => htr.out.new hb)
      have HKD := Lib.hid hkid
      have hone : typD l P sy (l.drop i) T = if (oneD l P sy T i ⟨oa, ka, ta, na, ca, sa, da⟩).2 = 0 then typD l P sy (l.drop (i + 1)) (T ++ [(oneD l P sy T i ⟨oa, ka, ta, na, ca, sa, da⟩).1]) else ([], (oneD l P sy T i ⟨oa, ka, ta, na, ca, sa, da⟩).2) := by
        rw [List.drop_eq_getElem_cons hil2, he]
        show (if (oneD l P sy T T.length _).2 = 0 then _ else _) = _
        rw [hTl]
      rw [hone] at hty
      have HON := Lib.hid (show oneD l P sy T i ⟨oa, ka, ta, na, ca, sa, da⟩ = if oa = 23 then mustM (fitD l P T 3 (ps.getD 1 0) (tyA (ps.map (tyA T)) 0)) 1 else dyM sy ⟨oa, ka, ta, na, ca, sa, da⟩ (ps.map (tyA T)) by
        unfold oneD
        rw [hpl9, hpsd])
      have hOf : FmT (oneD l P sy T i ⟨oa, ka, ta, na, ca, sa, da⟩).1 := by
        rw [HON.out]
        split
        · unfold mustM; split
          · exact fmT_k (by decide)
          · exact fmT_k (by decide)
        · refine dyM_fm hsy fun t ht => ?_
          obtain ⟨p, -, rfl⟩ := List.mem_map.1 ht
          exact fm_A hTf p
      obtain ⟨⟨⟨u1, u2⟩, er⟩, hO⟩ : ∃ O, O = oneD l P sy T i ⟨oa, ka, ta, na, ca, sa, da⟩ := ⟨_, rfl⟩
      rw [← hO] at hty hOf HON
      simp only at hty hOf
      have HGO := Lib.hid (show er = 0 → (∀ t ∈ T ++ [(u1, u2)], FmT t) ∧ typD l P sy (l.drop (i + 1)) (T ++ [(u1, u2)]) = RES from fun h => ⟨fun t ht => by
        rcases List.mem_append.1 ht with ht | ht
        · exact hTf t ht
        · simp at ht; subst ht; exact hOf, by rw [← hty, if_pos h]⟩)
      have HNO := Lib.hid (show er ≠ 0 → RES = ([], er) from fun h => by rw [← hty, if_neg h])
      have HTF := Lib.hid hTf
      have HKI := Lib.hid (show takesN oa (ps.length : Int) = true by rw [hkids.2]; exact hkids.1)
      have HF23 := Lib.hid (show oa = 23 → ∃ a b, ps = [a, b] ∧ FtC l P (padT T len) 3 b from fun ho => by
        have hk2 := takes_in (ho ▸ hkids.1)
        obtain ⟨a, b, hab⟩ := list2 (p := ps) (by omega)
        refine ⟨a, b, hab, ?_⟩
        have hsb := sorts_get (hS i hil2) 1 b (by rw [← hpsd, hab]; rfl)
        have hopi : opA l i = oa := by rw [nd_op hil2, he]
        rw [hopi, ho] at hsb
        have hb36 := sort_four (show sortN (opA l b) = 4 from hsb)
        exact ft_some (L := L) hl3 hTr hS (by rw [padT_len (by omega)]; exact HL.out) (fun t ht => by
          rcases List.mem_append.1 ht with ht | ht
          · exact hTf t ht
          · rw [List.mem_replicate] at ht; rw [ht.2]; exact fmT_k (by decide)) 1 (by have := hkid b (by rw [hab]; simp); omega) hb36)
      have HW9 := Lib.hid (show ∀ w', Below wr.heap.size wr w' → Below w.heap.size w w' ∧ Below w1.heap.size w1 w' from fun w' hb => ⟨HB1.out.trans ((hbe.out.mono hs1).trans (hb.mono (Nat.le_trans hs1 hsw))), hbe.out.trans (hb.mono hsw)⟩)
      have hdl0 := HKN.out
      generalize hhg : (Word.hi ca : Int) = ha at x4
      generalize hlg : (Word.lo ca : Int) = la at x5
      have HND := Lib.hid (show NdV ⟨oa, ka, ta, na, ca, sa, da⟩ = NodV oa ka ta na ha la sa da from by rw [← hhg, ← hlg])
      clear hru hTf hty hOf hTr hS hsy hl3 hqx2 hqr hpl9 hkids hone hpsd hknd he hil2 hkid hhg hlg hdl0
      obtain ⟨wo, rfl⟩ : ∃ wo, wo = wr := ⟨wr, rfl⟩
      have HD0 := Lib.hid (OL.nil tpK tpE wo.heap.size wo)
      go_upto_region 8 with fail
      go_wp2
      go_loopw [9, 10] (fun y z wr => ∃ k : Nat, z = .int .i64 k ∧ k ≤ kn ∧ Hid (Below wo.heap.size wo wr) ∧ Hid (OL tpK tpE wo.heap.size wr y ((ps.map (tyA T)).take k))) (fun _ z _ => kn - (intOf z).toNat)
      case atStart => exact ⟨0, rfl, Nat.zero_le _, Lib.hid (Below.refl _ _), HD0⟩
      case round =>
        obtain ⟨k, rfl, hk, hb2, hol⟩ := hrel
        clear HD0
        have hs2 := hb2.out.size
        obtain ⟨lq, lc, hvs, hlq, hlc⟩ := OL.form hol.out
        have hml : (ps.map (tyA T)).length = kn := by rw [List.length_map]; exact HKN.out.symm
        have htl : ((ps.map (tyA T)).take k).length = k := by rw [List.length_take, hml]; omega
        rw [htl] at hvs
        obtain rfl : u9 = .slice lq k lc := hvs
        have hqc := HQX.out wr hb2.out
        by_cases hkl : k < kn
        · have hki : (k : Int) < (kn : Int) := by omega
          have hk2 : k < ps.length := by rw [← HKN.out]; exact hkl
          obtain ⟨gq, oq, rfl, hgq, hqi⟩ := HRD.out wr hb2.out k hk2
          have hpi := HKD.out ps[k] (List.getElem_mem hk2)
          have hpl : ps[k] < len := by omega
          have HOWN := Lib.hid (show ∀ k2, (Value.slice lq k lc).ownBlock = some k2 → wo.heap.size ≤ k2 from fun k2 h2 => (World.ownsRow.lt hol.out k2 h2).1)
          obtain ⟨y1, y2, hya⟩ : ∃ y1 y2, tyA T ps[k] = (y1, y2) := ⟨_, _, rfl⟩
          have d0 := (HTR.out wr hb2.out).c0 ps[k] hpl
          have d1 := (HTR.out wr hb2.out).c1 ps[k] hpl
          rw [hya] at d0 d1
          have HTK := Lib.hid (show (ps.map (tyA T)).take (k + 1) = (ps.map (tyA T)).take k ++ [(y1, y2)] by rw [List.take_add_one, List.getElem?_map, List.getElem?_eq_getElem hk2, Option.map_some, hya]; rfl)
          have hpp : (ps[k] : Int) < (len : Int) := by omega
          generalize ps[k] = pp at hqi d0 d1 hpp
          have HOL := Lib.hid (fun w' (hb : Below wr.heap.size wr w') => OL.new hol.out hb)
          have HBR := Lib.hid hb2.out
          have hlk : ((ps.map (tyA T)).take k).length ≤ 1000000 := by rw [htl]; omega
          have HTL := Lib.hid htl
          generalize (ps.map (tyA T)).take k = tt at HTK HOL hlk HTL
          simp only at d0 d1
          clear hol hb2 htl hya hk2 hpi hpl hlq hml
          go_wp2_with (first
            | (at_builtin; refine wpList_append_ol tpK_ok tpE_cells rfl _ _ rfl rfl _ (y1, y2) rfl (HOL.out _ (by (repeat' (first | (with_reducible first | exact Below.refl _ _ | assumption | refine Below.alloc ?_ ?_ _ | refine below_drewN ?_ _ | refine below_drew ?_ | refine below_ext ?_ ?_ _ _ | refine Below.setCell ?_ ?_ _) | (simp; done) | (simp; omega) | omega)))) (by simp [Act.eval]) hlk (by (repeat' (first | (with_reducible first | exact Below.refl _ _ | assumption | refine Below.alloc ?_ ?_ _ | refine below_drewN ?_ _ | refine below_drew ?_ | refine below_ext ?_ ?_ _ _ | refine Below.setCell ?_ ?_ _) | (simp; done) | (simp; omega) | omega))) ?_; intro g2 cap2 w3 hob3 hoth hat hg2 hsz2; rw [HTL.out] at hob3; have HO2 := Lib.hid (HTK.out ▸ hob3); have HB2 := Lib.hid ((HBR.out.trans (show Below wo.heap.size wr _ by (repeat' (first | (with_reducible first | exact Below.refl _ _ | assumption | refine Below.alloc ?_ ?_ _ | refine below_drewN ?_ _ | refine below_drew ?_ | refine below_ext ?_ ?_ _ _ | refine Below.setCell ?_ ?_ _) | (simp; done) | (simp; omega) | omega)))).trans (hoth.below (by first | omega | (simp; omega)) (fun k hk => HOWN.out k hk))); clear hob3 hoth hat hg2 hsz2))
          have hL1 := HTL.out
          go_roundw
          case rel => exact ⟨k + 1, by go_num, by omega, HB2, (by first | exact HO2 | (rw [hL1]; exact HO2))⟩
          case measure => simp [intOf]; omega
        · obtain rfl : k = kn := by omega
          have hki : ¬ (k : Int) < k := by omega
          have HO := Lib.hid (show OL tpK tpE wo.heap.size wr (.slice lq k lc) (ps.map (tyA T)) by
            have := hol.out
            rwa [List.take_of_length_le (by rw [hml]; exact Nat.le_refl _)] at this)
          have HML := Lib.hid hml
          have HLR := Lib.hid (show RL 2 tpE wr.heap.size wr (.slice lq k lc) (ps.map (tyA T)) by
            have h9 := HO.out
            rw [← HML.out] at h9 ⊢
            exact OL.tys h9)
          have hnx : ∀ w', Below wo.heap.size wo w' → w'.cell? ⟨g, o + i * 8, none⟩ = some (.int .i64 oa) := fun w' hb => (hb.cell (p := ⟨g, _, none⟩) (by omega : g < wo.heap.size)).trans x0
          have hgl : g < wr.heap.size := by omega
          have z0 := hnx wr hb2.out
          clear hol htl hnx
          by_cases h23 : oa = 23
          · have q23 : (oa == 23) = true := by rw [h23]; rfl
            obtain ⟨pa, pb, hab, hft⟩ := HF23.out h23
            have hk2 : k = 2 := by rw [HKN.out, hab]; rfl
            obtain ⟨gq, oq, rfl, hgq, -⟩ := HRD.out wr hb2.out 1 (by rw [hab]; simp)
            have hq1 : ∀ w', Below wo.heap.size wo w' → w'.cell? ⟨gq, oq + 1, none⟩ = some (.int .i64 (pb : Int)) := fun w' hb => by
              obtain ⟨g5, o5, e5, -, c5⟩ := HRD.out w' hb 1 (by rw [hab]; simp)
              injection e5 with e5
              injection e5 with e6 e7 _
              subst e6 e7
              rw [c5]
              congr 3
              simp only [hab]
              rfl
            obtain ⟨gl, hlq2, hgl1, hgl2⟩ := hlq (by rw [List.length_take, hml]; omega)
            subst hlq2
            obtain ⟨y1, y2, hya⟩ : ∃ y1 y2, tyA T pa = (y1, y2) := ⟨_, _, rfl⟩
            have l0 : wr.cell? ⟨gl, 0, none⟩ = some (.int .i64 y1) := OL.cell tpE_cells HO.out 0 0 (by rw [hml]; omega) (by simp only [hab, List.map_cons, List.getElem_cons_zero]; rw [hya]; rfl)
            have l1 : wr.cell? ⟨gl, 1, none⟩ = some (.int .i64 y2) := OL.cell tpE_cells HO.out 0 1 (by rw [hml]; omega) (by simp only [hab, List.map_cons, List.getElem_cons_zero]; rw [hya]; rfl)
            have hyf : FmT (y1, y2) := by rw [← hya]; exact fm_A HTF.out pa
            have hHO : ((u1, u2), er) = mustM (fitD l P T 3 pb (y1, y2)) 1 := by
              have h9 := HON.out
              rw [if_pos h23, hab] at h9
              rw [h9]
              show mustM (fitD l P T 3 pb (tyA T pa)) 1 = _
              rw [hya]
            have HFT := Lib.hid (show ∀ w', Below wr.heap.size wr w' → Calls Tryz.prog 35 #[.slice (some ⟨g, o, none⟩) len c, .slice (some ⟨gx, 0, none⟩) len cx, .slice (some ⟨w1.heap.size, 0, none⟩) len len, .int .i64 (pb : Int), .agg #[.int .i64 y1, .int .i64 y2]] w' fun e w'' => e = .returned (.bool (fitD l P T 3 pb (y1, y2))) ∧ Below w'.heap.size w' w'' from fun w' hb => by
              have hb9 := hb2.out.trans (hb.mono hs2)
              obtain ⟨h7, h8⟩ := HW9.out w' hb9
              have hn9 := (HVW.out w' h7).1.more (Nat.le_trans hn h7.size)
              have hp9 := HPW.out.new h8
              have ht9 := (HTR.out w' hb9).rl (by omega)
              have := hft w' _ _ _ (y1, y2) ⟨hn9, hp9, ht9⟩ hyf
              rw [fitD_congr (fun p => padT_at T len p)] at this
              exact this)
            have HS := Lib.hid (show ∀ w', Below wr.heap.size wr w' → w'.cell? ⟨gx, i, none⟩ = some (.slice (some ⟨gq, oq, none⟩) k qc) ∧ w'.cell? ⟨gq, oq + 1, none⟩ = some (.int .i64 (pb : Int)) ∧ w'.cell? ⟨gl, 0, none⟩ = some (.int .i64 y1) ∧ w'.cell? ⟨gl, 1, none⟩ = some (.int .i64 y2) from fun w' hb => ⟨HQX.out w' (hb2.out.trans (hb.mono hs2)), hq1 w' (hb2.out.trans (hb.mono hs2)), (hb.cell (p := ⟨gl, _, none⟩) hgl2).trans l0, (hb.cell (p := ⟨gl, _, none⟩) hgl2).trans l1⟩)
            have HST := Lib.hid (show ∀ w' a b, Below wr.heap.size wr w' → ((w'.setCell ⟨w1.heap.size, i * 2, none⟩ a).setCell ⟨w1.heap.size, i * 2 + 1, none⟩ b).cell? ⟨gx, i, none⟩ = some (.slice (some ⟨gq, oq, none⟩) k qc) ∧ ((w'.setCell ⟨w1.heap.size, i * 2, none⟩ a).setCell ⟨w1.heap.size, i * 2 + 1, none⟩ b).cell? ⟨gq, oq + 1, none⟩ = some (.int .i64 (pb : Int)) ∧ ((w'.setCell ⟨w1.heap.size, i * 2, none⟩ a).setCell ⟨w1.heap.size, i * 2 + 1, none⟩ b).cell? ⟨gl, 0, none⟩ = some (.int .i64 y1) ∧ ((w'.setCell ⟨w1.heap.size, i * 2, none⟩ a).setCell ⟨w1.heap.size, i * 2 + 1, none⟩ b).cell? ⟨gl, 1, none⟩ = some (.int .i64 y2) from fun w' a b hb => by
              have key : ∀ z j : Nat, ¬ z = w1.heap.size → ((w'.setCell ⟨w1.heap.size, i * 2, none⟩ a).setCell ⟨w1.heap.size, i * 2 + 1, none⟩ b).cell? ⟨z, j, none⟩ = w'.cell? ⟨z, j, none⟩ := fun z j hz => by
                rw [World.cell?_setCell_other _ _ _ _ (by intro e; injection e with e1; exact hz e1.symm), World.cell?_setCell_other _ _ _ _ (by intro e; injection e with e1; exact hz e1.symm)]
              obtain ⟨a0, a1, a2, a3⟩ := HS.out w' hb
              exact ⟨(key _ _ (by omega)).trans a0, (key _ _ (by omega)).trans a1, (key _ _ (by omega)).trans a2, (key _ _ (by omega)).trans a3⟩)
            have HTW := Lib.hid (show ∀ w', Below wr.heap.size wr w' → w'.cell? ⟨w1.heap.size, i * 2, none⟩ = some (.int .i64 (tyA T i).1) ∧ w'.cell? ⟨w1.heap.size, i * 2 + 1, none⟩ = some (.int .i64 (tyA T i).2) ∧ w'.frozen? ⟨w1.heap.size, i * 2, none⟩ = false ∧ w'.frozen? ⟨w1.heap.size, i * 2 + 1, none⟩ = false from fun w' hb => by
              have h9 := HTR.out w' (hb2.out.trans (hb.mono hs2))
              exact ⟨h9.c0 i hlt, h9.c1 i hlt, h9.free _, h9.free _⟩)
            have hk3 : (1 : Int) < (k : Int) := by omega
            have hk4 : (0 : Int) < (k : Int) := by omega
            have hk5 : 0 < k := by omega
            generalize fitD l P T 3 pb (y1, y2) = fb at HFT hHO
            have HB2 := Lib.hid hb2.out
            clear hab hft hk2 hq1 hya l0 l1 hyf hlq hb2 hml hlc h23
            cases fb with
            | true =>
              have HMU := Lib.hid (show ∀ w, Calls Tryz.prog 44 #[.bool true, .int .i64 1] w fun e w' => e = .returned (.tuple #[.agg #[.int .i64 1, .int .i64 0], .int .i64 0]) ∧ Below w.heap.size w w' from fun w => rmust_any true 1 w)
              have hh : ((u1, u2), er) = (((1 : Int), (0 : Int)), (0 : Int)) := hHO
              simp only [Prod.mk.injEq] at hh
              obtain ⟨⟨rfl, rfl⟩, rfl⟩ := hh
              clear hHO
              go_upto_region 13 with fail
              refine wp_region_held_drew (S := fun w' => w'.cell? ⟨gx, i, none⟩ = some (.slice (some ⟨gq, oq, none⟩) k qc) ∧ w'.cell? ⟨gq, oq + 1, none⟩ = some (.int .i64 (pb : Int)) ∧ w'.cell? ⟨gl, 0, none⟩ = some (.int .i64 y1) ∧ w'.cell? ⟨gl, 1, none⟩ = some (.int .i64 y2)) (by kernel_rfl) ?r13ahSa (fun hHeld => ?r13aresta)
              case r13ahSa => ((try dsimp only); exact HS.out _ (by (repeat' (first | (with_reducible first | exact Below.refl _ _ | assumption | refine Below.alloc ?_ ?_ _ | refine below_drewN ?_ _ | refine below_drew ?_ | refine below_ext ?_ ?_ _ _ | refine Below.setCell ?_ ?_ _) | (simp; done) | (simp; omega) | omega))))
              refine wpAnyH_take (i := 0) (oi := ({ dst := some 52, op := Op.move (Operand.tmp 7), type := 63, pos := "ref.go:240", after := #[], guard := none } : Oper)) (v := ?r13av1) rfl (by kernel_rfl) (by kernel_rfl) (by kernel_rfl) (fun _ _ _ h => h) (Or.inl ⟨by rfl, ?r13ahy1⟩) (by assumption) ?r13are1
              case r13ahy1 => (intro w hSw; (try dsimp only at hSw); go_simp; try with_reducible rfl)
              (try simp only [Act.put, List.setIfInBounds_toArray, List.set_cons_zero, List.set_cons_succ])
              refine wpAnyH_take (i := 1) (oi := ({ dst := some 53, op := Op.move (Operand.tmp 8), type := 3, pos := "ref.go:240", after := #[], guard := none } : Oper)) (v := ?r13av2) rfl (by kernel_rfl) (by kernel_rfl) (by kernel_rfl) (fun _ _ _ h => h) (Or.inl ⟨by rfl, ?r13ahy2⟩) (by assumption) ?r13are2
              case r13ahy2 => (intro w hSw; (try dsimp only at hSw); go_simp; try with_reducible rfl)
              (try simp only [Act.put, List.setIfInBounds_toArray, List.set_cons_zero, List.set_cons_succ])
              refine wpAnyH_take (i := 2) (oi := ({ dst := some 54, op := Op.move (Operand.tmp 0), type := 22, pos := "ref.go:240", after := #[], guard := none } : Oper)) (v := ?r13av3) rfl (by kernel_rfl) (by kernel_rfl) (by kernel_rfl) (fun _ _ _ h => h) (Or.inl ⟨by rfl, ?r13ahy3⟩) (by assumption) ?r13are3
              case r13ahy3 => (intro w hSw; (try dsimp only at hSw); go_simp; try with_reducible rfl)
              (try simp only [Act.put, List.setIfInBounds_toArray, List.set_cons_zero, List.set_cons_succ])
              refine wpAnyH_take (i := 3) (oi := ({ dst := some 55, op := Op.move (Operand.tmp 6), type := 52, pos := "ref.go:240", after := #[], guard := none } : Oper)) (v := ?r13av4) rfl (by kernel_rfl) (by kernel_rfl) (by kernel_rfl) (fun _ _ _ h => h) (Or.inl ⟨by rfl, ?r13ahy4⟩) (by assumption) ?r13are4
              case r13ahy4 => (intro w hSw; (try dsimp only at hSw); go_simp; try with_reducible rfl)
              (try simp only [Act.put, List.setIfInBounds_toArray, List.set_cons_zero, List.set_cons_succ])
              refine wpAnyH_take (i := 4) (oi := ({ dst := some 56, op := Op.move (Operand.tmp 7), type := 63, pos := "ref.go:240", after := #[], guard := none } : Oper)) (v := ?r13av5) rfl (by kernel_rfl) (by kernel_rfl) (by kernel_rfl) (fun _ _ _ h => h) (Or.inl ⟨by rfl, ?r13ahy5⟩) (by assumption) ?r13are5
              case r13ahy5 => (intro w hSw; (try dsimp only at hSw); go_simp; try with_reducible rfl)
              (try simp only [Act.put, List.setIfInBounds_toArray, List.set_cons_zero, List.set_cons_succ])
              refine wpAnyH_take (i := 5) (oi := ({ dst := some 57, op := Op.move (Operand.tmp 6), type := 52, pos := "ref.go:240", after := #[], guard := none } : Oper)) (v := ?r13av6) rfl (by kernel_rfl) (by kernel_rfl) (by kernel_rfl) (fun _ _ _ h => h) (Or.inl ⟨by rfl, ?r13ahy6⟩) (by assumption) ?r13are6
              case r13ahy6 => (intro w hSw; (try dsimp only at hSw); go_simp; try with_reducible rfl)
              (try simp only [Act.put, List.setIfInBounds_toArray, List.set_cons_zero, List.set_cons_succ])
              refine wpAnyH_take (i := 6) (oi := ({ dst := some 58, op := Op.move (Operand.tmp 8), type := 3, pos := "ref.go:240", after := #[], guard := none } : Oper)) (v := ?r13av7) rfl (by kernel_rfl) (by kernel_rfl) (by kernel_rfl) (fun _ _ _ h => h) (Or.inl ⟨by rfl, ?r13ahy7⟩) (by assumption) ?r13are7
              case r13ahy7 => (intro w hSw; (try dsimp only at hSw); go_simp; try with_reducible rfl)
              (try simp only [Act.put, List.setIfInBounds_toArray, List.set_cons_zero, List.set_cons_succ])
              refine wpAnyH_take (i := 7) (oi := ({ dst := some 59, op := Op.indexAddr 52 (Operand.tmp 57) (Operand.tmp 58), type := 0, pos := "ref.go:240", after := #[{ on := 5, ground := Ground.data }, { on := 6, ground := Ground.data }], guard := none } : Oper)) (v := ?r13av8) rfl (by kernel_rfl) (by kernel_rfl) (by kernel_rfl) (fun _ _ _ h => h) (Or.inl ⟨by rfl, ?r13ahy8⟩) (by assumption) ?r13are8
              case r13ahy8 => (intro w hSw; (try dsimp only at hSw); go_simp; try with_reducible rfl)
              (try simp only [Act.put, List.setIfInBounds_toArray, List.set_cons_zero, List.set_cons_succ])
              refine wpAnyH_take (i := 8) (oi := ({ dst := some 60, op := Op.load 53 (Operand.tmp 59), type := 53, pos := "ref.go:240", after := #[{ on := 7, ground := Ground.data }], guard := none } : Oper)) (v := ?r13av9) rfl (by kernel_rfl) (by kernel_rfl) (by kernel_rfl) (fun _ _ _ h => h) (Or.inl ⟨by rfl, ?r13ahy9⟩) (by assumption) ?r13are9
              case r13ahy9 => (intro w hSw; (try dsimp only at hSw); go_simp; try with_reducible rfl)
              (try simp only [Act.put, List.setIfInBounds_toArray, List.set_cons_zero, List.set_cons_succ])
              refine wpAnyH_take (i := 9) (oi := ({ dst := some 61, op := Op.indexAddr 53 (Operand.tmp 60) (Operand.const (Value.int IntKind.i64 1)), type := 0, pos := "ref.go:240", after := #[{ on := 8, ground := Ground.data }], guard := none } : Oper)) (v := ?r13av10) rfl (by kernel_rfl) (by kernel_rfl) (by kernel_rfl) (fun _ _ _ h => h) (Or.inl ⟨by rfl, ?r13ahy10⟩) (by assumption) ?r13are10
              case r13ahy10 => (intro w hSw; (try dsimp only at hSw); go_simp; try with_reducible rfl)
              (try simp only [Act.put, List.setIfInBounds_toArray, List.set_cons_zero, List.set_cons_succ])
              refine wpAnyH_take (i := 10) (oi := ({ dst := some 62, op := Op.load 3 (Operand.tmp 61), type := 3, pos := "ref.go:240", after := #[{ on := 9, ground := Ground.data }], guard := none } : Oper)) (v := ?r13av11) rfl (by kernel_rfl) (by kernel_rfl) (by kernel_rfl) (fun _ _ _ h => h) (Or.inl ⟨by rfl, ?r13ahy11⟩) (by assumption) ?r13are11
              case r13ahy11 => (intro w hSw; (try dsimp only at hSw); go_simp; try with_reducible rfl)
              (try simp only [Act.put, List.setIfInBounds_toArray, List.set_cons_zero, List.set_cons_succ])
              refine wpAnyH_take (i := 11) (oi := ({ dst := some 63, op := Op.move (Operand.tmp 9), type := 63, pos := "ref.go:240", after := #[], guard := none } : Oper)) (v := ?r13av12) rfl (by kernel_rfl) (by kernel_rfl) (by kernel_rfl) (fun _ _ _ h => h) (Or.inl ⟨by rfl, ?r13ahy12⟩) (by assumption) ?r13are12
              case r13ahy12 => (intro w hSw; (try dsimp only at hSw); go_simp; try with_reducible rfl)
              (try simp only [Act.put, List.setIfInBounds_toArray, List.set_cons_zero, List.set_cons_succ])
              refine wpAnyH_take (i := 12) (oi := ({ dst := some 64, op := Op.indexAddr 63 (Operand.tmp 63) (Operand.const (Value.int IntKind.i64 0)), type := 0, pos := "ref.go:240", after := #[{ on := 11, ground := Ground.data }], guard := none } : Oper)) (v := ?r13av13) rfl (by kernel_rfl) (by kernel_rfl) (by kernel_rfl) (fun _ _ _ h => h) (Or.inl ⟨by rfl, ?r13ahy13⟩) (by assumption) ?r13are13
              case r13ahy13 => (intro w hSw; (try dsimp only at hSw); go_simp; try with_reducible rfl)
              (try simp only [Act.put, List.setIfInBounds_toArray, List.set_cons_zero, List.set_cons_succ])
              refine wpAnyH_take (i := 13) (oi := ({ dst := some 65, op := Op.load 26 (Operand.tmp 64), type := 26, pos := "ref.go:240", after := #[{ on := 12, ground := Ground.data }], guard := none } : Oper)) (v := ?r13av14) rfl (by kernel_rfl) (by kernel_rfl) (by kernel_rfl) (fun _ _ _ h => h) (Or.inl ⟨by rfl, ?r13ahy14⟩) (by assumption) ?r13are14
              case r13ahy14 => (intro w hSw; (try dsimp only at hSw); go_simp; try with_reducible rfl)
              (try simp only [Act.put, List.setIfInBounds_toArray, List.set_cons_zero, List.set_cons_succ])
              refine wpAnyH_ready (rs := [14]) (by kernel_rfl) (by simp) ?_
              refine AllReadyH.cons (o := ({ dst := some 66, op := Op.call { callee := Callee.value (Operand.func 35), args := #[Operand.tmp 54, Operand.tmp 55, Operand.tmp 56, Operand.tmp 62, Operand.tmp 65], argTypes := #[22, 52, 63, 3, 26] }, type := 4, pos := "ref.go:240", after := #[{ on := 2, ground := Ground.data }, { on := 3, ground := Ground.data }, { on := 4, ground := Ground.data }, { on := 10, ground := Ground.data }, { on := 13, ground := Ground.data }], guard := none } : Oper)) rfl (fun K hK => ?_) AllReadyH.nil
              go_simp
              (go_at_call 35; (with_reducible refine (HFT.out _ (by (repeat' (first | (with_reducible first | exact Below.refl _ _ | assumption | refine Below.alloc ?_ ?_ _ | refine below_drewN ?_ _ | refine below_drew ?_ | refine below_ext ?_ ?_ _ _ | refine Below.setCell ?_ ?_ _) | (simp; done) | (simp; omega) | omega)))).mono ?_); rintro e9 w3 ⟨rfl, hb3⟩; have HW3 := Lib.hid ((show Below wr.heap.size wr _ by (repeat' (first | (with_reducible first | exact Below.refl _ _ | assumption | refine Below.alloc ?_ ?_ _ | refine below_drewN ?_ _ | refine below_drew ?_ | refine below_ext ?_ ?_ _ _ | refine Below.setCell ?_ ?_ _) | (simp; done) | (simp; omega) | omega))).trans (hb3.mono (by first | exact Nat.le_refl _ | (simp; done)))); clear hb3)
              refine hK.out _ _ ?r13ahS15 (fun hHeldN => ?r13arst15)
              case r13ahS15 => ((try dsimp only); exact HS.out _ HW3.out)
              clear hHeld hK K
              have hHeld := hHeldN
              clear hHeldN
              refine wpAnyH_ready (rs := [15]) (by kernel_rfl) (by simp) ?_
              refine AllReadyH.cons (o := ({ dst := some 67, op := Op.call { callee := Callee.value (Operand.func 44), args := #[Operand.tmp 66, Operand.const (Value.int IntKind.i64 1)], argTypes := #[4, 3] }, type := 28, pos := "ref.go:240", after := #[{ on := 14, ground := Ground.data }, { on := 14, ground := Ground.chain }], guard := none } : Oper)) rfl (fun K hK => ?_) AllReadyH.nil
              go_simp
              (go_at_call 44; (with_reducible refine (HMU.out _).mono ?_); rintro e9 w4 ⟨rfl, hb4⟩; have HW4 := Lib.hid (HW3.out.trans (hb4.mono HW3.out.size)); obtain ⟨m0, m1, m2, m3⟩ := HTW.out w4 HW4.out; clear hb4)
              refine hK.out _ _ ?r13ahS16 (fun hHeldN => ?r13arst16)
              case r13ahS16 => ((try dsimp only); exact HS.out _ HW4.out)
              clear hHeld hK K
              have hHeld := hHeldN
              clear hHeldN
              refine wpAnyH_take (i := 16) (oi := ({ dst := some 51, op := Op.move (Operand.tmp 67), type := 28, pos := "ref.go:240", after := #[{ on := 15, ground := Ground.data }], guard := none } : Oper)) (v := ?r13av17) rfl (by kernel_rfl) (by kernel_rfl) (by kernel_rfl) (fun _ _ _ h => h) (Or.inl ⟨by rfl, ?r13ahy17⟩) (by assumption) ?r13are17
              case r13ahy17 => (intro w hSw; (try dsimp only at hSw); go_simp; try with_reducible rfl)
              (try simp only [Act.put, List.setIfInBounds_toArray, List.set_cons_zero, List.set_cons_succ])
              refine wpAnyH_take (i := 17) (oi := ({ dst := some 68, op := Op.extract (Operand.tmp 51) 0, type := 26, pos := "ref.go:240", after := #[{ on := 16, ground := Ground.data }], guard := none } : Oper)) (v := ?r13av18) rfl (by kernel_rfl) (by kernel_rfl) (by kernel_rfl) (fun _ _ _ h => h) (Or.inl ⟨by rfl, ?r13ahy18⟩) (by assumption) ?r13are18
              case r13ahy18 => (intro w hSw; (try dsimp only at hSw); go_simp; try with_reducible rfl)
              (try simp only [Act.put, List.setIfInBounds_toArray, List.set_cons_zero, List.set_cons_succ])
              refine wpAnyH_take (i := 18) (oi := ({ dst := some 69, op := Op.extract (Operand.tmp 51) 1, type := 27, pos := "ref.go:240", after := #[{ on := 16, ground := Ground.data }, { on := 20, ground := Ground.gcOnly Departure.lateStores }], guard := none } : Oper)) (v := ?r13av19) rfl (by kernel_rfl) (by kernel_rfl) (by kernel_rfl) (fun _ _ _ h => h) (Or.inl ⟨by rfl, ?r13ahy19⟩) (by assumption) ?r13are19
              case r13ahy19 => (intro w hSw; (try dsimp only at hSw); go_simp; try with_reducible rfl)
              (try simp only [Act.put, List.setIfInBounds_toArray, List.set_cons_zero, List.set_cons_succ])
              refine wpAnyH_take (i := 19) (oi := ({ dst := some 70, op := Op.indexAddr 63 (Operand.tmp 52) (Operand.tmp 53), type := 0, pos := "ref.go:240", after := #[{ on := 0, ground := Ground.data }, { on := 1, ground := Ground.data }, { on := 0, ground := Ground.phase }, { on := 1, ground := Ground.phase }, { on := 2, ground := Ground.phase }, { on := 3, ground := Ground.phase }, { on := 4, ground := Ground.phase }, { on := 5, ground := Ground.phase }, { on := 6, ground := Ground.phase }, { on := 7, ground := Ground.phase }, { on := 8, ground := Ground.phase }, { on := 9, ground := Ground.phase }, { on := 10, ground := Ground.phase }, { on := 11, ground := Ground.phase }, { on := 12, ground := Ground.phase }, { on := 13, ground := Ground.phase }, { on := 14, ground := Ground.phase }, { on := 15, ground := Ground.phase }, { on := 16, ground := Ground.phase }, { on := 17, ground := Ground.phase }, { on := 18, ground := Ground.textOnly Departure.lateStores }], guard := none } : Oper)) (v := ?r13av20) rfl (by kernel_rfl) (by kernel_rfl) (by kernel_rfl) (fun _ _ _ h => h) (Or.inl ⟨by rfl, ?r13ahy20⟩) (by assumption) ?r13are20
              case r13ahy20 => (intro w hSw; (try dsimp only at hSw); go_simp; try with_reducible rfl)
              (try simp only [Act.put, List.setIfInBounds_toArray, List.set_cons_zero, List.set_cons_succ])
              refine wpAnyH_ready (rs := [20]) (by kernel_rfl) (by simp) ?_
              refine AllReadyH.cons (o := ({ dst := none, op := Op.store 26 (Operand.tmp 70) (Operand.tmp 68), type := 0, pos := "ref.go:240", after := #[{ on := 19, ground := Ground.data }, { on := 17, ground := Ground.data }, { on := 15, ground := Ground.chain }, { on := 0, ground := Ground.phase }, { on := 1, ground := Ground.phase }, { on := 2, ground := Ground.phase }, { on := 3, ground := Ground.phase }, { on := 4, ground := Ground.phase }, { on := 5, ground := Ground.phase }, { on := 6, ground := Ground.phase }, { on := 7, ground := Ground.phase }, { on := 8, ground := Ground.phase }, { on := 9, ground := Ground.phase }, { on := 10, ground := Ground.phase }, { on := 11, ground := Ground.phase }, { on := 12, ground := Ground.phase }, { on := 13, ground := Ground.phase }, { on := 14, ground := Ground.phase }, { on := 15, ground := Ground.phase }, { on := 16, ground := Ground.phase }, { on := 17, ground := Ground.phase }, { on := 18, ground := Ground.textOnly Departure.lateStores }], guard := none } : Oper)) rfl (fun K hK => ?_) AllReadyH.nil
              go_simp
              refine hK.out _ _ ?r13ahS21 (fun hHeldN => ?r13arst21)
              case r13ahS21 => ((try dsimp only); exact HST.out _ _ _ HW4.out)
              clear hHeld hK K
              have hHeld := hHeldN
              clear hHeldN
              refine wpAnyH_ready (rs := [21]) (by kernel_rfl) (by simp) ?_
              refine AllReadyH.cons (o := ({ dst := some 11, op := Op.assign (Operand.tmp 69), type := 27, pos := "ref.go:240", after := #[{ on := 18, ground := Ground.data }, { on := 20, ground := Ground.chain }, { on := 0, ground := Ground.phase }, { on := 1, ground := Ground.phase }, { on := 2, ground := Ground.phase }, { on := 3, ground := Ground.phase }, { on := 4, ground := Ground.phase }, { on := 5, ground := Ground.phase }, { on := 6, ground := Ground.phase }, { on := 7, ground := Ground.phase }, { on := 8, ground := Ground.phase }, { on := 9, ground := Ground.phase }, { on := 10, ground := Ground.phase }, { on := 11, ground := Ground.phase }, { on := 12, ground := Ground.phase }, { on := 13, ground := Ground.phase }, { on := 14, ground := Ground.phase }, { on := 15, ground := Ground.phase }, { on := 16, ground := Ground.phase }, { on := 17, ground := Ground.phase }, { on := 18, ground := Ground.phase }, { on := 19, ground := Ground.phase }, { on := 20, ground := Ground.phase }], guard := none } : Oper)) rfl (fun K hK => ?_) AllReadyH.nil
              go_simp
              refine hK.out _ _ ?r13ahS22 (fun hHeldN => ?r13arst22)
              case r13ahS22 => ((try dsimp only); exact HST.out _ _ _ HW4.out)
              clear hHeld hK K
              have hHeld := hHeldN
              clear hHeldN
              (try simp only [Act.put, List.setIfInBounds_toArray, List.set_cons_zero, List.set_cons_succ])
              refine wpAnyH_done (by kernel_rfl) ?_ _
              clear hHeld
              go_wp2
              go_roundw
              case rel => exact ⟨i + 1, T ++ [(1, 0)], by go_num, by omega, by rw [List.length_append, hTl]; rfl, Lib.hid (TRow.store (HTR.out w4 (HB2.out.trans (HW4.out.mono hs2))) hlt hTl (1, 0)), Lib.hid ((HW9.out w4 (HB2.out.trans (HW4.out.mono hs2))).2.trans (by (repeat' (first | (with_reducible first | exact Below.refl _ _ | assumption | refine Below.alloc ?_ ?_ _ | refine below_drewN ?_ _ | refine below_drew ?_ | refine below_ext ?_ ?_ _ _ | refine Below.setCell ?_ ?_ _) | (simp; done) | (simp; omega) | omega)))), Lib.hid (HGO.out (by first | rfl | trivial))⟩
              case measure => simp [intOf]; omega
            | false =>
              have HMU := Lib.hid (show ∀ w, Calls Tryz.prog 44 #[.bool false, .int .i64 1] w fun e w' => e = .returned (.tuple #[.agg #[.int .i64 0, .int .i64 0], .int .i64 9]) ∧ Below w.heap.size w w' from fun w => rmust_any false 1 w)
              have hh : ((u1, u2), er) = (((0 : Int), (0 : Int)), (9 : Int)) := hHO
              simp only [Prod.mk.injEq] at hh
              obtain ⟨⟨rfl, rfl⟩, rfl⟩ := hh
              clear hHO
              go_upto_region 13 with fail
              refine wp_region_held_drew (S := fun w' => w'.cell? ⟨gx, i, none⟩ = some (.slice (some ⟨gq, oq, none⟩) k qc) ∧ w'.cell? ⟨gq, oq + 1, none⟩ = some (.int .i64 (pb : Int)) ∧ w'.cell? ⟨gl, 0, none⟩ = some (.int .i64 y1) ∧ w'.cell? ⟨gl, 1, none⟩ = some (.int .i64 y2)) (by kernel_rfl) ?r13bhSa (fun hHeld => ?r13bresta)
              case r13bhSa => ((try dsimp only); exact HS.out _ (by (repeat' (first | (with_reducible first | exact Below.refl _ _ | assumption | refine Below.alloc ?_ ?_ _ | refine below_drewN ?_ _ | refine below_drew ?_ | refine below_ext ?_ ?_ _ _ | refine Below.setCell ?_ ?_ _) | (simp; done) | (simp; omega) | omega))))
              refine wpAnyH_take (i := 0) (oi := ({ dst := some 52, op := Op.move (Operand.tmp 7), type := 63, pos := "ref.go:240", after := #[], guard := none } : Oper)) (v := ?r13bv1) rfl (by kernel_rfl) (by kernel_rfl) (by kernel_rfl) (fun _ _ _ h => h) (Or.inl ⟨by rfl, ?r13bhy1⟩) (by assumption) ?r13bre1
              case r13bhy1 => (intro w hSw; (try dsimp only at hSw); go_simp; try with_reducible rfl)
              (try simp only [Act.put, List.setIfInBounds_toArray, List.set_cons_zero, List.set_cons_succ])
              refine wpAnyH_take (i := 1) (oi := ({ dst := some 53, op := Op.move (Operand.tmp 8), type := 3, pos := "ref.go:240", after := #[], guard := none } : Oper)) (v := ?r13bv2) rfl (by kernel_rfl) (by kernel_rfl) (by kernel_rfl) (fun _ _ _ h => h) (Or.inl ⟨by rfl, ?r13bhy2⟩) (by assumption) ?r13bre2
              case r13bhy2 => (intro w hSw; (try dsimp only at hSw); go_simp; try with_reducible rfl)
              (try simp only [Act.put, List.setIfInBounds_toArray, List.set_cons_zero, List.set_cons_succ])
              refine wpAnyH_take (i := 2) (oi := ({ dst := some 54, op := Op.move (Operand.tmp 0), type := 22, pos := "ref.go:240", after := #[], guard := none } : Oper)) (v := ?r13bv3) rfl (by kernel_rfl) (by kernel_rfl) (by kernel_rfl) (fun _ _ _ h => h) (Or.inl ⟨by rfl, ?r13bhy3⟩) (by assumption) ?r13bre3
              case r13bhy3 => (intro w hSw; (try dsimp only at hSw); go_simp; try with_reducible rfl)
              (try simp only [Act.put, List.setIfInBounds_toArray, List.set_cons_zero, List.set_cons_succ])
              refine wpAnyH_take (i := 3) (oi := ({ dst := some 55, op := Op.move (Operand.tmp 6), type := 52, pos := "ref.go:240", after := #[], guard := none } : Oper)) (v := ?r13bv4) rfl (by kernel_rfl) (by kernel_rfl) (by kernel_rfl) (fun _ _ _ h => h) (Or.inl ⟨by rfl, ?r13bhy4⟩) (by assumption) ?r13bre4
              case r13bhy4 => (intro w hSw; (try dsimp only at hSw); go_simp; try with_reducible rfl)
              (try simp only [Act.put, List.setIfInBounds_toArray, List.set_cons_zero, List.set_cons_succ])
              refine wpAnyH_take (i := 4) (oi := ({ dst := some 56, op := Op.move (Operand.tmp 7), type := 63, pos := "ref.go:240", after := #[], guard := none } : Oper)) (v := ?r13bv5) rfl (by kernel_rfl) (by kernel_rfl) (by kernel_rfl) (fun _ _ _ h => h) (Or.inl ⟨by rfl, ?r13bhy5⟩) (by assumption) ?r13bre5
              case r13bhy5 => (intro w hSw; (try dsimp only at hSw); go_simp; try with_reducible rfl)
              (try simp only [Act.put, List.setIfInBounds_toArray, List.set_cons_zero, List.set_cons_succ])
              refine wpAnyH_take (i := 5) (oi := ({ dst := some 57, op := Op.move (Operand.tmp 6), type := 52, pos := "ref.go:240", after := #[], guard := none } : Oper)) (v := ?r13bv6) rfl (by kernel_rfl) (by kernel_rfl) (by kernel_rfl) (fun _ _ _ h => h) (Or.inl ⟨by rfl, ?r13bhy6⟩) (by assumption) ?r13bre6
              case r13bhy6 => (intro w hSw; (try dsimp only at hSw); go_simp; try with_reducible rfl)
              (try simp only [Act.put, List.setIfInBounds_toArray, List.set_cons_zero, List.set_cons_succ])
              refine wpAnyH_take (i := 6) (oi := ({ dst := some 58, op := Op.move (Operand.tmp 8), type := 3, pos := "ref.go:240", after := #[], guard := none } : Oper)) (v := ?r13bv7) rfl (by kernel_rfl) (by kernel_rfl) (by kernel_rfl) (fun _ _ _ h => h) (Or.inl ⟨by rfl, ?r13bhy7⟩) (by assumption) ?r13bre7
              case r13bhy7 => (intro w hSw; (try dsimp only at hSw); go_simp; try with_reducible rfl)
              (try simp only [Act.put, List.setIfInBounds_toArray, List.set_cons_zero, List.set_cons_succ])
              refine wpAnyH_take (i := 7) (oi := ({ dst := some 59, op := Op.indexAddr 52 (Operand.tmp 57) (Operand.tmp 58), type := 0, pos := "ref.go:240", after := #[{ on := 5, ground := Ground.data }, { on := 6, ground := Ground.data }], guard := none } : Oper)) (v := ?r13bv8) rfl (by kernel_rfl) (by kernel_rfl) (by kernel_rfl) (fun _ _ _ h => h) (Or.inl ⟨by rfl, ?r13bhy8⟩) (by assumption) ?r13bre8
              case r13bhy8 => (intro w hSw; (try dsimp only at hSw); go_simp; try with_reducible rfl)
              (try simp only [Act.put, List.setIfInBounds_toArray, List.set_cons_zero, List.set_cons_succ])
              refine wpAnyH_take (i := 8) (oi := ({ dst := some 60, op := Op.load 53 (Operand.tmp 59), type := 53, pos := "ref.go:240", after := #[{ on := 7, ground := Ground.data }], guard := none } : Oper)) (v := ?r13bv9) rfl (by kernel_rfl) (by kernel_rfl) (by kernel_rfl) (fun _ _ _ h => h) (Or.inl ⟨by rfl, ?r13bhy9⟩) (by assumption) ?r13bre9
              case r13bhy9 => (intro w hSw; (try dsimp only at hSw); go_simp; try with_reducible rfl)
              (try simp only [Act.put, List.setIfInBounds_toArray, List.set_cons_zero, List.set_cons_succ])
              refine wpAnyH_take (i := 9) (oi := ({ dst := some 61, op := Op.indexAddr 53 (Operand.tmp 60) (Operand.const (Value.int IntKind.i64 1)), type := 0, pos := "ref.go:240", after := #[{ on := 8, ground := Ground.data }], guard := none } : Oper)) (v := ?r13bv10) rfl (by kernel_rfl) (by kernel_rfl) (by kernel_rfl) (fun _ _ _ h => h) (Or.inl ⟨by rfl, ?r13bhy10⟩) (by assumption) ?r13bre10
              case r13bhy10 => (intro w hSw; (try dsimp only at hSw); go_simp; try with_reducible rfl)
              (try simp only [Act.put, List.setIfInBounds_toArray, List.set_cons_zero, List.set_cons_succ])
              refine wpAnyH_take (i := 10) (oi := ({ dst := some 62, op := Op.load 3 (Operand.tmp 61), type := 3, pos := "ref.go:240", after := #[{ on := 9, ground := Ground.data }], guard := none } : Oper)) (v := ?r13bv11) rfl (by kernel_rfl) (by kernel_rfl) (by kernel_rfl) (fun _ _ _ h => h) (Or.inl ⟨by rfl, ?r13bhy11⟩) (by assumption) ?r13bre11
              case r13bhy11 => (intro w hSw; (try dsimp only at hSw); go_simp; try with_reducible rfl)
              (try simp only [Act.put, List.setIfInBounds_toArray, List.set_cons_zero, List.set_cons_succ])
              refine wpAnyH_take (i := 11) (oi := ({ dst := some 63, op := Op.move (Operand.tmp 9), type := 63, pos := "ref.go:240", after := #[], guard := none } : Oper)) (v := ?r13bv12) rfl (by kernel_rfl) (by kernel_rfl) (by kernel_rfl) (fun _ _ _ h => h) (Or.inl ⟨by rfl, ?r13bhy12⟩) (by assumption) ?r13bre12
              case r13bhy12 => (intro w hSw; (try dsimp only at hSw); go_simp; try with_reducible rfl)
              (try simp only [Act.put, List.setIfInBounds_toArray, List.set_cons_zero, List.set_cons_succ])
              refine wpAnyH_take (i := 12) (oi := ({ dst := some 64, op := Op.indexAddr 63 (Operand.tmp 63) (Operand.const (Value.int IntKind.i64 0)), type := 0, pos := "ref.go:240", after := #[{ on := 11, ground := Ground.data }], guard := none } : Oper)) (v := ?r13bv13) rfl (by kernel_rfl) (by kernel_rfl) (by kernel_rfl) (fun _ _ _ h => h) (Or.inl ⟨by rfl, ?r13bhy13⟩) (by assumption) ?r13bre13
              case r13bhy13 => (intro w hSw; (try dsimp only at hSw); go_simp; try with_reducible rfl)
              (try simp only [Act.put, List.setIfInBounds_toArray, List.set_cons_zero, List.set_cons_succ])
              refine wpAnyH_take (i := 13) (oi := ({ dst := some 65, op := Op.load 26 (Operand.tmp 64), type := 26, pos := "ref.go:240", after := #[{ on := 12, ground := Ground.data }], guard := none } : Oper)) (v := ?r13bv14) rfl (by kernel_rfl) (by kernel_rfl) (by kernel_rfl) (fun _ _ _ h => h) (Or.inl ⟨by rfl, ?r13bhy14⟩) (by assumption) ?r13bre14
              case r13bhy14 => (intro w hSw; (try dsimp only at hSw); go_simp; try with_reducible rfl)
              (try simp only [Act.put, List.setIfInBounds_toArray, List.set_cons_zero, List.set_cons_succ])
              refine wpAnyH_ready (rs := [14]) (by kernel_rfl) (by simp) ?_
              refine AllReadyH.cons (o := ({ dst := some 66, op := Op.call { callee := Callee.value (Operand.func 35), args := #[Operand.tmp 54, Operand.tmp 55, Operand.tmp 56, Operand.tmp 62, Operand.tmp 65], argTypes := #[22, 52, 63, 3, 26] }, type := 4, pos := "ref.go:240", after := #[{ on := 2, ground := Ground.data }, { on := 3, ground := Ground.data }, { on := 4, ground := Ground.data }, { on := 10, ground := Ground.data }, { on := 13, ground := Ground.data }], guard := none } : Oper)) rfl (fun K hK => ?_) AllReadyH.nil
              go_simp
              (go_at_call 35; (with_reducible refine (HFT.out _ (by (repeat' (first | (with_reducible first | exact Below.refl _ _ | assumption | refine Below.alloc ?_ ?_ _ | refine below_drewN ?_ _ | refine below_drew ?_ | refine below_ext ?_ ?_ _ _ | refine Below.setCell ?_ ?_ _) | (simp; done) | (simp; omega) | omega)))).mono ?_); rintro e9 w3 ⟨rfl, hb3⟩; have HW3 := Lib.hid ((show Below wr.heap.size wr _ by (repeat' (first | (with_reducible first | exact Below.refl _ _ | assumption | refine Below.alloc ?_ ?_ _ | refine below_drewN ?_ _ | refine below_drew ?_ | refine below_ext ?_ ?_ _ _ | refine Below.setCell ?_ ?_ _) | (simp; done) | (simp; omega) | omega))).trans (hb3.mono (by first | exact Nat.le_refl _ | (simp; done)))); clear hb3)
              refine hK.out _ _ ?r13bhS15 (fun hHeldN => ?r13brst15)
              case r13bhS15 => ((try dsimp only); exact HS.out _ HW3.out)
              clear hHeld hK K
              have hHeld := hHeldN
              clear hHeldN
              refine wpAnyH_ready (rs := [15]) (by kernel_rfl) (by simp) ?_
              refine AllReadyH.cons (o := ({ dst := some 67, op := Op.call { callee := Callee.value (Operand.func 44), args := #[Operand.tmp 66, Operand.const (Value.int IntKind.i64 1)], argTypes := #[4, 3] }, type := 28, pos := "ref.go:240", after := #[{ on := 14, ground := Ground.data }, { on := 14, ground := Ground.chain }], guard := none } : Oper)) rfl (fun K hK => ?_) AllReadyH.nil
              go_simp
              (go_at_call 44; (with_reducible refine (HMU.out _).mono ?_); rintro e9 w4 ⟨rfl, hb4⟩; have HW4 := Lib.hid (HW3.out.trans (hb4.mono HW3.out.size)); obtain ⟨m0, m1, m2, m3⟩ := HTW.out w4 HW4.out; clear hb4)
              refine hK.out _ _ ?r13bhS16 (fun hHeldN => ?r13brst16)
              case r13bhS16 => ((try dsimp only); exact HS.out _ HW4.out)
              clear hHeld hK K
              have hHeld := hHeldN
              clear hHeldN
              refine wpAnyH_take (i := 16) (oi := ({ dst := some 51, op := Op.move (Operand.tmp 67), type := 28, pos := "ref.go:240", after := #[{ on := 15, ground := Ground.data }], guard := none } : Oper)) (v := ?r13bv17) rfl (by kernel_rfl) (by kernel_rfl) (by kernel_rfl) (fun _ _ _ h => h) (Or.inl ⟨by rfl, ?r13bhy17⟩) (by assumption) ?r13bre17
              case r13bhy17 => (intro w hSw; (try dsimp only at hSw); go_simp; try with_reducible rfl)
              (try simp only [Act.put, List.setIfInBounds_toArray, List.set_cons_zero, List.set_cons_succ])
              refine wpAnyH_take (i := 17) (oi := ({ dst := some 68, op := Op.extract (Operand.tmp 51) 0, type := 26, pos := "ref.go:240", after := #[{ on := 16, ground := Ground.data }], guard := none } : Oper)) (v := ?r13bv18) rfl (by kernel_rfl) (by kernel_rfl) (by kernel_rfl) (fun _ _ _ h => h) (Or.inl ⟨by rfl, ?r13bhy18⟩) (by assumption) ?r13bre18
              case r13bhy18 => (intro w hSw; (try dsimp only at hSw); go_simp; try with_reducible rfl)
              (try simp only [Act.put, List.setIfInBounds_toArray, List.set_cons_zero, List.set_cons_succ])
              refine wpAnyH_take (i := 18) (oi := ({ dst := some 69, op := Op.extract (Operand.tmp 51) 1, type := 27, pos := "ref.go:240", after := #[{ on := 16, ground := Ground.data }, { on := 20, ground := Ground.gcOnly Departure.lateStores }], guard := none } : Oper)) (v := ?r13bv19) rfl (by kernel_rfl) (by kernel_rfl) (by kernel_rfl) (fun _ _ _ h => h) (Or.inl ⟨by rfl, ?r13bhy19⟩) (by assumption) ?r13bre19
              case r13bhy19 => (intro w hSw; (try dsimp only at hSw); go_simp; try with_reducible rfl)
              (try simp only [Act.put, List.setIfInBounds_toArray, List.set_cons_zero, List.set_cons_succ])
              refine wpAnyH_take (i := 19) (oi := ({ dst := some 70, op := Op.indexAddr 63 (Operand.tmp 52) (Operand.tmp 53), type := 0, pos := "ref.go:240", after := #[{ on := 0, ground := Ground.data }, { on := 1, ground := Ground.data }, { on := 0, ground := Ground.phase }, { on := 1, ground := Ground.phase }, { on := 2, ground := Ground.phase }, { on := 3, ground := Ground.phase }, { on := 4, ground := Ground.phase }, { on := 5, ground := Ground.phase }, { on := 6, ground := Ground.phase }, { on := 7, ground := Ground.phase }, { on := 8, ground := Ground.phase }, { on := 9, ground := Ground.phase }, { on := 10, ground := Ground.phase }, { on := 11, ground := Ground.phase }, { on := 12, ground := Ground.phase }, { on := 13, ground := Ground.phase }, { on := 14, ground := Ground.phase }, { on := 15, ground := Ground.phase }, { on := 16, ground := Ground.phase }, { on := 17, ground := Ground.phase }, { on := 18, ground := Ground.textOnly Departure.lateStores }], guard := none } : Oper)) (v := ?r13bv20) rfl (by kernel_rfl) (by kernel_rfl) (by kernel_rfl) (fun _ _ _ h => h) (Or.inl ⟨by rfl, ?r13bhy20⟩) (by assumption) ?r13bre20
              case r13bhy20 => (intro w hSw; (try dsimp only at hSw); go_simp; try with_reducible rfl)
              (try simp only [Act.put, List.setIfInBounds_toArray, List.set_cons_zero, List.set_cons_succ])
              refine wpAnyH_ready (rs := [20]) (by kernel_rfl) (by simp) ?_
              refine AllReadyH.cons (o := ({ dst := none, op := Op.store 26 (Operand.tmp 70) (Operand.tmp 68), type := 0, pos := "ref.go:240", after := #[{ on := 19, ground := Ground.data }, { on := 17, ground := Ground.data }, { on := 15, ground := Ground.chain }, { on := 0, ground := Ground.phase }, { on := 1, ground := Ground.phase }, { on := 2, ground := Ground.phase }, { on := 3, ground := Ground.phase }, { on := 4, ground := Ground.phase }, { on := 5, ground := Ground.phase }, { on := 6, ground := Ground.phase }, { on := 7, ground := Ground.phase }, { on := 8, ground := Ground.phase }, { on := 9, ground := Ground.phase }, { on := 10, ground := Ground.phase }, { on := 11, ground := Ground.phase }, { on := 12, ground := Ground.phase }, { on := 13, ground := Ground.phase }, { on := 14, ground := Ground.phase }, { on := 15, ground := Ground.phase }, { on := 16, ground := Ground.phase }, { on := 17, ground := Ground.phase }, { on := 18, ground := Ground.textOnly Departure.lateStores }], guard := none } : Oper)) rfl (fun K hK => ?_) AllReadyH.nil
              go_simp
              refine hK.out _ _ ?r13bhS21 (fun hHeldN => ?r13brst21)
              case r13bhS21 => ((try dsimp only); exact HST.out _ _ _ HW4.out)
              clear hHeld hK K
              have hHeld := hHeldN
              clear hHeldN
              refine wpAnyH_ready (rs := [21]) (by kernel_rfl) (by simp) ?_
              refine AllReadyH.cons (o := ({ dst := some 11, op := Op.assign (Operand.tmp 69), type := 27, pos := "ref.go:240", after := #[{ on := 18, ground := Ground.data }, { on := 20, ground := Ground.chain }, { on := 0, ground := Ground.phase }, { on := 1, ground := Ground.phase }, { on := 2, ground := Ground.phase }, { on := 3, ground := Ground.phase }, { on := 4, ground := Ground.phase }, { on := 5, ground := Ground.phase }, { on := 6, ground := Ground.phase }, { on := 7, ground := Ground.phase }, { on := 8, ground := Ground.phase }, { on := 9, ground := Ground.phase }, { on := 10, ground := Ground.phase }, { on := 11, ground := Ground.phase }, { on := 12, ground := Ground.phase }, { on := 13, ground := Ground.phase }, { on := 14, ground := Ground.phase }, { on := 15, ground := Ground.phase }, { on := 16, ground := Ground.phase }, { on := 17, ground := Ground.phase }, { on := 18, ground := Ground.phase }, { on := 19, ground := Ground.phase }, { on := 20, ground := Ground.phase }], guard := none } : Oper)) rfl (fun K hK => ?_) AllReadyH.nil
              go_simp
              refine hK.out _ _ ?r13bhS22 (fun hHeldN => ?r13brst22)
              case r13bhS22 => ((try dsimp only); exact HST.out _ _ _ HW4.out)
              clear hHeld hK K
              have hHeld := hHeldN
              clear hHeldN
              (try simp only [Act.put, List.setIfInBounds_toArray, List.set_cons_zero, List.set_cons_succ])
              refine wpAnyH_done (by kernel_rfl) ?_ _
              clear hHeld
              go_wp2
              go_ret2
              rw [HNO.out (by decide)]
              exact (show TyQ ([], 9) w _ _ from ⟨(HW9.out w4 (HB2.out.trans (HW4.out.mono hs2))).1.trans (by (repeat' (first | (with_reducible first | exact Below.refl _ _ | assumption | refine Below.alloc ?_ ?_ _ | refine below_drewN ?_ _ | refine below_drew ?_ | refine below_ext ?_ ?_ _ _ | refine Below.setCell ?_ ?_ _) | (simp; done) | (simp; omega) | omega))), _, rfl, RL.nil _ _ _ _⟩)
          · have q23 : (oa == 23) = false := beq_eq_false_iff_ne.2 h23
            have hHO : ((u1, u2), er) = dyM sy ⟨oa, ka, ta, na, ca, sa, da⟩ (ps.map (tyA T)) := by rw [HON.out, if_neg h23]
            have HSM := Lib.hid (show ∀ w', Below wr.heap.size wr w' → Calls Tryz.prog 45 #[NodV oa ka ta na ha la sa da, .slice lq k lc, .slice sp sl sc] w' fun e w'' => e = .returned (.tuple #[.agg #[.int .i64 u1, .int .i64 u2], .int .i64 er]) ∧ Below w'.heap.size w' w'' from fun w' hb => by
              have hb9 := hb2.out.trans (hb.mono hs2)
              obtain ⟨h7, h8⟩ := HW9.out w' hb9
              have hs9 := (HVW.out w' h7).2.more (Nat.le_trans hn h7.size)
              have h6 := rsimple_any sy ⟨oa, ka, ta, na, ca, sa, da⟩ (ps.map (tyA T)) w'.heap.size w' _ _ (HLR.out.up hb) hs9 (Nat.le_refl _) (by rw [hml]; omega) (by have := HSL.out; omega) (by rw [List.length_map]; exact HKI.out) h23 (fun t ht => by
                obtain ⟨p, -, rfl⟩ := List.mem_map.1 ht
                exact fm_A HTF.out p)
              rw [HND.out, ← hHO] at h6
              exact h6)
            have HNC := Lib.hid (show ∀ j u, wo.cell? ⟨g, o + i * 8 + j, none⟩ = some u → wr.cell? ⟨g, o + i * 8 + j, none⟩ = some u from fun j u h => (hb2.out.cell (p := ⟨g, _, none⟩) (by omega : g < wo.heap.size)).trans h)
            have z1 := HNC.out 1 _ x1
            have z2 := HNC.out 2 _ x2
            have z3 := HNC.out 3 _ x3
            have z4 := HNC.out 4 _ x4
            have z5 := HNC.out 5 _ x5
            have z6 := HNC.out 6 _ x6
            have z7 := HNC.out 7 _ x7
            have HTW := Lib.hid (show ∀ w', Below wr.heap.size wr w' → w'.cell? ⟨w1.heap.size, i * 2, none⟩ = some (.int .i64 (tyA T i).1) ∧ w'.cell? ⟨w1.heap.size, i * 2 + 1, none⟩ = some (.int .i64 (tyA T i).2) ∧ w'.frozen? ⟨w1.heap.size, i * 2, none⟩ = false ∧ w'.frozen? ⟨w1.heap.size, i * 2 + 1, none⟩ = false from fun w' hb => by
              have h9 := HTR.out w' (hb2.out.trans (hb.mono hs2))
              exact ⟨h9.c0 i hlt, h9.c1 i hlt, h9.free _, h9.free _⟩)
            have HB2 := Lib.hid hb2.out
            clear hHO hml hlq hlc hb2 h23
            by_cases her : er = 0
            · subst her
              go_wp2_with (first
                | (go_at_call 45; (with_reducible refine (HSM.out _ (by (repeat' (first | (with_reducible first | exact Below.refl _ _ | assumption | refine Below.alloc ?_ ?_ _ | refine below_drewN ?_ _ | refine below_drew ?_ | refine below_ext ?_ ?_ _ _ | refine Below.setCell ?_ ?_ _) | (simp; done) | (simp; omega) | omega)))).mono ?_); rintro e9 w3 ⟨rfl, hb3⟩; have HW3 := Lib.hid hb3; obtain ⟨m0, m1, m2, m3⟩ := HTW.out w3 HW3.out; clear hb3))
              go_roundw
              case rel => exact ⟨i + 1, T ++ [(u1, u2)], by go_num, by omega, by rw [List.length_append, hTl]; rfl, Lib.hid (TRow.store (HTR.out w3 (HB2.out.trans (HW3.out.mono hs2))) hlt hTl (u1, u2)), Lib.hid ((HW9.out w3 (HB2.out.trans (HW3.out.mono hs2))).2.trans (by (repeat' (first | (with_reducible first | exact Below.refl _ _ | assumption | refine Below.alloc ?_ ?_ _ | refine below_drewN ?_ _ | refine below_drew ?_ | refine below_ext ?_ ?_ _ _ | refine Below.setCell ?_ ?_ _) | (simp; done) | (simp; omega) | omega)))), Lib.hid (HGO.out (by first | rfl | trivial))⟩
              case measure => simp [intOf]; omega
            · have qer : (er == 0) = false := beq_eq_false_iff_ne.2 her
              go_wp2_with (first
                | (go_at_call 45; (with_reducible refine (HSM.out _ (by (repeat' (first | (with_reducible first | exact Below.refl _ _ | assumption | refine Below.alloc ?_ ?_ _ | refine below_drewN ?_ _ | refine below_drew ?_ | refine below_ext ?_ ?_ _ _ | refine Below.setCell ?_ ?_ _) | (simp; done) | (simp; omega) | omega)))).mono ?_); rintro e9 w3 ⟨rfl, hb3⟩; have HW3 := Lib.hid hb3; obtain ⟨m0, m1, m2, m3⟩ := HTW.out w3 HW3.out; clear hb3))
              go_ret2
              rw [HNO.out her]
              exact (show TyQ ([], er) w _ _ from ⟨(HW9.out w3 (HB2.out.trans (HW3.out.mono hs2))).1.trans (by (repeat' (first | (with_reducible first | exact Below.refl _ _ | assumption | refine Below.alloc ?_ ?_ _ | refine below_drewN ?_ _ | refine below_drew ?_ | refine below_ext ?_ ?_ _ _ | refine Below.setCell ?_ ?_ _) | (simp; done) | (simp; omega) | omega))), _, rfl, RL.nil _ _ _ _⟩)
    · obtain rfl : i = len := by omega
      have hii : ¬ (i : Int) < i := by omega
      have hd : l.drop i = [] := List.drop_eq_nil_of_le (by rw [← HL.out]; exact Nat.le_refl _)
      have HRE := Lib.hid (show RES = (T, 0) by rw [← hru.out.2, hd]; rfl)
      have HRL := Lib.hid (show RL 2 tpE wr.heap.size wr (.slice (some ⟨w1.heap.size, 0, none⟩) i i) T by
        have h9 := htr.out.rl (by omega : T.length ≤ i)
        have e9 : padT T i = T := by unfold padT; rw [hTl, Nat.sub_self]; simp
        rwa [e9] at h9)
      have HB9 := Lib.hid (HB1.out.trans (hbe.out.mono hs1))
      clear hru hd htr
      go_wp2
      go_ret2
      rw [HRE.out]
      exact (show TyQ (T, 0) w _ _ from ⟨HB9.out, _, rfl, HRL.out⟩)
end Go.Proofs.YtalahkincccffaaGreatDoor
namespace Go.Proofs.YtalahkincccffaaGreatDoor
open Go.RowKit Word Txt
attribute [local go_sem] setCell_drewN cell?_ext frozen?_ext shape?_ext setCell_ext lt_1' ne_1' en_1' le_1' lt_2' ne_2' en_2' le_2' lt_3' ne_3' en_3' le_3' lt_4' ne_4' en_4' le_4' lt_5' ne_5' en_5' le_5' lt_6' ne_6' en_6' le_6' lt_7' ne_7' en_7' le_7' lt_8' ne_8' en_8' le_8' lt_9' ne_9' en_9' le_9' lt_10' ne_10' en_10' le_10' lt_11' ne_11' en_11' le_11' lt_12' ne_12' en_12' le_12'

theorem findS_none {s : ByteArray} : ∀ {l : List SyD}, findS l s = none → ∀ x ∈ l, x.s ≠ s
  | [], _, _, hx => by cases hx
  | y :: r, h, x, hx => by
    unfold findS at h
    split at h
    · cases h
    · rename_i hne
      rcases List.mem_cons.1 hx with rfl | hx
      · exact hne
      · exact findS_none h x hx
set_option maxRecDepth 100000 in
set_option maxHeartbeats 8000000 in
theorem rnames_any (sy : List SyD) (n : Nat) (w : World) (vs : Value) (hs : RL 3 syE n w vs sy) (hn : n ≤ w.heap.size) :
    Calls Tryz.prog 11 #[vs] w fun e w' => e = .returned (.int .i64 (namM sy)) ∧ Below w.heap.size w w' := by
  obtain ⟨p, c, rfl, h2⟩ := hs
  have H2 := Lib.hid h2
  obtain ⟨len, hlen⟩ : ∃ len, len = sy.length := ⟨_, rfl⟩
  have HL := Lib.hid hlen
  have hnam : namM sy = if 100 < len then 6 else if okS [] sy = true then 0 else 2 := by rw [hlen]; rfl
  rw [hnam, ← hlen]
  clear hnam h2 hlen
  by_cases h100 : 100 < len
  · rw [if_pos h100]
    have h1 : (100 : Int) < (len : Int) := by omega
    go_enter Tryz.func11, Tryz.ntmps11
    go_wp2
    go_ret
    exact ⟨rfl, by (repeat' (first | (with_reducible first | exact Below.refl _ _ | assumption | refine Below.alloc ?_ ?_ _ | refine below_drewN ?_ _ | refine below_drew ?_ | refine below_ext ?_ ?_ _ _ | refine Below.setCell ?_ ?_ _) | (simp; done) | (simp; omega) | omega))⟩
  rw [if_neg h100]
  have h1 : ¬ (100 : Int) < (len : Int) := by omega
  have h6 : len ≤ 100 := by omega
  obtain ⟨R, hR⟩ : ∃ R, R = okS [] sy := ⟨_, rfl⟩
  have HR := Lib.hid hR
  rw [← hR]
  obtain ⟨E, hE⟩ : ∃ E : Int, E = (if R = true then 0 else 2) := ⟨_, rfl⟩
  rw [← hE]
  have HEE := Lib.hid hE
  clear hR h100 hE
  go_enter Tryz.func11, Tryz.ntmps11
  go_wp2
  go_loopw [3] (fun z wr => ∃ i : Nat, z = .int .i64 i ∧ i ≤ len ∧ Hid (Below w.heap.size w wr) ∧ Hid (okS (sy.take i) (sy.drop i) = R)) (fun z _ => len - (intOf z).toNat)
  case atStart => exact ⟨0, rfl, Nat.zero_le _, Lib.hid (by (repeat' (first | (with_reducible first | exact Below.refl _ _ | assumption | refine Below.alloc ?_ ?_ _ | refine below_drewN ?_ _ | refine below_drew ?_ | refine below_ext ?_ ?_ _ _ | refine Below.setCell ?_ ?_ _) | (simp; done) | (simp; omega) | omega))), Lib.hid HR.out.symm⟩
  case round =>
    obtain ⟨i, rfl, hi, hbe, hro⟩ := hrel
    have hsw := hbe.out.size
    by_cases hil : i < len
    · have hii : (i : Int) < (len : Int) := by omega
      have hi2 : i < sy.length := by rw [← HL.out]; exact hil
      obtain ⟨g, o, rfl, hg, hc⟩ := H2.out (by omega)
      obtain ⟨s, t1, t2, hxy⟩ : ∃ s t1 t2, sy[i] = ⟨s, (t1, t2)⟩ := ⟨_, _, _, rfl⟩
      have hgr : g < wr.heap.size := by omega
      have hgw : g < w.heap.size := by omega
      have HC := Lib.hid (show ∀ w', Below w.heap.size w w' → ∀ j (h : j < sy.length), w'.cell? ⟨g, o + j * 3, none⟩ = some (.string sy[j].s) from fun w' hb j h => (hb.cell (p := ⟨g, _, none⟩) hgw).trans (hc j h 0 _ rfl))
      have c0 : wr.cell? ⟨g, o + i * 3, none⟩ = some (.string s) := by have := HC.out wr hbe.out i hi2; rwa [hxy] at this
      have c1 : wr.cell? ⟨g, o + i * 3 + 1, none⟩ = some (.int .i64 t1) := (hbe.out.cell (p := ⟨g, _, none⟩) hgw).trans (hc i hi2 1 _ (by rw [hxy]; rfl))
      have c2 : wr.cell? ⟨g, o + i * 3 + 2, none⟩ = some (.int .i64 t2) := (hbe.out.cell (p := ⟨g, _, none⟩) hgw).trans (hc i hi2 2 _ (by rw [hxy]; rfl))
      have HRO := Lib.hid (show R = ((findS (sy.take i) s).isNone && (nmB s && (tform t1 t2 && okS (sy.take (i + 1)) (sy.drop (i + 1))))) by
        rw [← hro.out, List.drop_eq_getElem_cons hi2, hxy, List.take_add_one, List.getElem?_eq_getElem hi2, hxy]; rfl)
      have HN := Lib.hid (fun w => rnm_is s w)
      have HF := Lib.hid (fun w => kdform_any t1 t2 w)
      have HSS := Lib.hid (show sy[i].s = s by rw [hxy])
      generalize nmB s = nm at HRO HN
      generalize tform t1 t2 = fm at HRO HF
      clear hro hxy hc
      cases nm with
      | false =>
        have HE2 := Lib.hid (show E = 2 by rw [HEE.out, HRO.out]; simp)
        go_wp2_with (first
          | (go_at_call 25; (with_reducible refine (HN.out _).mono ?_); rintro e9 w9 ⟨rfl, h9⟩; obtain rfl : wr = w9 := h9.symm))
        go_ret
        exact ⟨by rw [HE2.out]; rfl, hbe.out.trans (show Below w.heap.size wr _ by (repeat' (first | (with_reducible first | exact Below.refl _ _ | assumption | refine Below.alloc ?_ ?_ _ | refine below_drewN ?_ _ | refine below_drew ?_ | refine below_ext ?_ ?_ _ _ | refine Below.setCell ?_ ?_ _) | (simp; done) | (simp; omega) | omega)))⟩
      | true =>
        cases fm with
        | false =>
          have HE2 := Lib.hid (show E = 2 by rw [HEE.out, HRO.out]; simp)
          go_wp2_with (first
            | (go_at_call 25; (with_reducible refine (HN.out _).mono ?_); rintro e9 w9 ⟨rfl, h9⟩; obtain rfl : wr = w9 := h9.symm)
            | (go_at_call 18; ((with_reducible refine (HF.out _).mono ?_); rintro e w1 ⟨rfl, hb1⟩; obtain ⟨osF, dF, rfl⟩ := ext_of_below hb1; clear hb1)))
          go_ret
          exact ⟨by rw [HE2.out]; rfl, hbe.out.trans (show Below w.heap.size wr _ by (repeat' (first | (with_reducible first | exact Below.refl _ _ | assumption | refine Below.alloc ?_ ?_ _ | refine below_drewN ?_ _ | refine below_drew ?_ | refine below_ext ?_ ?_ _ _ | refine Below.setCell ?_ ?_ _) | (simp; done) | (simp; omega) | omega)))⟩
        | true =>
          have HRO2 := Lib.hid (show R = ((findS (sy.take i) s).isNone && okS (sy.take (i + 1)) (sy.drop (i + 1))) by rw [HRO.out]; rfl)
          clear HRO
          go_upto_region 9 with (first
            | (go_at_call 25; (with_reducible refine (HN.out _).mono ?_); rintro e9 w9 ⟨rfl, h9⟩; obtain rfl : wr = w9 := h9.symm)
            | (go_at_call 18; ((with_reducible refine (HF.out _).mono ?_); rintro e w1 ⟨rfl, hb1⟩; obtain ⟨osF, dF, rfl⟩ := ext_of_below hb1; clear hb1)))
          refine cutX (fun W => Below w.heap.size w W) (hbe.out.trans (show Below w.heap.size wr _ by (repeat' (first | (with_reducible first | exact Below.refl _ _ | assumption | refine Below.alloc ?_ ?_ _ | refine below_drewN ?_ _ | refine below_drew ?_ | refine below_ext ?_ ?_ _ _ | refine Below.setCell ?_ ?_ _) | (simp; done) | (simp; omega) | omega)))) ?_
          intro W hbW
          have HBW := Lib.hid hbW
          clear hbe c0 c1 c2 hsw hgr hbW
          go_wp2
          go_loopw [4] (fun z w2 => ∃ k : Nat, z = .int .i64 k ∧ k ≤ i ∧ Hid (Below w.heap.size w w2) ∧ Hid (findS (sy.take k) s = none)) (fun z _ => i - (intOf z).toNat)
          case atStart => exact ⟨0, rfl, Nat.zero_le _, HBW, Lib.hid rfl⟩
          case round =>
            obtain ⟨k, rfl, hk, hb2, hfs⟩ := hrel
            have hs2 := hb2.out.size
            by_cases hki : k < i
            · have hkk : (k : Int) < (i : Int) := by omega
              have hkl : (k : Int) < (len : Int) := by omega
              have hk2 : k < sy.length := by omega
              have c0 := HC.out wr hb2.out k hk2
              have c1 := HC.out wr hb2.out i hi2
              rw [HSS.out] at c1
              obtain ⟨s2, hs2e⟩ : ∃ s2, s2 = sy[k].s := ⟨_, rfl⟩
              rw [← hs2e] at c0
              have hgr : g < wr.heap.size := by omega
              by_cases hss : s2 = s
              · have HE2 := Lib.hid (show E = 2 by
                  rw [HEE.out, HRO2.out]
                  cases hq : findS (sy.take i) s with
                  | none =>
                    refine absurd (hs2e.symm.trans hss) (findS_none hq sy[k] ?_)
                    have h9 : (sy.take i)[k]? = some sy[k] := by rw [List.getElem?_take, if_pos hki, List.getElem?_eq_getElem hk2]
                    exact List.mem_of_getElem? h9
                  | some q => rfl)
                have hsq : (s2.toList == s.toList) = true := by rw [hss]; simp
                clear hs2e hss hfs
                go_upto_region 11 with fail
                go_region
                go_wp2
                go_ret
                exact ⟨by rw [HE2.out]; rfl, hb2.out.trans (show Below w.heap.size wr _ by (repeat' (first | (with_reducible first | exact Below.refl _ _ | assumption | refine Below.alloc ?_ ?_ _ | refine below_drewN ?_ _ | refine below_drew ?_ | refine below_ext ?_ ?_ _ _ | refine Below.setCell ?_ ?_ _) | (simp; done) | (simp; omega) | omega)))⟩
              · have hsq : (s2.toList == s.toList) = false := by
                  rw [beq_eq_false_iff_ne]
                  intro e
                  rw [ByteArray.toList_eq, ByteArray.toList_eq] at e
                  exact hss (dataN_inj e)
                have HF2 := Lib.hid (show findS (sy.take (k + 1)) s = none by
                  rw [List.take_add_one, List.getElem?_eq_getElem hk2]
                  show findS (sy.take k ++ [sy[k]]) s = none
                  rw [findS_snoc, hfs.out]
                  show (if sy[k].s = s then _ else none) = none
                  rw [if_neg (by rw [← hs2e]; exact hss)])
                clear hs2e hss hfs
                go_upto_region 11 with fail
                go_region
                go_wp2
                go_roundw
                case rel => exact ⟨k + 1, by go_num, by omega, Lib.hid (hb2.out.trans (show Below w.heap.size wr _ by (repeat' (first | (with_reducible first | exact Below.refl _ _ | assumption | refine Below.alloc ?_ ?_ _ | refine below_drewN ?_ _ | refine below_drew ?_ | refine below_ext ?_ ?_ _ _ | refine Below.setCell ?_ ?_ _) | (simp; done) | (simp; omega) | omega)))), HF2⟩
                case measure => simp [intOf]; omega
            · obtain rfl : k = i := by omega
              have hkk : ¬ (k : Int) < k := by omega
              have HF0 := Lib.hid (show okS (sy.take (k + 1)) (sy.drop (k + 1)) = R by rw [HRO2.out, hfs.out]; rfl)
              go_wp2
              go_roundw
              case rel => exact ⟨k + 1, by go_num, by omega, Lib.hid (hb2.out.trans (show Below w.heap.size wr _ by (repeat' (first | (with_reducible first | exact Below.refl _ _ | assumption | refine Below.alloc ?_ ?_ _ | refine below_drewN ?_ _ | refine below_drew ?_ | refine below_ext ?_ ?_ _ _ | refine Below.setCell ?_ ?_ _) | (simp; done) | (simp; omega) | omega)))), HF0⟩
              case measure => simp [intOf]; omega
    · obtain rfl : i = len := by omega
      have hii : ¬ (i : Int) < i := by omega
      have HE0 := Lib.hid (show E = 0 by
        rw [HEE.out, ← hro.out, List.drop_eq_nil_of_le (by rw [← HL.out]; exact Nat.le_refl _)]; rfl)
      go_wp2
      go_ret
      exact ⟨by rw [HE0.out]; rfl, hbe.out.trans (show Below w.heap.size wr _ by (repeat' (first | (with_reducible first | exact Below.refl _ _ | assumption | refine Below.alloc ?_ ?_ _ | refine below_drewN ?_ _ | refine below_drew ?_ | refine below_ext ?_ ?_ _ _ | refine Below.setCell ?_ ?_ _) | (simp; done) | (simp; omega) | omega)))⟩
end Go.Proofs.YtalahkincccffaaGreatDoor
