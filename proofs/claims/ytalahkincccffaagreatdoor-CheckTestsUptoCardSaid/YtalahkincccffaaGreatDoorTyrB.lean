/-
  The document's types: of a call, of a list.
-/
import Derived.Test.YtalahkincccffaaGreatDoorTyrA
namespace Go.Proofs.YtalahkincccffaaGreatDoor
open Go.RowKit Word Txt
attribute [local go_sem] setCell_drewN cell?_ext frozen?_ext shape?_ext setCell_ext lt_1' ne_1' en_1' le_1' lt_2' ne_2' en_2' le_2' lt_3' ne_3' en_3' le_3' lt_4' ne_4' en_4' le_4' lt_5' ne_5' en_5' le_5' lt_6' ne_6' en_6' le_6' lt_7' ne_7' en_7' le_7' lt_8' ne_8' en_8' le_8' lt_9' ne_9' en_9' le_9' lt_10' ne_10' en_10' le_10' lt_11' ne_11' en_11' le_11' lt_12' ne_12' en_12' le_12'

set_option maxRecDepth 100000 in
set_option maxHeartbeats 8000000 in
theorem rcall_any (s : ByteArray) (ts : List Ty) (n : Nat) (w : World) (v : Value) (hv : RL 2 tpE n w v ts) (hn : n ≤ w.heap.size) (hl : ts.length ≤ 1000) (hf : ∀ t ∈ ts, FmT t) :
    Calls Tryz.prog 70 #[.string s, v] w fun en w' => en = .returned (.tuple #[TyV (calM s ts).1, .int .i64 (calM s ts).2]) ∧ Below w.heap.size w w' := by
  have HF := Lib.hid (fun w' => rfunction_any s w')
  have hcal : calM s ts = match fnOf s with
    | none => ((0, 0), 8)
    | some q => if eqfM ts q.1 = true then (q.2, 0) else ((0, 0), 9) := rfl
  cases hfn : fnOf s with
  | none =>
    rw [hfn] at HF hcal
    have hcal2 : calM s ts = ((0, 0), 8) := hcal
    rw [hcal2]
    clear hcal hcal2 hfn hv hf
    go_enter Tryz.func70, Tryz.ntmps70
    go_wp2_with (go_at_call 87; (with_reducible refine (HF.out _).mono ?_); rintro e w1 ⟨rfl, hb1⟩; obtain ⟨osF, dF, rfl⟩ := ext_of_below hb1; clear hb1)
    go_returns
    exact ⟨rfl, by (repeat' (first | (with_reducible first | exact Below.refl _ _ | assumption | refine Below.alloc ?_ ?_ _ | refine below_drewN ?_ _ | refine below_drew ?_ | refine below_ext ?_ ?_ _ _ | refine Below.setCell ?_ ?_ _) | (simp; done) | (simp; omega) | omega))⟩
  | some q =>
    have hqf := (fn_fm hfn).2
    rw [hfn] at HF hcal
    obtain ⟨qs, q1, q2⟩ := q
    have hcal2 : calM s ts = if eqfM ts qs = true then ((q1, q2), 0) else ((0, 0), 9) := hcal
    rw [hcal2]
    obtain ⟨p, c, rfl, -⟩ := id hv
    by_cases hlen : ts.length = qs.length
    · have HX := Lib.hid (fun w' (hb : Below w.heap.size w w') i (hi : i < ts.length) => rl_ty hv (hb.mono hn) hi)
      have HM := Lib.hid (fun a (ha : a ∈ ts) b (hb : b ∈ qs) w => rMeet_any a b (hf a ha) (hqf b hb) w)
      obtain ⟨R, hR⟩ : ∃ R, R = eqfM ts qs := ⟨_, rfl⟩
      have HR := Lib.hid hR
      rw [← hR]
      obtain ⟨RT, hRT⟩ : ∃ RT : Ty × Int, RT = (if R = true then ((q1, q2), 0) else ((0, 0), 9)) := ⟨_, rfl⟩
      rw [← hRT]
      have HRT := Lib.hid hRT
      clear hRT
      obtain ⟨len, hln⟩ : ∃ len, ts.length = len := ⟨_, rfl⟩
      have HLN := Lib.hid hln
      have HLM := Lib.hid (show qs.length = len by rw [← hlen, hln])
      rw [hln] at hl ⊢
      clear hcal hcal2 hfn hqf hf hv hR hln hlen
      go_enter Tryz.func70, Tryz.ntmps70
      go_upto_region 2 with (go_at_call 87; (with_reducible refine (HF.out _).mono ?_); rintro e w1 ⟨pv, rfl, hrl, hfr, hb1⟩; obtain ⟨osF, dF, rfl⟩ := ext_of_below hb1; have HRL := Lib.hid hrl; clear hb1 hrl hfr)
      obtain ⟨qp, qc, rfl, -⟩ := id HRL.out
      obtain ⟨ql, hql⟩ : ∃ ql, qs.length = ql := ⟨_, rfl⟩
      have hql2 : ql = len := by rw [← hql]; exact HLM.out
      rw [hql] at HRL ⊢
      subst hql2
      obtain ⟨b7, hb7⟩ : ∃ b7, b7 = w.heap.size + 1 + osF.size := ⟨_, rfl⟩
      rw [← hb7]
      have HQ0 := Lib.hid (show ∀ w', Below (ext (w.alloc (.cells #[.int .i64 0, .int .i64 0] 26)) osF dF).heap.size (ext (w.alloc (.cells #[.int .i64 0, .int .i64 0] 26)) osF dF) w' → RL 2 tpE w'.heap.size w' (.slice qp ql qc) qs from fun w' hb => HRL.out.up hb)
      refine cutX (fun W => Below w.heap.size w W ∧ w.heap.size < W.heap.size ∧ b7 < W.heap.size ∧ W.cell? ⟨w.heap.size, 0, none⟩ = some (.int .i64 0) ∧ W.cell? ⟨w.heap.size, 1, none⟩ = some (.int .i64 0) ∧ W.frozen? ⟨w.heap.size, 0, none⟩ = false ∧ W.frozen? ⟨w.heap.size, 1, none⟩ = false ∧ W.cell? ⟨b7, 0, none⟩ = some (.int .i64 q1) ∧ W.cell? ⟨b7, 1, none⟩ = some (.int .i64 q2) ∧ RL 2 tpE W.heap.size W (.slice qp ql qc) qs) ?_ ?_
      · refine ⟨by (repeat' (first | (with_reducible first | exact Below.refl _ _ | assumption | refine Below.alloc ?_ ?_ _ | refine below_drewN ?_ _ | refine below_drew ?_ | refine below_ext ?_ ?_ _ _ | refine Below.setCell ?_ ?_ _) | (simp; done) | (simp; omega) | omega)), by (first | (simp; done) | (simp; omega)), by subst hb7; simp, by simp [go_sem], by simp [go_sem], by simp [go_sem], by simp [go_sem], by subst hb7; simp [go_sem], by subst hb7; simp [go_sem], HQ0.out _ (by (repeat' (first | (with_reducible first | exact Below.refl _ _ | assumption | refine Below.alloc ?_ ?_ _ | refine below_drewN ?_ _ | refine below_drew ?_ | refine below_ext ?_ ?_ _ _ | refine Below.setCell ?_ ?_ _) | (simp; done) | (simp; omega) | omega)))⟩
      intro W ⟨hbW, hlW, h7W, r0, r1, f0, f1, t0, t1, hqW⟩
      have hsW := hbW.size
      have HQ := Lib.hid (fun w' (hb : Below W.heap.size W w') i (hi : i < qs.length) => rl_ty hqW hb hi)
      have hqq : ((ql : Int) == (ql : Int)) = true := by simp
      clear hql hb7 HQ0 hqW HRL
      go_wp2
      go_loopw [9] (fun z wr => ∃ j : Nat, z = .int .i64 j ∧ j ≤ ql ∧ Hid (Below W.heap.size W wr) ∧ Hid (eqfM (ts.drop j) (qs.drop j) = R)) (fun z _ => ql - (intOf z).toNat)
      case atStart => exact ⟨0, rfl, Nat.zero_le _, Lib.hid (by (repeat' (first | (with_reducible first | exact Below.refl _ _ | assumption | refine Below.alloc ?_ ?_ _ | refine below_drewN ?_ _ | refine below_drew ?_ | refine below_ext ?_ ?_ _ _ | refine Below.setCell ?_ ?_ _) | (simp; done) | (simp; omega) | omega))), Lib.hid HR.out.symm⟩
      case round =>
        obtain ⟨j, rfl, hj, hbe, hro⟩ := hrel
        have hsw := hbe.out.size
        have HKR := Lib.hid (show ∀ w', Below wr.heap.size wr w' → Below w.heap.size w w' ∧ w'.cell? ⟨w.heap.size, 0, none⟩ = some (.int .i64 0) ∧ w'.cell? ⟨w.heap.size, 1, none⟩ = some (.int .i64 0) ∧ w'.frozen? ⟨w.heap.size, 0, none⟩ = false ∧ w'.frozen? ⟨w.heap.size, 1, none⟩ = false ∧ w'.cell? ⟨b7, 0, none⟩ = some (.int .i64 q1) ∧ w'.cell? ⟨b7, 1, none⟩ = some (.int .i64 q2) from fun w' h => by
          have h9 := hbe.out.trans (h.mono hsw)
          exact ⟨hbW.trans (h9.mono hsW), (h9.cell (p := ⟨_, _, none⟩) hlW).trans r0, (h9.cell (p := ⟨_, _, none⟩) hlW).trans r1, (h9.frozen (p := ⟨_, _, none⟩) hlW).trans f0, (h9.frozen (p := ⟨_, _, none⟩) hlW).trans f1, (h9.cell (p := ⟨_, _, none⟩) h7W).trans t0, (h9.cell (p := ⟨_, _, none⟩) h7W).trans t1⟩)
        have HSS := Lib.hid (show ∀ (X : World) u v, X.cell? ⟨w.heap.size, 0, none⟩ = some (.int .i64 0) → X.cell? ⟨w.heap.size, 1, none⟩ = some (.int .i64 0) → ((X.setCell ⟨w.heap.size, 0, none⟩ u).setCell ⟨w.heap.size, 1, none⟩ v).cell? ⟨w.heap.size, 0, none⟩ = some u ∧ ((X.setCell ⟨w.heap.size, 0, none⟩ u).setCell ⟨w.heap.size, 1, none⟩ v).cell? ⟨w.heap.size, 1, none⟩ = some v from fun X u v x0 x1 => by
          refine ⟨?_, World.cell?_setCell_same _ _ _ ((World.cell?_setCell_other _ _ _ _ (by intro e2; injection e2 with _ e3; exact absurd e3 (by decide))).trans x1)⟩
          rw [World.cell?_setCell_other _ _ _ _ (by intro e2; injection e2 with _ e3; exact absurd e3 (by decide))]
          exact World.cell?_setCell_same _ _ _ x0)
        by_cases hjl : j < ql
        · have hji : (j : Int) < (ql : Int) := by omega
          have h1 : j < ts.length := by have := HLN.out; omega
          have h2 : j < qs.length := by have := HLM.out; omega
          obtain ⟨g, o, x1, x2, rfl, hg, hax, c0, c1⟩ := HX.out wr (hbW.trans (hbe.out.mono hsW)) j h1
          obtain ⟨g', o', y1, y2, rfl, hg', hby, d0, d1⟩ := HQ.out wr hbe.out j h2
          have hgr : g < wr.heap.size := by omega
          have hgr' : g' < wr.heap.size := by omega
          have H1 := Lib.hid (show ∀ w, Calls Tryz.prog 62 #[.agg #[.int .i64 x1, .int .i64 x2], .agg #[.int .i64 y1, .int .i64 y2]] w fun e w' => e = .returned (.bool (meetB (x1, x2) (y1, y2))) ∧ Below w.heap.size w w' from fun w => HM.out (x1, x2) (by rw [← hax]; exact List.getElem_mem h1) (y1, y2) (by rw [← hby]; exact List.getElem_mem h2) w)
          have HRO := Lib.hid (show R = (meetB (x1, x2) (y1, y2) && eqfM (ts.drop (j + 1)) (qs.drop (j + 1))) by rw [← hro.out, List.drop_eq_getElem_cons h1, List.drop_eq_getElem_cons h2, hax, hby]; rfl)
          have HK := Lib.hid (show ∀ w', Below wr.heap.size wr w' → w'.cell? ⟨g, o + j * 2, none⟩ = some (.int .i64 x1) ∧ w'.cell? ⟨g, o + j * 2 + 1, none⟩ = some (.int .i64 x2) ∧ w'.cell? ⟨g', o' + j * 2, none⟩ = some (.int .i64 y1) ∧ w'.cell? ⟨g', o' + j * 2 + 1, none⟩ = some (.int .i64 y2) from fun w' h => ⟨(h.cell (p := ⟨g, _, none⟩) hgr).trans c0, (h.cell (p := ⟨g, _, none⟩) hgr).trans c1, (h.cell (p := ⟨g', _, none⟩) hgr').trans d0, (h.cell (p := ⟨g', _, none⟩) hgr').trans d1⟩)
          generalize meetB (x1, x2) (y1, y2) = m at H1 HRO
          clear hax hby hro HX HQ HM c0 c1 d0 d1 r0 r1 f0 f1 t0 t1
          cases m with
          | false =>
            have HF9 := Lib.hid (show R = false by rw [HRO.out]; rfl)
            go_upto_region 9 with fail
            go_region_held3 (fun w' => w'.cell? ⟨g, o + j * 2, none⟩ = some (.int .i64 x1) ∧ w'.cell? ⟨g, o + j * 2 + 1, none⟩ = some (.int .i64 x2) ∧ w'.cell? ⟨g', o' + j * 2, none⟩ = some (.int .i64 y1) ∧ w'.cell? ⟨g', o' + j * 2 + 1, none⟩ = some (.int .i64 y2)) (exact HK.out _ (by (repeat' (first | (with_reducible first | exact Below.refl _ _ | assumption | refine Below.alloc ?_ ?_ _ | refine below_drewN ?_ _ | refine below_drew ?_ | refine below_ext ?_ ?_ _ _ | refine Below.setCell ?_ ?_ _) | (simp; done) | (simp; omega) | omega)))) (first
              | (go_at_call 62; ((with_reducible refine (H1.out _).mono ?_); rintro e w1 ⟨rfl, hb1⟩; obtain ⟨osB, dB, rfl⟩ := ext_of_below hb1; clear hb1)))
            all_goals
              go_upto_region 10 with fail
              refine cutX (fun W2 => Below w.heap.size w W2 ∧ W2.cell? ⟨w.heap.size, 0, none⟩ = some (.int .i64 0) ∧ W2.cell? ⟨w.heap.size, 1, none⟩ = some (.int .i64 0) ∧ W2.frozen? ⟨w.heap.size, 0, none⟩ = false ∧ W2.frozen? ⟨w.heap.size, 1, none⟩ = false ∧ W2.cell? ⟨b7, 0, none⟩ = some (.int .i64 q1) ∧ W2.cell? ⟨b7, 1, none⟩ = some (.int .i64 q2)) (HKR.out _ (by (repeat' (first | (with_reducible first | exact Below.refl _ _ | assumption | refine Below.alloc ?_ ?_ _ | refine below_drewN ?_ _ | refine below_drew ?_ | refine below_ext ?_ ?_ _ _ | refine Below.setCell ?_ ?_ _) | (simp; done) | (simp; omega) | omega)))) ?_
              intro W2 ⟨hb2, r0, r1, f0, f1, t0, t1⟩
              obtain ⟨s0, s1⟩ := HSS.out W2 (.int .i64 0) (.int .i64 0) r0 r1
              clear t0 t1
              go_wp2
              refine bodyPost_ret (by simp [results, Tryz.results70, go_sem, s0, s1]; try rfl) rfl ?_
              exact ⟨by rw [HRT.out, HF9.out]; rfl, hb2.trans (by (repeat' (first | (with_reducible first | exact Below.refl _ _ | assumption | refine Below.alloc ?_ ?_ _ | refine below_drewN ?_ _ | refine below_drew ?_ | refine below_ext ?_ ?_ _ _ | refine Below.setCell ?_ ?_ _) | (simp; done) | (simp; omega) | omega)))⟩
          | true =>
            have HF9 := Lib.hid (show eqfM (ts.drop (j + 1)) (qs.drop (j + 1)) = R by rw [HRO.out]; rfl)
            go_upto_region 9 with fail
            go_region_held3 (fun w' => w'.cell? ⟨g, o + j * 2, none⟩ = some (.int .i64 x1) ∧ w'.cell? ⟨g, o + j * 2 + 1, none⟩ = some (.int .i64 x2) ∧ w'.cell? ⟨g', o' + j * 2, none⟩ = some (.int .i64 y1) ∧ w'.cell? ⟨g', o' + j * 2 + 1, none⟩ = some (.int .i64 y2)) (exact HK.out _ (by (repeat' (first | (with_reducible first | exact Below.refl _ _ | assumption | refine Below.alloc ?_ ?_ _ | refine below_drewN ?_ _ | refine below_drew ?_ | refine below_ext ?_ ?_ _ _ | refine Below.setCell ?_ ?_ _) | (simp; done) | (simp; omega) | omega)))) (first
              | (go_at_call 62; ((with_reducible refine (H1.out _).mono ?_); rintro e w1 ⟨rfl, hb1⟩; obtain ⟨osB, dB, rfl⟩ := ext_of_below hb1; clear hb1)))
            all_goals
              go_wp2
              go_roundw
              case rel => exact ⟨j + 1, by go_num, by omega, Lib.hid (hbe.out.trans (show Below W.heap.size wr _ by (repeat' (first | (with_reducible first | exact Below.refl _ _ | assumption | refine Below.alloc ?_ ?_ _ | refine below_drewN ?_ _ | refine below_drew ?_ | refine below_ext ?_ ?_ _ _ | refine Below.setCell ?_ ?_ _) | (simp; done) | (simp; omega) | omega)))), HF9⟩
              case measure => simp [intOf]; omega
        · obtain rfl : j = ql := by omega
          have hji : ¬ (j : Int) < j := by omega
          have HF9 := Lib.hid (show R = true by rw [← hro.out, List.drop_eq_nil_of_le (by rw [HLN.out]; exact Nat.le_refl _), List.drop_eq_nil_of_le (by rw [HLM.out]; exact Nat.le_refl _)]; rfl)
          obtain ⟨hb2, r0, r1, f0, f1, t0, t1⟩ := HKR.out wr (Below.refl _ _)
          obtain ⟨s0, s1⟩ := HSS.out wr (.int .i64 q1) (.int .i64 q2) r0 r1
          clear hro hbe
          go_wp2
          refine bodyPost_ret (by simp [results, Tryz.results70, go_sem, s0, s1]; try rfl) rfl ?_
          exact ⟨by rw [HRT.out, HF9.out]; rfl, hb2.trans (by (repeat' (first | (with_reducible first | exact Below.refl _ _ | assumption | refine Below.alloc ?_ ?_ _ | refine below_drewN ?_ _ | refine below_drew ?_ | refine below_ext ?_ ?_ _ _ | refine Below.setCell ?_ ?_ _) | (simp; done) | (simp; omega) | omega)))⟩
    · have heq := eqfM_len hlen
      rw [heq]
      have hq : ((qs.length : Int) == (ts.length : Int)) = false := beq_eq_false_iff_ne.2 (by omega)
      have hne : ¬ (qs.length : Int) = (ts.length : Int) := by omega
      have HF2 := Lib.hid (show ∀ w', Calls Tryz.prog 87 #[.string s] w' fun e w'' => ∃ p c, e = .returned (.tuple #[.slice p qs.length c, .agg #[.int .i64 q1, .int .i64 q2], .bool true]) ∧ Below w'.heap.size w' w'' from fun w' => (HF.out w').mono fun e w1 h => by
        obtain ⟨pv, rfl, ⟨p, c, rfl, -⟩, -, hb1⟩ := h
        exact ⟨p, c, rfl, hb1⟩)
      generalize ts.length = la at hq hne ⊢
      generalize qs.length = lb at hq hne HF2
      clear hcal hcal2 hfn hqf hf hv hlen heq HF hl
      go_enter Tryz.func70, Tryz.ntmps70
      go_wp2_with (go_at_call 87; (with_reducible refine (HF2.out _).mono ?_); rintro e w1 ⟨p9, c9, rfl, hb1⟩; obtain ⟨osF, dF, rfl⟩ := ext_of_below hb1; clear hb1)
      go_returns
      exact ⟨rfl, by (repeat' (first | (with_reducible first | exact Below.refl _ _ | assumption | refine Below.alloc ?_ ?_ _ | refine below_drewN ?_ _ | refine below_drew ?_ | refine below_ext ?_ ?_ _ _ | refine Below.setCell ?_ ?_ _) | (simp; done) | (simp; omega) | omega))⟩
end Go.Proofs.YtalahkincccffaaGreatDoor
