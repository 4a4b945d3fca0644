/-
  What tests ask, in memory: is a type ordered with another one, does it take an ask, does it fit all of them.
-/
import Derived.Test.YtalahkincccffaaGreatDoorTypA
namespace Go.Proofs.YtalahkincccffaaGreatDoor
open Go.RowKit Word Txt
attribute [local go_sem] setCell_drewN cell?_ext frozen?_ext shape?_ext setCell_ext lt_1' ne_1' en_1' le_1' lt_2' ne_2' en_2' le_2' lt_3' ne_3' en_3' le_3' lt_4' ne_4' en_4' le_4' lt_5' ne_5' en_5' le_5' lt_6' ne_6' en_6' le_6' lt_7' ne_7' en_7' le_7' lt_8' ne_8' en_8' le_8' lt_9' ne_9' en_9' le_9' lt_10' ne_10' en_10' le_10' lt_11' ne_11' en_11' le_11' lt_12' ne_12' en_12' le_12'

set_option maxRecDepth 100000 in
set_option maxHeartbeats 4000000 in
theorem ordered_any (a b : Ty) (w : World) (hG : TyG w) : Calls Tryz.prog 61 #[TyV a, TyV b] w fun e w' => e = .returned (.bool (ordB a b)) ∧ Below w.heap.size w w' := by
  have HG := Lib.hid (fun w' (hb : Below w.heap.size w w') => hG.below hb)
  obtain ⟨m1, h1⟩ : ∃ m, m = ([a, b].all fun t => meetB t (2, 0)) := ⟨_, rfl⟩
  obtain ⟨m2, h2⟩ : ∃ m, m = ([a, b].all fun t => meetB t (3, 0)) := ⟨_, rfl⟩
  obtain ⟨m3, h3⟩ : ∃ m, m = ([a, b].all fun t => meetB t (4, 0)) := ⟨_, rfl⟩
  have hr : ordB a b = (m1 || (m2 || m3)) := by rw [h1, h2, h3]; simp [ordB]
  rw [hr]
  have HA1 := Lib.hid (fun g o c n w' (h : RL 2 tpE n w' (.slice (some ⟨g, o, none⟩) 2 c) [a, b]) (hn : n ≤ w'.heap.size) hGw => h1 ▸ allMeet_any [a, b] (2, 0) n w' _ h hn (by simp) hGw)
  have HA2 := Lib.hid (fun g o c n w' (h : RL 2 tpE n w' (.slice (some ⟨g, o, none⟩) 2 c) [a, b]) (hn : n ≤ w'.heap.size) hGw => h2 ▸ allMeet_any [a, b] (3, 0) n w' _ h hn (by simp) hGw)
  have HA3 := Lib.hid (fun g o c n w' (h : RL 2 tpE n w' (.slice (some ⟨g, o, none⟩) 2 c) [a, b]) (hn : n ≤ w'.heap.size) hGw => h3 ▸ allMeet_any [a, b] (4, 0) n w' _ h hn (by simp) hGw)
  have HT := Lib.hid (fun g w' (hg : g < w'.heap.size) c0 c1 c2 c3 => two_rl (w := w') (g := g) (o := 0) (c := 2) a b hg c0 c1 c2 c3)
  obtain ⟨a1, a2⟩ := a
  obtain ⟨b1, b2⟩ := b
  simp only at HT
  clear hG h1 h2 h3 hr
  go_enter Tryz.func61, Tryz.ntmps61
  go_upto_region 2 with fail
  obtain ⟨b, hb⟩ : ∃ b, b = w.heap.size + 1 + 1 := ⟨_, rfl⟩
  rw [← hb]
  refine cutX (fun W => Below w.heap.size w W ∧ b < W.heap.size ∧ W.cell? ⟨b, 0, none⟩ = some (.int .i64 a1) ∧ W.cell? ⟨b, 1, none⟩ = some (.int .i64 a2) ∧ W.cell? ⟨b, 2, none⟩ = some (.int .i64 b1) ∧ W.cell? ⟨b, 3, none⟩ = some (.int .i64 b2)) ?_ ?_
  · subst hb
    refine ⟨by (repeat' (first | (with_reducible first | exact Below.refl _ _ | assumption | refine Below.alloc ?_ ?_ _ | refine below_drewN ?_ _ | refine below_drew ?_ | refine below_ext ?_ ?_ _ _ | refine Below.setCell ?_ ?_ _) | (simp; done) | (simp; omega) | omega)), ?_⟩
    simp [go_sem]
  intro W ⟨hbW, hbl, b0, b1c, b2c, b3⟩
  clear hb
  have hGW := HG.out _ hbW
  have hg := hGW.sz
  have g0 := hGW.n0
  have g1 := hGW.n1
  have g2 := hGW.t0
  have g3 := hGW.t1
  have g4 := hGW.d0
  have g5 := hGW.d1
  have HRL := Lib.hid (fun w' (h : Below W.heap.size W w') => HT.out b w' (Nat.lt_of_lt_of_le hbl h.size) ((h.cell (p := ⟨b, _, none⟩) hbl).trans b0) ((h.cell (p := ⟨b, _, none⟩) hbl).trans b1c) ((h.cell (p := ⟨b, _, none⟩) hbl).trans b2c) ((h.cell (p := ⟨b, _, none⟩) hbl).trans b3))
  have HB1 := Lib.hid (fun w' (h : Below W.heap.size W w') => HA1.out b 0 2 w'.heap.size w' (HRL.out w' h) (Nat.le_refl _) (hGW.below h))
  have HB2 := Lib.hid (fun w' (h : Below W.heap.size W w') => HA2.out b 0 2 w'.heap.size w' (HRL.out w' h) (Nat.le_refl _) (hGW.below h))
  have HB3 := Lib.hid (fun w' (h : Below W.heap.size W w') => HA3.out b 0 2 w'.heap.size w' (HRL.out w' h) (Nat.le_refl _) (hGW.below h))
  have hsw := hbW.size
  have HGW := Lib.hid (fun w' (hb : Below W.heap.size W w') => And.intro (hGW.below hb).d0 (hGW.below hb).d1)
  clear hGW b0 b1c b2c b3 HA1 HA2 HA3 HT HG HRL
  cases m1 <;> cases m2 <;> cases m3
  all_goals
    go_wp2_with (first
      | (go_at_call 78; ((with_reducible refine (HB1.out _ (by (repeat' (first | (with_reducible first | exact Below.refl _ _ | assumption | refine Below.alloc ?_ ?_ _ | refine below_drewN ?_ _ | refine below_drew ?_ | refine below_ext ?_ ?_ _ _ | refine Below.setCell ?_ ?_ _) | (simp; done) | (simp; omega) | omega)))).mono ?_); rintro e w1 ⟨rfl, hb1⟩; obtain ⟨osA, dA, rfl⟩ := ext_of_below hb1; clear hb1))
      | (go_at_call 78; (with_reducible refine (HB2.out _ (by (repeat' (first | (with_reducible first | exact Below.refl _ _ | assumption | refine Below.alloc ?_ ?_ _ | refine below_drewN ?_ _ | refine below_drew ?_ | refine below_ext ?_ ?_ _ _ | refine Below.setCell ?_ ?_ _) | (simp; done) | (simp; omega) | omega)))).mono ?_); rintro e w2 ⟨rfl, hb2⟩; have HW2 := Lib.hid ((show Below W.heap.size W _ by (repeat' (first | (with_reducible first | exact Below.refl _ _ | assumption | refine Below.alloc ?_ ?_ _ | refine below_drewN ?_ _ | refine below_drew ?_ | refine below_ext ?_ ?_ _ _ | refine Below.setCell ?_ ?_ _) | (simp; done) | (simp; omega) | omega))).trans (hb2.mono (by simp))); have gB4 := (HGW.out _ HW2.out).1; have gB5 := (HGW.out _ HW2.out).2; clear hb2)
      | (go_at_call 78; (with_reducible refine (HB3.out _ HW2.out).mono ?_); rintro e w3 ⟨rfl, hb3⟩; have HW3 := Lib.hid (HW2.out.trans (hb3.mono HW2.out.size)); clear hb3))
    go_ret
    exact ⟨rfl, by first | exact hbW.trans (HW3.out.mono hsw) | exact hbW.trans (HW2.out.mono hsw) | exact hbW.trans (show Below w.heap.size W _ by (repeat' (first | (with_reducible first | exact Below.refl _ _ | assumption | refine Below.alloc ?_ ?_ _ | refine below_drewN ?_ _ | refine below_drew ?_ | refine below_ext ?_ ?_ _ _ | refine Below.setCell ?_ ?_ _) | (simp; done) | (simp; omega) | omega)))⟩
def askE (a : Ask) : List Value := [.int .i64 a.1.1, .int .i64 a.1.2, .bool a.2]
abbrev AskV (a : Ask) : Value := .agg #[.int .i64 a.1.1, .int .i64 a.1.2, .bool a.2]
def asK : El := { T := 75, S := 46, size := 3, bytes := 24, zero := .agg #[.int .i64 0, .int .i64 0, .bool false] }
theorem asK_ok : asK.Ok Tryz.prog := ⟨Tryz.underlying46, by kernel_rfl, by rfl, by decide, by decide, by decide⟩
theorem askE_cells : Cells asK askE := fun s => ⟨rfl, fun u hu => by
  unfold askE at hu
  simp at hu
  rcases hu with rfl | rfl | rfl <;> rfl⟩
set_option maxRecDepth 100000 in
theorem takes_any (a : Ask) (t : Ty) (w : World) (hG : TyG w) : Calls Tryz.prog 33 #[AskV a, TyV t] w fun e w' => e = .returned (.bool (takB t a)) ∧ Below w.heap.size w w' := by
  obtain ⟨a, o⟩ := a
  obtain ⟨r, hr⟩ : ∃ r, r = takB t (a, o) := ⟨_, rfl⟩
  have hO := Lib.hid (fun w' (hb : Below w.heap.size w w') => ordered_any t a w' (hG.below hb))
  have hM := Lib.hid (fun w' (hb : Below w.heap.size w w') => meets_any t a w' (hG.below hb))
  rw [← hr]
  cases o with
  | true =>
    have hr2 : ordB t a = r := by rw [hr]; rfl
    rw [hr2] at hO
    obtain ⟨a1, a2⟩ := a
    obtain ⟨t1, t2⟩ := t
    clear hr hr2 hG hM
    go_enter Tryz.func33, Tryz.ntmps33
    go_wp2_with (first | (go_at_call 61; ((with_reducible refine (hO.out _ (by (repeat' (first | (with_reducible first | exact Below.refl _ _ | assumption | refine Below.alloc ?_ ?_ _ | refine below_drewN ?_ _ | refine below_drew ?_ | refine below_ext ?_ ?_ _ _ | refine Below.setCell ?_ ?_ _) | (simp; done) | (simp; omega) | omega)))).mono ?_); rintro e w1 ⟨rfl, hb1⟩; obtain ⟨osA, dA, rfl⟩ := ext_of_below hb1; clear hb1)))
    go_ret
    exact ⟨rfl, by (repeat' (first | (with_reducible first | exact Below.refl _ _ | assumption | refine Below.alloc ?_ ?_ _ | refine below_drewN ?_ _ | refine below_drew ?_ | refine below_ext ?_ ?_ _ _ | refine Below.setCell ?_ ?_ _) | (simp; done) | (simp; omega) | omega))⟩
  | false =>
    have hr2 : meetB t a = r := by rw [hr]; rfl
    rw [hr2] at hM
    obtain ⟨a1, a2⟩ := a
    obtain ⟨t1, t2⟩ := t
    clear hr hr2 hG hO
    go_enter Tryz.func33, Tryz.ntmps33
    go_wp2_with (first | (go_at_call 57; ((with_reducible refine (hM.out _ (by (repeat' (first | (with_reducible first | exact Below.refl _ _ | assumption | refine Below.alloc ?_ ?_ _ | refine below_drewN ?_ _ | refine below_drew ?_ | refine below_ext ?_ ?_ _ _ | refine Below.setCell ?_ ?_ _) | (simp; done) | (simp; omega) | omega)))).mono ?_); rintro e w1 ⟨rfl, hb1⟩; obtain ⟨osA, dA, rfl⟩ := ext_of_below hb1; clear hb1)))
    go_ret
    exact ⟨rfl, by (repeat' (first | (with_reducible first | exact Below.refl _ _ | assumption | refine Below.alloc ?_ ?_ _ | refine below_drewN ?_ _ | refine below_drew ?_ | refine below_ext ?_ ?_ _ _ | refine Below.setCell ?_ ?_ _) | (simp; done) | (simp; omega) | omega))⟩
set_option maxRecDepth 100000 in
theorem ifits_any (own : Ty) (ks : List Ask) (t : Ty) (n : Nat) (w : World) (p : Option Addr) (k c : Nat) (hv : RL 3 askE n w (.slice p k c) ks) (hn : n ≤ w.heap.size) (hl : ks.length ≤ 100000) (hG : TyG w) :
    Calls Tryz.prog 17 #[.agg #[.int .i64 own.1, .int .i64 own.2, .slice p k c], TyV t] w fun e w' => e = .returned (.bool (fitB ks t)) ∧ Below w.heap.size w w' := by
  obtain ⟨p', c', e0, h2⟩ := hv
  injection e0 with e1 e2 e3
  subst e1 e3
  have H2 := Lib.hid h2
  obtain ⟨len, hlen⟩ : ∃ len, len = ks.length := ⟨_, rfl⟩
  have HL := Lib.hid hlen
  rw [← hlen] at hl e2
  subst e2
  have HM := Lib.hid (fun a w' (hb : Below w.heap.size w w') => takes_any a t w' (hG.below hb))
  obtain ⟨R, hR⟩ : ∃ R, R = fitB ks t := ⟨_, rfl⟩
  have HR := Lib.hid hR
  rw [← hR]
  have HFB := Lib.hid (show ∀ l : List Ask, fitB l t = l.all fun a => takB t a from fun _ => rfl)
  obtain ⟨o1, o2⟩ := own
  obtain ⟨t1, t2⟩ := t
  try simp only at HM ⊢
  clear h2 hlen hR hG
  go_enter Tryz.func17, Tryz.ntmps17
  go_wp2
  go_loopw [10] (fun z wr => ∃ j : Nat, z = .int .i64 j ∧ j ≤ k ∧ Hid (Below w.heap.size w wr) ∧ w.heap.size + 1 < wr.heap.size ∧ wr.cell? ⟨w.heap.size + 1, 0, none⟩ = some (.int .i64 t1) ∧ wr.cell? ⟨w.heap.size + 1, 1, none⟩ = some (.int .i64 t2) ∧ Hid (fitB (ks.drop j) (t1, t2) = R)) (fun z _ => k - (intOf z).toNat)
  case atStart => exact ⟨0, rfl, Nat.zero_le _, Lib.hid (by (repeat' (first | (with_reducible first | exact Below.refl _ _ | assumption | refine Below.alloc ?_ ?_ _ | refine below_drewN ?_ _ | refine below_drew ?_ | refine below_ext ?_ ?_ _ _ | refine Below.setCell ?_ ?_ _) | (simp; done) | (simp; omega) | omega))), by simp, by simp [go_sem], by simp [go_sem], Lib.hid HR.out.symm⟩
  case round =>
    obtain ⟨j, rfl, hj, hbe, hlt, o0, o1c, hro⟩ := hrel
    have hsw := hbe.out.size
    by_cases hjl : j < k
    · have hki : (j : Int) < (k : Int) := by omega
      have hk2 : j < ks.length := by rw [← HL.out]; exact hjl
      obtain ⟨g, o, rfl, hg, hc⟩ := H2.out (by omega)
      obtain ⟨x, y, z, hxy⟩ : ∃ x y z, ks[j] = ((x, y), z) := ⟨_, _, _, rfl⟩
      have hgr : g < wr.heap.size := by omega
      have c0 : wr.cell? ⟨g, o + j * 3, none⟩ = some (.int .i64 x) := by
        rw [hbe.out.cell (p := ⟨g, _, none⟩) (Nat.lt_of_lt_of_le hg hn)]
        exact hc j hk2 0 _ (by rw [hxy]; rfl)
      have c1 : wr.cell? ⟨g, o + j * 3 + 1, none⟩ = some (.int .i64 y) := by
        rw [hbe.out.cell (p := ⟨g, _, none⟩) (Nat.lt_of_lt_of_le hg hn)]
        exact hc j hk2 1 _ (by rw [hxy]; rfl)
      have c2 : wr.cell? ⟨g, o + j * 3 + 2, none⟩ = some (.bool z) := by
        rw [hbe.out.cell (p := ⟨g, _, none⟩) (Nat.lt_of_lt_of_le hg hn)]
        exact hc j hk2 2 _ (by rw [hxy]; rfl)
      have hdr : ks.drop j = ((x, y), z) :: ks.drop (j + 1) := by rw [List.drop_eq_getElem_cons hk2, hxy]
      have HRO := Lib.hid (show R = (takB (t1, t2) ((x, y), z) && fitB (ks.drop (j + 1)) (t1, t2)) by rw [← hro.out, hdr]; rfl)
      have HM1 := Lib.hid (fun w' (hb : Below wr.heap.size wr w') => HM.out ((x, y), z) w' (hbe.out.trans (hb.mono hsw)))
      generalize takB (t1, t2) ((x, y), z) = m at HM1 HRO
      have HBE := Lib.hid hbe.out
      have HCK := Lib.hid (show ∀ w', Below wr.heap.size wr w' → w'.cell? ⟨w.heap.size + 1, 0, none⟩ = some (.int .i64 t1) ∧ w'.cell? ⟨w.heap.size + 1, 1, none⟩ = some (.int .i64 t2) from fun w' hb => ⟨(hb.cell (p := ⟨w.heap.size + 1, _, none⟩) hlt).trans o0, (hb.cell (p := ⟨w.heap.size + 1, _, none⟩) hlt).trans o1c⟩)
      clear hc hdr hro hxy hbe HM hk2
      cases m with
      | false =>
        have HF := Lib.hid (show R = false by rw [HRO.out]; rfl)
        go_wp2_with (first | (go_at_call 33; ((with_reducible refine (HM1.out _ (by (repeat' (first | (with_reducible first | exact Below.refl _ _ | assumption | refine Below.alloc ?_ ?_ _ | refine below_drewN ?_ _ | refine below_drew ?_ | refine below_ext ?_ ?_ _ _ | refine Below.setCell ?_ ?_ _) | (simp; done) | (simp; omega) | omega)))).mono ?_); rintro e w1 ⟨rfl, hb1⟩; obtain ⟨osA, dA, rfl⟩ := ext_of_below hb1; clear hb1)))
        go_ret
        exact ⟨by rw [HF.out]; rfl, HBE.out.trans (show Below w.heap.size wr _ by (repeat' (first | (with_reducible first | exact Below.refl _ _ | assumption | refine Below.alloc ?_ ?_ _ | refine below_drewN ?_ _ | refine below_drew ?_ | refine below_ext ?_ ?_ _ _ | refine Below.setCell ?_ ?_ _) | (simp; done) | (simp; omega) | omega)))⟩
      | true =>
        have HF := Lib.hid (show fitB (ks.drop (j + 1)) (t1, t2) = R by rw [HRO.out]; rfl)
        go_wp2_with (first | (go_at_call 33; ((with_reducible refine (HM1.out _ (by (repeat' (first | (with_reducible first | exact Below.refl _ _ | assumption | refine Below.alloc ?_ ?_ _ | refine below_drewN ?_ _ | refine below_drew ?_ | refine below_ext ?_ ?_ _ _ | refine Below.setCell ?_ ?_ _) | (simp; done) | (simp; omega) | omega)))).mono ?_); rintro e w1 ⟨rfl, hb1⟩; obtain ⟨osA, dA, rfl⟩ := ext_of_below hb1; clear hb1)))
        go_roundw
        case rel => exact ⟨j + 1, by go_num, by omega, Lib.hid (HBE.out.trans (show Below w.heap.size wr _ by (repeat' (first | (with_reducible first | exact Below.refl _ _ | assumption | refine Below.alloc ?_ ?_ _ | refine below_drewN ?_ _ | refine below_drew ?_ | refine below_ext ?_ ?_ _ _ | refine Below.setCell ?_ ?_ _) | (simp; done) | (simp; omega) | omega)))), by simp; omega, (HCK.out _ (by (repeat' (first | (with_reducible first | exact Below.refl _ _ | assumption | refine Below.alloc ?_ ?_ _ | refine below_drewN ?_ _ | refine below_drew ?_ | refine below_ext ?_ ?_ _ _ | refine Below.setCell ?_ ?_ _) | (simp; done) | (simp; omega) | omega)))).1, (HCK.out _ (by (repeat' (first | (with_reducible first | exact Below.refl _ _ | assumption | refine Below.alloc ?_ ?_ _ | refine below_drewN ?_ _ | refine below_drew ?_ | refine below_ext ?_ ?_ _ _ | refine Below.setCell ?_ ?_ _) | (simp; done) | (simp; omega) | omega)))).2, HF⟩
        case measure => simp [intOf]; omega
    · obtain rfl : j = k := by omega
      have hki : ¬ (j : Int) < j := by omega
      have HF := Lib.hid (show R = true by rw [← hro.out, List.drop_eq_nil_of_le (by rw [← HL.out]; exact Nat.le_refl _)]; rfl)
      go_wp2
      go_ret
      exact ⟨by rw [HF.out]; rfl, hbe.out.trans (show Below w.heap.size wr _ by (repeat' (first | (with_reducible first | exact Below.refl _ _ | assumption | refine Below.alloc ?_ ?_ _ | refine below_drewN ?_ _ | refine below_drew ?_ | refine below_ext ?_ ?_ _ _ | refine Below.setCell ?_ ?_ _) | (simp; done) | (simp; omega) | omega)))⟩
end Go.Proofs.YtalahkincccffaaGreatDoor
