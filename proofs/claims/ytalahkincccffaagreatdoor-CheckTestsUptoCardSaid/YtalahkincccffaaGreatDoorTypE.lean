/-
  The type that a node has whatever its parts are; may it have such parts; the type of a sum.
-/
import Derived.Test.YtalahkincccffaaGreatDoorTypB
import Derived.Deep.RegionHeld
namespace Go.Proofs.YtalahkincccffaaGreatDoor
open Go.RowKit Word Txt
attribute [local go_sem] setCell_drewN cell?_ext frozen?_ext shape?_ext setCell_ext lt_1' ne_1' en_1' le_1' lt_2' ne_2' en_2' le_2' lt_3' ne_3' en_3' le_3' lt_4' ne_4' en_4' le_4' lt_5' ne_5' en_5' le_5' lt_6' ne_6' en_6' le_6' lt_7' ne_7' en_7' le_7' lt_8' ne_8' en_8' le_8' lt_9' ne_9' en_9' le_9' lt_10' ne_10' en_10' le_10' lt_11' ne_11' en_11' le_11' lt_12' ne_12' en_12' le_12'

set_option maxRecDepth 100000 in
set_option maxHeartbeats 8000000 in
theorem simpleType_any (op : Int) (w : World) (hG : TyG w) : Calls Tryz.prog 59 #[.int .i64 op] w fun en w' => en = .returned (TyV (simT op)) ∧ Below w.heap.size w w' := by
  have hg := hG.sz
  have g0 := hG.n0
  have g1 := hG.n1
  have g2 := hG.t0
  have g3 := hG.t1
  have g4 := hG.d0
  have g5 := hG.d1
  have g6 := hG.b0
  have g7 := hG.b1
  have g8 := hG.a0
  have g9 := hG.a1
  clear hG
  by_cases h1 : op = 4 ∨ op = 8 ∨ op = 10 ∨ op = 11 ∨ op = 12
  · have hr : simT op = (2, 0) := by unfold simT; rw [if_pos h1]
    rw [hr]
    clear hr
    rcases h1 with rfl | rfl | rfl | rfl | rfl
    all_goals
      go_enter Tryz.func59, Tryz.ntmps59
      go_wp2
      go_returns
      exact ⟨rfl, by (repeat' (first | (with_reducible first | exact Below.refl _ _ | assumption | refine Below.alloc ?_ ?_ _ | refine below_drewN ?_ _ | refine below_drew ?_ | refine below_ext ?_ ?_ _ _ | refine Below.setCell ?_ ?_ _) | (simp; done) | (simp; omega) | omega))⟩
  by_cases h2 : op = 5
  · subst h2
    go_enter Tryz.func59, Tryz.ntmps59
    go_wp2
    go_returns
    exact ⟨rfl, by (repeat' (first | (with_reducible first | exact Below.refl _ _ | assumption | refine Below.alloc ?_ ?_ _ | refine below_drewN ?_ _ | refine below_drew ?_ | refine below_ext ?_ ?_ _ _ | refine Below.setCell ?_ ?_ _) | (simp; done) | (simp; omega) | omega))⟩
  by_cases h3 : op = 6
  · subst h3
    go_enter Tryz.func59, Tryz.ntmps59
    go_wp2
    go_returns
    exact ⟨rfl, by (repeat' (first | (with_reducible first | exact Below.refl _ _ | assumption | refine Below.alloc ?_ ?_ _ | refine below_drewN ?_ _ | refine below_drew ?_ | refine below_ext ?_ ?_ _ _ | refine Below.setCell ?_ ?_ _) | (simp; done) | (simp; omega) | omega))⟩
  by_cases h4 : op = 2 ∨ op = 3 ∨ (13 ≤ op ∧ op ≤ 20) ∨ op = 22 ∨ op = 23
  · have hr : simT op = (1, 0) := by unfold simT; rw [if_neg h1, if_neg h2, if_neg h3, if_pos h4]
    rw [hr]
    have h5 : op = 2 ∨ op = 3 ∨ op = 13 ∨ op = 14 ∨ op = 15 ∨ op = 16 ∨ op = 17 ∨ op = 18 ∨ op = 19 ∨ op = 20 ∨ op = 22 ∨ op = 23 := by omega
    clear hr h1 h2 h3 h4
    rcases h5 with rfl | rfl | rfl | rfl | rfl | rfl | rfl | rfl | rfl | rfl | rfl | rfl
    all_goals
      go_enter Tryz.func59, Tryz.ntmps59
      go_wp2
      go_returns
      exact ⟨rfl, by (repeat' (first | (with_reducible first | exact Below.refl _ _ | assumption | refine Below.alloc ?_ ?_ _ | refine below_drewN ?_ _ | refine below_drew ?_ | refine below_ext ?_ ?_ _ _ | refine Below.setCell ?_ ?_ _) | (simp; done) | (simp; omega) | omega))⟩
  have hr : simT op = (0, 0) := by unfold simT; rw [if_neg h1, if_neg h2, if_neg h3, if_neg h4]
  rw [hr]
  have hq : ∀ k : Int, k ∈ [4, 8, 10, 11, 12, 5, 6, 2, 3, 13, 14, 15, 16, 17, 18, 19, 20, 22, 23] → (op == k) = false := fun k hk => by
    rw [beq_eq_false_iff_ne]
    intro e
    subst e
    simp only [List.mem_cons, List.mem_nil_iff, or_false] at hk
    omega
  simp only [List.mem_cons, List.mem_nil_iff, or_false, forall_eq_or_imp, forall_eq] at hq
  obtain ⟨q0, q1, q2, q3, q4, q5, q6, q7, q8, q9, q10, q11, q12, q13, q14, q15, q16, q17, q18⟩ := hq
  clear hr h1 h2 h3 h4
  go_enter Tryz.func59, Tryz.ntmps59
  go_wp2
  go_returns
  exact ⟨rfl, by (repeat' (first | (with_reducible first | exact Below.refl _ _ | assumption | refine Below.alloc ?_ ?_ _ | refine below_drewN ?_ _ | refine below_drew ?_ | refine below_ext ?_ ?_ _ _ | refine Below.setCell ?_ ?_ _) | (simp; done) | (simp; omega) | omega))⟩
set_option maxRecDepth 100000 in
set_option maxHeartbeats 8000000 in
theorem sumOf_any (a b : Ty) (w : World) (hG : TyG w) : Calls Tryz.prog 55 #[TyV a, TyV b] w fun en w' => en = .returned (.tuple #[TyV (sumM a b).1, .int .i64 (sumM a b).2]) ∧ Below w.heap.size w w' := by
  have HG := Lib.hid (fun w' (hb : Below w.heap.size w w') => hG.below hb)
  obtain ⟨m1, h1⟩ : ∃ m, m = ([a, b].all fun t => meetB t (2, 0)) := ⟨_, rfl⟩
  obtain ⟨m2, h2⟩ : ∃ m, m = ([a, b].all fun t => meetB t (3, 0)) := ⟨_, rfl⟩
  have hr : sumM a b = if m1 = true then (if m2 = true then ((0, 0), 0) else ((2, 0), 0)) else if m2 = true then ((3, 0), 0) else ((0, 0), 9) := by rw [h1, h2]; rfl
  rw [hr]
  have HA1 := Lib.hid (fun g o c n w' (h : RL 2 tpE n w' (.slice (some ⟨g, o, none⟩) 2 c) [a, b]) (hn : n ≤ w'.heap.size) hGw => h1 ▸ allMeet_any [a, b] (2, 0) n w' _ h hn (by simp) hGw)
  have HA2 := Lib.hid (fun g o c n w' (h : RL 2 tpE n w' (.slice (some ⟨g, o, none⟩) 2 c) [a, b]) (hn : n ≤ w'.heap.size) hGw => h2 ▸ allMeet_any [a, b] (3, 0) n w' _ h hn (by simp) hGw)
  have HT := Lib.hid (fun g w' (hg : g < w'.heap.size) c0 c1 c2 c3 => two_rl (w := w') (g := g) (o := 0) (c := 2) a b hg c0 c1 c2 c3)
  obtain ⟨a1, a2⟩ := a
  obtain ⟨b1, b2⟩ := b
  simp only at HT
  clear hG h1 h2 hr
  go_enter Tryz.func55, Tryz.ntmps55
  go_upto_region 2 with fail
  obtain ⟨b, hb⟩ : ∃ b, b = w.heap.size + 1 + 1 + 1 := ⟨_, rfl⟩
  rw [← hb]
  refine cutX (fun W => Below w.heap.size w W ∧ w.heap.size + 1 + 1 < W.heap.size ∧ b < W.heap.size ∧ W.cell? ⟨b, 0, none⟩ = some (.int .i64 a1) ∧ W.cell? ⟨b, 1, none⟩ = some (.int .i64 a2) ∧ W.cell? ⟨b, 2, none⟩ = some (.int .i64 b1) ∧ W.cell? ⟨b, 3, none⟩ = some (.int .i64 b2) ∧ W.cell? ⟨w.heap.size + 1 + 1, 0, none⟩ = some (.int .i64 0) ∧ W.cell? ⟨w.heap.size + 1 + 1, 1, none⟩ = some (.int .i64 0) ∧ W.frozen? ⟨w.heap.size + 1 + 1, 0, none⟩ = false ∧ W.frozen? ⟨w.heap.size + 1 + 1, 1, none⟩ = false) ?_ ?_
  · subst hb
    refine ⟨by (repeat' (first | (with_reducible first | exact Below.refl _ _ | assumption | refine Below.alloc ?_ ?_ _ | refine below_drewN ?_ _ | refine below_drew ?_ | refine below_ext ?_ ?_ _ _ | refine Below.setCell ?_ ?_ _) | (simp; done) | (simp; omega) | omega)), ?_⟩
    simp [go_sem]
  intro W ⟨hbW, hsW, hbl, b0, b1c, b2c, b3, r0, r1, f0, f1⟩
  clear hb
  have hGW := HG.out _ hbW
  have hg := hGW.sz
  have g0 := hGW.n0
  have g1 := hGW.n1
  have g2 := hGW.t0
  have g3 := hGW.t1
  have hsw := hbW.size
  have HRL := Lib.hid (fun w' (h : Below W.heap.size W w') => HT.out b w' (Nat.lt_of_lt_of_le hbl h.size) ((h.cell (p := ⟨b, _, none⟩) hbl).trans b0) ((h.cell (p := ⟨b, _, none⟩) hbl).trans b1c) ((h.cell (p := ⟨b, _, none⟩) hbl).trans b2c) ((h.cell (p := ⟨b, _, none⟩) hbl).trans b3))
  have HB1 := Lib.hid (show ∀ w', Below W.heap.size W w' → Calls Tryz.prog 78 #[.slice (some ⟨b, 0, none⟩) 2 2, .agg #[.int .i64 2, .int .i64 0]] w' fun e w'' => e = .returned (.bool m1) ∧ Below w'.heap.size w' w'' from fun w' h => HA1.out b 0 2 w'.heap.size w' (HRL.out w' h) (Nat.le_refl _) (hGW.below h))
  have HB2 := Lib.hid (show ∀ w', Below W.heap.size W w' → Calls Tryz.prog 78 #[.slice (some ⟨b, 0, none⟩) 2 2, .agg #[.int .i64 3, .int .i64 0]] w' fun e w'' => e = .returned (.bool m2) ∧ Below w'.heap.size w' w'' from fun w' h => HA2.out b 0 2 w'.heap.size w' (HRL.out w' h) (Nat.le_refl _) (hGW.below h))
  have KEEP := Lib.hid (show ∀ w', Below W.heap.size W w' → w'.cell? ⟨1, 0, none⟩ = some (.int .i64 2) ∧ w'.cell? ⟨1, 1, none⟩ = some (.int .i64 0) ∧ w'.cell? ⟨2, 0, none⟩ = some (.int .i64 3) ∧ w'.cell? ⟨2, 1, none⟩ = some (.int .i64 0) from fun w' h => ⟨(hGW.below h).n0, (hGW.below h).n1, (hGW.below h).t0, (hGW.below h).t1⟩)
  have KEEP2 := Lib.hid (show ∀ w', Below W.heap.size W w' → Below w.heap.size w w' ∧ w.heap.size + 1 + 1 < w'.heap.size ∧ w'.cell? ⟨w.heap.size + 1 + 1, 0, none⟩ = some (.int .i64 0) ∧ w'.cell? ⟨w.heap.size + 1 + 1, 1, none⟩ = some (.int .i64 0) ∧ w'.frozen? ⟨w.heap.size + 1 + 1, 0, none⟩ = false ∧ w'.frozen? ⟨w.heap.size + 1 + 1, 1, none⟩ = false ∧ TyG w' from fun w' h => ⟨hbW.trans (h.mono hsw), Nat.lt_of_lt_of_le hsW h.size, (h.cell (p := ⟨_, _, none⟩) hsW).trans r0, (h.cell (p := ⟨_, _, none⟩) hsW).trans r1, (h.frozen (p := ⟨_, _, none⟩) hsW).trans f0, (h.frozen (p := ⟨_, _, none⟩) hsW).trans f1, hGW.below h⟩)
  clear hGW r0 r1 f0 f1
  go_region_held3 (fun w' => w'.cell? ⟨1, 0, none⟩ = some (.int .i64 2) ∧ w'.cell? ⟨1, 1, none⟩ = some (.int .i64 0) ∧ w'.cell? ⟨2, 0, none⟩ = some (.int .i64 3) ∧ w'.cell? ⟨2, 1, none⟩ = some (.int .i64 0)) (exact KEEP.out _ (by (repeat' (first | (with_reducible first | exact Below.refl _ _ | assumption | refine Below.alloc ?_ ?_ _ | refine below_drewN ?_ _ | refine below_drew ?_ | refine below_ext ?_ ?_ _ _ | refine Below.setCell ?_ ?_ _) | (simp; done) | (simp; omega) | omega)))) (first
    | (go_at_call 78; ((with_reducible refine (HB1.out _ (by (repeat' (first | (with_reducible first | exact Below.refl _ _ | assumption | refine Below.alloc ?_ ?_ _ | refine below_drewN ?_ _ | refine below_drew ?_ | refine below_ext ?_ ?_ _ _ | refine Below.setCell ?_ ?_ _) | (simp; done) | (simp; omega) | omega)))).mono ?_); rintro e w1 ⟨rfl, hb1⟩; obtain ⟨osA, dA, rfl⟩ := ext_of_below hb1; clear hb1))
    | (go_at_call 78; ((with_reducible refine (HB2.out _ (by (repeat' (first | (with_reducible first | exact Below.refl _ _ | assumption | refine Below.alloc ?_ ?_ _ | refine below_drewN ?_ _ | refine below_drew ?_ | refine below_ext ?_ ?_ _ _ | refine Below.setCell ?_ ?_ _) | (simp; done) | (simp; omega) | omega)))).mono ?_); rintro e w1 ⟨rfl, hb1⟩; obtain ⟨osB, dB, rfl⟩ := ext_of_below hb1; clear hb1)))
  all_goals
    go_upto_region 3 with fail
    refine cutX (fun W2 => Below w.heap.size w W2 ∧ w.heap.size + 1 + 1 < W2.heap.size ∧ W2.cell? ⟨w.heap.size + 1 + 1, 0, none⟩ = some (.int .i64 0) ∧ W2.cell? ⟨w.heap.size + 1 + 1, 1, none⟩ = some (.int .i64 0) ∧ W2.frozen? ⟨w.heap.size + 1 + 1, 0, none⟩ = false ∧ W2.frozen? ⟨w.heap.size + 1 + 1, 1, none⟩ = false ∧ TyG W2) (KEEP2.out _ (by (repeat' (first | (with_reducible first | exact Below.refl _ _ | assumption | refine Below.alloc ?_ ?_ _ | refine below_drewN ?_ _ | refine below_drew ?_ | refine below_ext ?_ ?_ _ _ | refine Below.setCell ?_ ?_ _) | (simp; done) | (simp; omega) | omega)))) ?_
    intro W2 ⟨hb2, hs2, r0, r1, f0, f1, hG2⟩
    have k0 := hG2.n0
    have k1 := hG2.n1
    have k2 := hG2.t0
    have k3 := hG2.t1
    have k4 := hG2.a0
    have k5 := hG2.a1
    have s0 : ∀ u, (W2.setCell ⟨w.heap.size + 1 + 1, 0, none⟩ u).cell? ⟨w.heap.size + 1 + 1, 0, none⟩ = some u := fun u => World.cell?_setCell_same _ _ _ r0
    have s1 : ∀ u v, ((W2.setCell ⟨w.heap.size + 1 + 1, 0, none⟩ u).setCell ⟨w.heap.size + 1 + 1, 1, none⟩ v).cell? ⟨w.heap.size + 1 + 1, 1, none⟩ = some v := fun u v => World.cell?_setCell_same _ _ _ ((World.cell?_setCell_other _ _ _ _ (by intro e2; injection e2 with _ e3; exact absurd e3 (by decide))).trans r1)
    clear hG2
    cases m1 <;> cases m2
    all_goals
      go_wp2
      refine bodyPost_ret (by simp [results, Tryz.results55, go_sem, s0, s1]; try rfl) rfl ?_
      exact ⟨by simp, hb2.trans (by (repeat' (first | (with_reducible first | exact Below.refl _ _ | assumption | refine Below.alloc ?_ ?_ _ | refine below_drewN ?_ _ | refine below_drew ?_ | refine below_ext ?_ ?_ _ _ | refine Below.setCell ?_ ?_ _) | (simp; done) | (simp; omega) | omega)))⟩
end Go.Proofs.YtalahkincccffaaGreatDoor
