/-
  May a node have parts of these types?
-/
import Derived.Test.YtalahkincccffaaGreatDoorTypB
namespace Go.Proofs.YtalahkincccffaaGreatDoor
open Go.RowKit Word Txt
attribute [local go_sem] setCell_drewN cell?_ext frozen?_ext shape?_ext setCell_ext lt_1' ne_1' en_1' le_1' lt_2' ne_2' en_2' le_2' lt_3' ne_3' en_3' le_3' lt_4' ne_4' en_4' le_4' lt_5' ne_5' en_5' le_5' lt_6' ne_6' en_6' le_6' lt_7' ne_7' en_7' le_7' lt_8' ne_8' en_8' le_8' lt_9' ne_9' en_9' le_9' lt_10' ne_10' en_10' le_10' lt_11' ne_11' en_11' le_11' lt_12' ne_12' en_12' le_12'

theorem rl_one {n : Nat} {w : World} {pv : Value} {a : Ty} (h : RL 2 tpE n w pv [a]) : ∃ g o c, pv = .slice (some ⟨g, o, none⟩) 1 c ∧ g < n ∧ w.cell? ⟨g, o, none⟩ = some (.int .i64 a.1) ∧ w.cell? ⟨g, o + 1, none⟩ = some (.int .i64 a.2) := by
  obtain ⟨p, c, rfl, h2⟩ := h
  obtain ⟨g, o, rfl, hg, hc⟩ := h2 (by simp)
  exact ⟨g, o, c, rfl, hg, hc 0 (by simp) 0 _ rfl, hc 0 (by simp) 1 _ rfl⟩
theorem rl_three {n : Nat} {w : World} {pv : Value} {a b d : Ty} (h : RL 2 tpE n w pv [a, b, d]) : ∃ g o c, pv = .slice (some ⟨g, o, none⟩) 3 c ∧ g < n ∧ w.cell? ⟨g, o, none⟩ = some (.int .i64 a.1) ∧ w.cell? ⟨g, o + 1, none⟩ = some (.int .i64 a.2) ∧ w.cell? ⟨g, o + 2, none⟩ = some (.int .i64 b.1) ∧ w.cell? ⟨g, o + 2 + 1, none⟩ = some (.int .i64 b.2) ∧ w.cell? ⟨g, o + 4, none⟩ = some (.int .i64 d.1) ∧ w.cell? ⟨g, o + 4 + 1, none⟩ = some (.int .i64 d.2) := by
  obtain ⟨p, c, rfl, h2⟩ := h
  obtain ⟨g, o, rfl, hg, hc⟩ := h2 (by simp)
  exact ⟨g, o, c, rfl, hg, hc 0 (by simp) 0 _ rfl, hc 0 (by simp) 1 _ rfl, hc 1 (by simp) 0 _ rfl, hc 1 (by simp) 1 _ rfl, hc 2 (by simp) 0 _ rfl, hc 2 (by simp) 1 _ rfl⟩
theorem ty1 {ts : List Ty} (h : ts.length = 1) : ∃ a, ts = [a] := by
  match ts, h with
  | [a], _ => exact ⟨a, rfl⟩
theorem ty2 {ts : List Ty} (h : ts.length = 2) : ∃ a b, ts = [a, b] := by
  match ts, h with
  | [a, b], _ => exact ⟨a, b, rfl⟩
theorem ty3 {ts : List Ty} (h : ts.length = 3) : ∃ a b d, ts = [a, b, d] := by
  match ts, h with
  | [a, b, d], _ => exact ⟨a, b, d, rfl⟩
theorem takes_eq {op : Int} {k : Nat} (h : takesN op k = true) : (op = 24 → k = 1) ∧ ((9 ≤ op ∧ op ≤ 20) ∨ op = 23 → k = 2) ∧ (op = 21 ∨ op = 22 → k = 3) := by
  refine ⟨fun ho => ?_, fun ho => ?_, fun ho => ?_⟩
  · subst ho
    have : decide ((k : Int) = 1) = true := h
    have := of_decide_eq_true this
    omega
  · unfold takesN at h
    rw [if_neg (by omega), if_neg (by omega), if_pos (by omega)] at h
    have := of_decide_eq_true h
    omega
  · unfold takesN at h
    rw [if_neg (by omega), if_neg (by omega), if_neg (by omega), if_pos (by omega)] at h
    have := of_decide_eq_true h
    omega
set_option maxRecDepth 100000 in
set_option maxHeartbeats 8000000 in
theorem simple_any (op : Int) (ts : List Ty) (n : Nat) (w : World) (v : Value) (hv : RL 2 tpE n w v ts) (hn : n ≤ w.heap.size) (hl : ts.length ≤ 1000) (hk : takesN op ts.length = true) (hG : TyG w) :
    Calls Tryz.prog 60 #[.int .i64 op, v] w fun en w' => en = .returned (.bool (simB op ts)) ∧ Below w.heap.size w w' := by
  have hte := takes_eq hk
  have hg := hG.sz
  by_cases h1 : op = 8 ∨ op = 10 ∨ op = 11 ∨ op = 12
  · have hr : simB op ts = numA ts (2, 0) := by unfold simB; rw [if_pos h1]
    rw [hr]
    have HA := Lib.hid (fun w' (hb : Below w.heap.size w w') => allMeet_any ts (2, 0) n w' v (hv.keep (hb.mono hn)) (Nat.le_trans hn hb.size) hl (hG.below hb))
    have g0 := hG.n0
    have g1 := hG.n1
    obtain ⟨p, c, rfl, -⟩ := hv
    obtain ⟨m, hm⟩ : ∃ m, m = (ts.all fun t => meetB t (2, 0)) := ⟨_, rfl⟩
    rw [show numA ts (2, 0) = m from hm.symm]
    rw [← hm] at HA
    generalize ts.length = len at HA ⊢
    clear hr hm hk hte hG hl
    rcases h1 with rfl | rfl | rfl | rfl
    all_goals
      go_enter Tryz.func60, Tryz.ntmps60
      go_wp2_with (first | (go_at_call 78; ((with_reducible refine (HA.out _ (by (repeat' (first | (with_reducible first | exact Below.refl _ _ | assumption | refine Below.alloc ?_ ?_ _ | refine below_drewN ?_ _ | refine below_drew ?_ | refine below_ext ?_ ?_ _ _ | refine Below.setCell ?_ ?_ _) | (simp; done) | (simp; omega) | omega)))).mono ?_); rintro e w1 ⟨rfl, hb1⟩; obtain ⟨osA, dA, rfl⟩ := ext_of_below hb1; clear hb1)))
      go_ret
      exact ⟨rfl, by (repeat' (first | (with_reducible first | exact Below.refl _ _ | assumption | refine Below.alloc ?_ ?_ _ | refine below_drewN ?_ _ | refine below_drew ?_ | refine below_ext ?_ ?_ _ _ | refine Below.setCell ?_ ?_ _) | (simp; done) | (simp; omega) | omega))⟩
  by_cases h2 : op = 19 ∨ op = 20
  · have hr : simB op ts = numA ts (1, 0) := by unfold simB; rw [if_neg h1, if_pos h2]
    rw [hr]
    have HA := Lib.hid (fun w' (hb : Below w.heap.size w w') => allMeet_any ts (1, 0) n w' v (hv.keep (hb.mono hn)) (Nat.le_trans hn hb.size) hl (hG.below hb))
    have g0 := hG.b0
    have g1 := hG.b1
    obtain ⟨p, c, rfl, -⟩ := hv
    obtain ⟨m, hm⟩ : ∃ m, m = (ts.all fun t => meetB t (1, 0)) := ⟨_, rfl⟩
    rw [show numA ts (1, 0) = m from hm.symm]
    rw [← hm] at HA
    generalize ts.length = len at HA ⊢
    clear hr hm hk hte hG hl h1
    rcases h2 with rfl | rfl
    all_goals
      go_enter Tryz.func60, Tryz.ntmps60
      go_wp2_with (first | (go_at_call 78; ((with_reducible refine (HA.out _ (by (repeat' (first | (with_reducible first | exact Below.refl _ _ | assumption | refine Below.alloc ?_ ?_ _ | refine below_drewN ?_ _ | refine below_drew ?_ | refine below_ext ?_ ?_ _ _ | refine Below.setCell ?_ ?_ _) | (simp; done) | (simp; omega) | omega)))).mono ?_); rintro e w1 ⟨rfl, hb1⟩; obtain ⟨osA, dA, rfl⟩ := ext_of_below hb1; clear hb1)))
      go_ret
      exact ⟨rfl, by (repeat' (first | (with_reducible first | exact Below.refl _ _ | assumption | refine Below.alloc ?_ ?_ _ | refine below_drewN ?_ _ | refine below_drew ?_ | refine below_ext ?_ ?_ _ _ | refine Below.setCell ?_ ?_ _) | (simp; done) | (simp; omega) | omega))⟩
  by_cases h3 : op = 13 ∨ op = 14
  · obtain ⟨a, b, rfl⟩ := ty2 (hte.2.1 (by omega))
    have hr : simB op [a, b] = meetB a b := by unfold simB; rw [if_neg h1, if_neg h2, if_pos h3]; rfl
    rw [hr]
    have HM := Lib.hid (show ∀ w', Below w.heap.size w w' → Calls Tryz.prog 57 #[.agg #[.int .i64 a.1, .int .i64 a.2], .agg #[.int .i64 b.1, .int .i64 b.2]] w' fun e w'' => e = .returned (.bool (meetB a b)) ∧ Below w'.heap.size w' w'' from fun w' hb => meets_any a b w' (hG.below hb))
    obtain ⟨g, o, c, rfl, hgn, c0, c1, c2, c3⟩ := rl_two hv
    have hgw : g < w.heap.size := Nat.lt_of_lt_of_le hgn hn
    have HK := Lib.hid (show ∀ w', Below w.heap.size w w' → w'.cell? ⟨g, o, none⟩ = some (.int .i64 a.1) ∧ w'.cell? ⟨g, o + 1, none⟩ = some (.int .i64 a.2) ∧ w'.cell? ⟨g, o + 2, none⟩ = some (.int .i64 b.1) ∧ w'.cell? ⟨g, o + 2 + 1, none⟩ = some (.int .i64 b.2) from fun w' hb => ⟨(hb.cell (p := ⟨g, _, none⟩) hgw).trans c0, (hb.cell (p := ⟨g, _, none⟩) hgw).trans c1, (hb.cell (p := ⟨g, _, none⟩) hgw).trans c2, (hb.cell (p := ⟨g, _, none⟩) hgw).trans c3⟩)
    generalize meetB a b = m at HM ⊢
    obtain ⟨a1, a2⟩ := a
    obtain ⟨b1, b2⟩ := b
    clear hr hk hte hG hl h1 h2 hv c0 c1 c2 c3
    rcases h3 with rfl | rfl
    all_goals
      go_enter Tryz.func60, Tryz.ntmps60
      go_upto_region 12 with fail
      go_region_held3 (fun w' => w'.cell? ⟨g, o, none⟩ = some (.int .i64 a1) ∧ w'.cell? ⟨g, o + 1, none⟩ = some (.int .i64 a2) ∧ w'.cell? ⟨g, o + 2, none⟩ = some (.int .i64 b1) ∧ w'.cell? ⟨g, o + 2 + 1, none⟩ = some (.int .i64 b2)) (exact HK.out _ (by (repeat' (first | (with_reducible first | exact Below.refl _ _ | assumption | refine Below.alloc ?_ ?_ _ | refine below_drewN ?_ _ | refine below_drew ?_ | refine below_ext ?_ ?_ _ _ | refine Below.setCell ?_ ?_ _) | (simp; done) | (simp; omega) | omega)))) (first
        | (go_at_call 57; ((with_reducible refine (HM.out _ (by (repeat' (first | (with_reducible first | exact Below.refl _ _ | assumption | refine Below.alloc ?_ ?_ _ | refine below_drewN ?_ _ | refine below_drew ?_ | refine below_ext ?_ ?_ _ _ | refine Below.setCell ?_ ?_ _) | (simp; done) | (simp; omega) | omega)))).mono ?_); rintro e w1 ⟨rfl, hb1⟩; obtain ⟨osA, dA, rfl⟩ := ext_of_below hb1; clear hb1)))
      all_goals
        go_wp2
        go_ret
        exact ⟨rfl, by (repeat' (first | (with_reducible first | exact Below.refl _ _ | assumption | refine Below.alloc ?_ ?_ _ | refine below_drewN ?_ _ | refine below_drew ?_ | refine below_ext ?_ ?_ _ _ | refine Below.setCell ?_ ?_ _) | (simp; done) | (simp; omega) | omega))⟩
  by_cases h4 : 15 ≤ op ∧ op ≤ 18
  · obtain ⟨a, b, rfl⟩ := ty2 (hte.2.1 (by omega))
    have hr : simB op [a, b] = ordB a b := by unfold simB; rw [if_neg h1, if_neg h2, if_neg h3, if_pos h4]; rfl
    rw [hr]
    have HM := Lib.hid (show ∀ w', Below w.heap.size w w' → Calls Tryz.prog 61 #[.agg #[.int .i64 a.1, .int .i64 a.2], .agg #[.int .i64 b.1, .int .i64 b.2]] w' fun e w'' => e = .returned (.bool (ordB a b)) ∧ Below w'.heap.size w' w'' from fun w' hb => ordered_any a b w' (hG.below hb))
    obtain ⟨g, o, c, rfl, hgn, c0, c1, c2, c3⟩ := rl_two hv
    have hgw : g < w.heap.size := Nat.lt_of_lt_of_le hgn hn
    have HK := Lib.hid (show ∀ w', Below w.heap.size w w' → w'.cell? ⟨g, o, none⟩ = some (.int .i64 a.1) ∧ w'.cell? ⟨g, o + 1, none⟩ = some (.int .i64 a.2) ∧ w'.cell? ⟨g, o + 2, none⟩ = some (.int .i64 b.1) ∧ w'.cell? ⟨g, o + 2 + 1, none⟩ = some (.int .i64 b.2) from fun w' hb => ⟨(hb.cell (p := ⟨g, _, none⟩) hgw).trans c0, (hb.cell (p := ⟨g, _, none⟩) hgw).trans c1, (hb.cell (p := ⟨g, _, none⟩) hgw).trans c2, (hb.cell (p := ⟨g, _, none⟩) hgw).trans c3⟩)
    generalize ordB a b = m at HM ⊢
    obtain ⟨a1, a2⟩ := a
    obtain ⟨b1, b2⟩ := b
    have h5 : op = 15 ∨ op = 16 ∨ op = 17 ∨ op = 18 := by omega
    clear hr hk hte hG hl h1 h2 h3 h4 hv c0 c1 c2 c3
    rcases h5 with rfl | rfl | rfl | rfl
    all_goals
      go_enter Tryz.func60, Tryz.ntmps60
      go_upto_region 17 with fail
      go_region_held3 (fun w' => w'.cell? ⟨g, o, none⟩ = some (.int .i64 a1) ∧ w'.cell? ⟨g, o + 1, none⟩ = some (.int .i64 a2) ∧ w'.cell? ⟨g, o + 2, none⟩ = some (.int .i64 b1) ∧ w'.cell? ⟨g, o + 2 + 1, none⟩ = some (.int .i64 b2)) (exact HK.out _ (by (repeat' (first | (with_reducible first | exact Below.refl _ _ | assumption | refine Below.alloc ?_ ?_ _ | refine below_drewN ?_ _ | refine below_drew ?_ | refine below_ext ?_ ?_ _ _ | refine Below.setCell ?_ ?_ _) | (simp; done) | (simp; omega) | omega)))) (first
        | (go_at_call 61; ((with_reducible refine (HM.out _ (by (repeat' (first | (with_reducible first | exact Below.refl _ _ | assumption | refine Below.alloc ?_ ?_ _ | refine below_drewN ?_ _ | refine below_drew ?_ | refine below_ext ?_ ?_ _ _ | refine Below.setCell ?_ ?_ _) | (simp; done) | (simp; omega) | omega)))).mono ?_); rintro e w1 ⟨rfl, hb1⟩; obtain ⟨osA, dA, rfl⟩ := ext_of_below hb1; clear hb1)))
      all_goals
        go_wp2
        go_ret
        exact ⟨rfl, by (repeat' (first | (with_reducible first | exact Below.refl _ _ | assumption | refine Below.alloc ?_ ?_ _ | refine below_drewN ?_ _ | refine below_drew ?_ | refine below_ext ?_ ?_ _ _ | refine Below.setCell ?_ ?_ _) | (simp; done) | (simp; omega) | omega))⟩
  by_cases h5 : op = 22
  · obtain ⟨a, b, d, rfl⟩ := ty3 (hte.2.2 (by omega))
    have hr : simB op [a, b, d] = (ordB a b && ordB a d) := by unfold simB; rw [if_neg h1, if_neg h2, if_neg h3, if_neg h4, if_pos h5]; rfl
    rw [hr]
    have HM1 := Lib.hid (show ∀ w', Below w.heap.size w w' → Calls Tryz.prog 61 #[.agg #[.int .i64 a.1, .int .i64 a.2], .agg #[.int .i64 b.1, .int .i64 b.2]] w' fun e w'' => e = .returned (.bool (ordB a b)) ∧ Below w'.heap.size w' w'' from fun w' hb => ordered_any a b w' (hG.below hb))
    have HM2 := Lib.hid (show ∀ w', Below w.heap.size w w' → Calls Tryz.prog 61 #[.agg #[.int .i64 a.1, .int .i64 a.2], .agg #[.int .i64 d.1, .int .i64 d.2]] w' fun e w'' => e = .returned (.bool (ordB a d)) ∧ Below w'.heap.size w' w'' from fun w' hb => ordered_any a d w' (hG.below hb))
    obtain ⟨g, o, c, rfl, hgn, c0, c1, c2, c3, c4, c5⟩ := rl_three hv
    have hgw : g < w.heap.size := Nat.lt_of_lt_of_le hgn hn
    have HK := Lib.hid (show ∀ w', Below w.heap.size w w' → w'.cell? ⟨g, o, none⟩ = some (.int .i64 a.1) ∧ w'.cell? ⟨g, o + 1, none⟩ = some (.int .i64 a.2) ∧ w'.cell? ⟨g, o + 2, none⟩ = some (.int .i64 b.1) ∧ w'.cell? ⟨g, o + 2 + 1, none⟩ = some (.int .i64 b.2) ∧ w'.cell? ⟨g, o + 4, none⟩ = some (.int .i64 d.1) ∧ w'.cell? ⟨g, o + 4 + 1, none⟩ = some (.int .i64 d.2) from fun w' hb => ⟨(hb.cell (p := ⟨g, _, none⟩) hgw).trans c0, (hb.cell (p := ⟨g, _, none⟩) hgw).trans c1, (hb.cell (p := ⟨g, _, none⟩) hgw).trans c2, (hb.cell (p := ⟨g, _, none⟩) hgw).trans c3, (hb.cell (p := ⟨g, _, none⟩) hgw).trans c4, (hb.cell (p := ⟨g, _, none⟩) hgw).trans c5⟩)
    generalize ordB a b = m1 at HM1 ⊢
    generalize ordB a d = m2 at HM2 ⊢
    obtain ⟨a1, a2⟩ := a
    obtain ⟨b1, b2⟩ := b
    obtain ⟨d1, d2⟩ := d
    subst h5
    clear hr hk hte hG hl h1 h2 h3 h4 hv c0 c1 c2 c3 c4 c5
    cases m1 with
    | false =>
      go_enter Tryz.func60, Tryz.ntmps60
      go_upto_region 19 with fail
      refine wp_region_held_drew (S := fun w' => w'.cell? ⟨g, o, none⟩ = some (.int .i64 a1) ∧ w'.cell? ⟨g, o + 1, none⟩ = some (.int .i64 a2) ∧ w'.cell? ⟨g, o + 2, none⟩ = some (.int .i64 b1) ∧ w'.cell? ⟨g, o + 2 + 1, none⟩ = some (.int .i64 b2) ∧ w'.cell? ⟨g, o + 4, none⟩ = some (.int .i64 d1) ∧ w'.cell? ⟨g, o + 4 + 1, none⟩ = some (.int .i64 d2)) (by kernel_rfl) ?r19ahSa (fun hHeld => ?r19aresta)
      case r19ahSa => ((try dsimp only); exact HK.out _ (by (repeat' (first | (with_reducible first | exact Below.refl _ _ | assumption | refine Below.alloc ?_ ?_ _ | refine below_drewN ?_ _ | refine below_drew ?_ | refine below_ext ?_ ?_ _ _ | refine Below.setCell ?_ ?_ _) | (simp; done) | (simp; omega) | omega))))
      refine wpAnyH_take (i := 0) (oi := ({ dst := some 44, op := Op.move (Operand.tmp 1), type := 63, pos := "types.go:57", after := #[], guard := none } : Oper)) (v := ?r19av1) rfl (by kernel_rfl) (by kernel_rfl) (by kernel_rfl) (fun _ _ _ h => h) (Or.inl ⟨by rfl, ?r19ahy1⟩) (by assumption) ?r19are1
      case r19ahy1 => (intro w hSw; (try dsimp only at hSw); go_simp; try with_reducible rfl)
      (try simp only [Act.put, List.setIfInBounds_toArray, List.set_cons_zero, List.set_cons_succ])
      refine wpAnyH_take (i := 1) (oi := ({ dst := some 45, op := Op.indexAddr 63 (Operand.tmp 44) (Operand.const (Value.int IntKind.i64 0)), type := 0, pos := "types.go:57", after := #[{ on := 0, ground := Ground.data }], guard := none } : Oper)) (v := ?r19av2) rfl (by kernel_rfl) (by kernel_rfl) (by kernel_rfl) (fun _ _ _ h => h) (Or.inl ⟨by rfl, ?r19ahy2⟩) (by assumption) ?r19are2
      case r19ahy2 => (intro w hSw; (try dsimp only at hSw); go_simp; try with_reducible rfl)
      (try simp only [Act.put, List.setIfInBounds_toArray, List.set_cons_zero, List.set_cons_succ])
      refine wpAnyH_take (i := 2) (oi := ({ dst := some 46, op := Op.load 26 (Operand.tmp 45), type := 26, pos := "types.go:57", after := #[{ on := 1, ground := Ground.data }], guard := none } : Oper)) (v := ?r19av3) rfl (by kernel_rfl) (by kernel_rfl) (by kernel_rfl) (fun _ _ _ h => h) (Or.inl ⟨by rfl, ?r19ahy3⟩) (by assumption) ?r19are3
      case r19ahy3 => (intro w hSw; (try dsimp only at hSw); go_simp; try with_reducible rfl)
      (try simp only [Act.put, List.setIfInBounds_toArray, List.set_cons_zero, List.set_cons_succ])
      refine wpAnyH_take (i := 3) (oi := ({ dst := some 47, op := Op.move (Operand.tmp 1), type := 63, pos := "types.go:57", after := #[], guard := none } : Oper)) (v := ?r19av4) rfl (by kernel_rfl) (by kernel_rfl) (by kernel_rfl) (fun _ _ _ h => h) (Or.inl ⟨by rfl, ?r19ahy4⟩) (by assumption) ?r19are4
      case r19ahy4 => (intro w hSw; (try dsimp only at hSw); go_simp; try with_reducible rfl)
      (try simp only [Act.put, List.setIfInBounds_toArray, List.set_cons_zero, List.set_cons_succ])
      refine wpAnyH_take (i := 4) (oi := ({ dst := some 48, op := Op.indexAddr 63 (Operand.tmp 47) (Operand.const (Value.int IntKind.i64 1)), type := 0, pos := "types.go:57", after := #[{ on := 3, ground := Ground.data }], guard := none } : Oper)) (v := ?r19av5) rfl (by kernel_rfl) (by kernel_rfl) (by kernel_rfl) (fun _ _ _ h => h) (Or.inl ⟨by rfl, ?r19ahy5⟩) (by assumption) ?r19are5
      case r19ahy5 => (intro w hSw; (try dsimp only at hSw); go_simp; try with_reducible rfl)
      (try simp only [Act.put, List.setIfInBounds_toArray, List.set_cons_zero, List.set_cons_succ])
      refine wpAnyH_take (i := 5) (oi := ({ dst := some 49, op := Op.load 26 (Operand.tmp 48), type := 26, pos := "types.go:57", after := #[{ on := 4, ground := Ground.data }], guard := none } : Oper)) (v := ?r19av6) rfl (by kernel_rfl) (by kernel_rfl) (by kernel_rfl) (fun _ _ _ h => h) (Or.inl ⟨by rfl, ?r19ahy6⟩) (by assumption) ?r19are6
      case r19ahy6 => (intro w hSw; (try dsimp only at hSw); go_simp; try with_reducible rfl)
      (try simp only [Act.put, List.setIfInBounds_toArray, List.set_cons_zero, List.set_cons_succ])
      refine wpAnyH_ready (rs := [6]) (by kernel_rfl) (by simp) ?_
      refine AllReadyH.cons (o := ({ dst := some 50, op := Op.call { callee := Callee.value (Operand.func 61), args := #[Operand.tmp 46, Operand.tmp 49], argTypes := #[26, 26] }, type := 4, pos := "types.go:57", after := #[{ on := 2, ground := Ground.data }, { on := 5, ground := Ground.data }], guard := none } : Oper)) rfl (fun K hK => ?_) AllReadyH.nil
      go_simp
      (go_at_call 61; (with_reducible refine (HM1.out _ (by (repeat' (first | (with_reducible first | exact Below.refl _ _ | assumption | refine Below.alloc ?_ ?_ _ | refine below_drewN ?_ _ | refine below_drew ?_ | refine below_ext ?_ ?_ _ _ | refine Below.setCell ?_ ?_ _) | (simp; done) | (simp; omega) | omega)))).mono ?_); rintro e9 w1 ⟨rfl, hb1⟩; obtain ⟨osA, dA, rfl⟩ := ext_of_below hb1; clear hb1)
      refine hK.out _ _ ?r19ahS7 (fun hHeldN => ?r19arst7)
      case r19ahS7 => ((try dsimp only); exact HK.out _ (by (repeat' (first | (with_reducible first | exact Below.refl _ _ | assumption | refine Below.alloc ?_ ?_ _ | refine below_drewN ?_ _ | refine below_drew ?_ | refine below_ext ?_ ?_ _ _ | refine Below.setCell ?_ ?_ _) | (simp; done) | (simp; omega) | omega))))
      clear hHeld hK K
      have hHeld := hHeldN
      clear hHeldN
      refine wpAnyH_take (i := 7) (oi := ({ dst := some 51, op := Op.move (Operand.tmp 50), type := 4, pos := "types.go:57", after := #[{ on := 6, ground := Ground.data }, { on := 6, ground := Ground.chain }], guard := none } : Oper)) (v := ?r19av8) rfl (by kernel_rfl) (by kernel_rfl) (by kernel_rfl) (fun _ _ _ h => h) (Or.inl ⟨by rfl, ?r19ahy8⟩) (by assumption) ?r19are8
      case r19ahy8 => (intro w hSw; (try dsimp only at hSw); go_simp; try with_reducible rfl)
      (try simp only [Act.put, List.setIfInBounds_toArray, List.set_cons_zero, List.set_cons_succ])
      refine wpAnyH_take (i := 8) (oi := ({ dst := some 52, op := Op.move (Operand.tmp 1), type := 63, pos := "types.go:57", after := #[{ on := 7, ground := Ground.guard }], guard := some (7, true) } : Oper)) (v := undef) rfl (by kernel_rfl) (by kernel_rfl) (by kernel_rfl) (fun _ _ _ h => h) (Or.inr ⟨by rfl, rfl⟩) (by assumption) ?r19are9
      (try simp only [Act.put, List.setIfInBounds_toArray, List.set_cons_zero, List.set_cons_succ])
      refine wpAnyH_take (i := 9) (oi := ({ dst := some 53, op := Op.indexAddr 63 (Operand.tmp 52) (Operand.const (Value.int IntKind.i64 0)), type := 0, pos := "types.go:57", after := #[{ on := 8, ground := Ground.data }, { on := 7, ground := Ground.guard }], guard := some (7, true) } : Oper)) (v := undef) rfl (by kernel_rfl) (by kernel_rfl) (by kernel_rfl) (fun _ _ _ h => h) (Or.inr ⟨by rfl, rfl⟩) (by assumption) ?r19are10
      (try simp only [Act.put, List.setIfInBounds_toArray, List.set_cons_zero, List.set_cons_succ])
      refine wpAnyH_take (i := 10) (oi := ({ dst := some 54, op := Op.load 26 (Operand.tmp 53), type := 26, pos := "types.go:57", after := #[{ on := 9, ground := Ground.data }, { on := 7, ground := Ground.guard }], guard := some (7, true) } : Oper)) (v := undef) rfl (by kernel_rfl) (by kernel_rfl) (by kernel_rfl) (fun _ _ _ h => h) (Or.inr ⟨by rfl, rfl⟩) (by assumption) ?r19are11
      (try simp only [Act.put, List.setIfInBounds_toArray, List.set_cons_zero, List.set_cons_succ])
      refine wpAnyH_take (i := 11) (oi := ({ dst := some 55, op := Op.move (Operand.tmp 1), type := 63, pos := "types.go:57", after := #[{ on := 7, ground := Ground.guard }], guard := some (7, true) } : Oper)) (v := undef) rfl (by kernel_rfl) (by kernel_rfl) (by kernel_rfl) (fun _ _ _ h => h) (Or.inr ⟨by rfl, rfl⟩) (by assumption) ?r19are12
      (try simp only [Act.put, List.setIfInBounds_toArray, List.set_cons_zero, List.set_cons_succ])
      refine wpAnyH_take (i := 12) (oi := ({ dst := some 56, op := Op.indexAddr 63 (Operand.tmp 55) (Operand.const (Value.int IntKind.i64 2)), type := 0, pos := "types.go:57", after := #[{ on := 11, ground := Ground.data }, { on := 7, ground := Ground.guard }], guard := some (7, true) } : Oper)) (v := undef) rfl (by kernel_rfl) (by kernel_rfl) (by kernel_rfl) (fun _ _ _ h => h) (Or.inr ⟨by rfl, rfl⟩) (by assumption) ?r19are13
      (try simp only [Act.put, List.setIfInBounds_toArray, List.set_cons_zero, List.set_cons_succ])
      refine wpAnyH_take (i := 13) (oi := ({ dst := some 57, op := Op.load 26 (Operand.tmp 56), type := 26, pos := "types.go:57", after := #[{ on := 12, ground := Ground.data }, { on := 7, ground := Ground.guard }], guard := some (7, true) } : Oper)) (v := undef) rfl (by kernel_rfl) (by kernel_rfl) (by kernel_rfl) (fun _ _ _ h => h) (Or.inr ⟨by rfl, rfl⟩) (by assumption) ?r19are14
      (try simp only [Act.put, List.setIfInBounds_toArray, List.set_cons_zero, List.set_cons_succ])
      refine wpAnyH_take (i := 14) (oi := ({ dst := some 58, op := Op.call { callee := Callee.value (Operand.func 61), args := #[Operand.tmp 54, Operand.tmp 57], argTypes := #[26, 26] }, type := 4, pos := "types.go:57", after := #[{ on := 10, ground := Ground.data }, { on := 13, ground := Ground.data }, { on := 7, ground := Ground.chain }, { on := 7, ground := Ground.guard }], guard := some (7, true) } : Oper)) (v := undef) rfl (by kernel_rfl) (by kernel_rfl) (by kernel_rfl) (fun _ _ _ h => h) (Or.inr ⟨by rfl, rfl⟩) (by assumption) ?r19are15
      (try simp only [Act.put, List.setIfInBounds_toArray, List.set_cons_zero, List.set_cons_succ])
      refine wpAnyH_take (i := 15) (oi := ({ dst := some 59, op := Op.pick (Operand.tmp 51) (Operand.tmp 58) (Operand.const (Value.bool false)), type := 4, pos := "types.go:57", after := #[{ on := 7, ground := Ground.data }, { on := 14, ground := Ground.data }], guard := none } : Oper)) (v := ?r19av16) rfl (by kernel_rfl) (by kernel_rfl) (by kernel_rfl) (fun _ _ _ h => h) (Or.inl ⟨by rfl, ?r19ahy16⟩) (by assumption) ?r19are16
      case r19ahy16 => (intro w hSw; (try dsimp only at hSw); go_simp; try with_reducible rfl)
      (try simp only [Act.put, List.setIfInBounds_toArray, List.set_cons_zero, List.set_cons_succ])
      refine wpAnyH_take (i := 16) (oi := ({ dst := some 4, op := Op.assign (Operand.tmp 59), type := 4, pos := "types.go:57", after := #[{ on := 15, ground := Ground.data }, { on := 14, ground := Ground.chain }, { on := 0, ground := Ground.phase }, { on := 1, ground := Ground.phase }, { on := 2, ground := Ground.phase }, { on := 3, ground := Ground.phase }, { on := 4, ground := Ground.phase }, { on := 5, ground := Ground.phase }, { on := 6, ground := Ground.phase }, { on := 7, ground := Ground.phase }, { on := 8, ground := Ground.phase }, { on := 9, ground := Ground.phase }, { on := 10, ground := Ground.phase }, { on := 11, ground := Ground.phase }, { on := 12, ground := Ground.phase }, { on := 13, ground := Ground.phase }, { on := 14, ground := Ground.phase }, { on := 15, ground := Ground.phase }], guard := none } : Oper)) (v := ?r19av17) rfl (by kernel_rfl) (by kernel_rfl) (by kernel_rfl) (fun _ _ _ h => h) (Or.inl ⟨by rfl, ?r19ahy17⟩) (by assumption) ?r19are17
      case r19ahy17 => (intro w hSw; (try dsimp only at hSw); go_simp; try with_reducible rfl)
      (try simp only [Act.put, List.setIfInBounds_toArray, List.set_cons_zero, List.set_cons_succ])
      refine wpAnyH_done (by kernel_rfl) ?_ _
      clear hHeld
      go_wp2
      go_ret
      exact ⟨by simp, by (repeat' (first | (with_reducible first | exact Below.refl _ _ | assumption | refine Below.alloc ?_ ?_ _ | refine below_drewN ?_ _ | refine below_drew ?_ | refine below_ext ?_ ?_ _ _ | refine Below.setCell ?_ ?_ _) | (simp; done) | (simp; omega) | omega))⟩
    | true =>
      go_enter Tryz.func60, Tryz.ntmps60
      go_upto_region 19 with fail
      refine wp_region_held_drew (S := fun w' => w'.cell? ⟨g, o, none⟩ = some (.int .i64 a1) ∧ w'.cell? ⟨g, o + 1, none⟩ = some (.int .i64 a2) ∧ w'.cell? ⟨g, o + 2, none⟩ = some (.int .i64 b1) ∧ w'.cell? ⟨g, o + 2 + 1, none⟩ = some (.int .i64 b2) ∧ w'.cell? ⟨g, o + 4, none⟩ = some (.int .i64 d1) ∧ w'.cell? ⟨g, o + 4 + 1, none⟩ = some (.int .i64 d2)) (by kernel_rfl) ?r19bhSa (fun hHeld => ?r19bresta)
      case r19bhSa => ((try dsimp only); exact HK.out _ (by (repeat' (first | (with_reducible first | exact Below.refl _ _ | assumption | refine Below.alloc ?_ ?_ _ | refine below_drewN ?_ _ | refine below_drew ?_ | refine below_ext ?_ ?_ _ _ | refine Below.setCell ?_ ?_ _) | (simp; done) | (simp; omega) | omega))))
      refine wpAnyH_take (i := 0) (oi := ({ dst := some 44, op := Op.move (Operand.tmp 1), type := 63, pos := "types.go:57", after := #[], guard := none } : Oper)) (v := ?r19bv1) rfl (by kernel_rfl) (by kernel_rfl) (by kernel_rfl) (fun _ _ _ h => h) (Or.inl ⟨by rfl, ?r19bhy1⟩) (by assumption) ?r19bre1
      case r19bhy1 => (intro w hSw; (try dsimp only at hSw); go_simp; try with_reducible rfl)
      (try simp only [Act.put, List.setIfInBounds_toArray, List.set_cons_zero, List.set_cons_succ])
      refine wpAnyH_take (i := 1) (oi := ({ dst := some 45, op := Op.indexAddr 63 (Operand.tmp 44) (Operand.const (Value.int IntKind.i64 0)), type := 0, pos := "types.go:57", after := #[{ on := 0, ground := Ground.data }], guard := none } : Oper)) (v := ?r19bv2) rfl (by kernel_rfl) (by kernel_rfl) (by kernel_rfl) (fun _ _ _ h => h) (Or.inl ⟨by rfl, ?r19bhy2⟩) (by assumption) ?r19bre2
      case r19bhy2 => (intro w hSw; (try dsimp only at hSw); go_simp; try with_reducible rfl)
      (try simp only [Act.put, List.setIfInBounds_toArray, List.set_cons_zero, List.set_cons_succ])
      refine wpAnyH_take (i := 2) (oi := ({ dst := some 46, op := Op.load 26 (Operand.tmp 45), type := 26, pos := "types.go:57", after := #[{ on := 1, ground := Ground.data }], guard := none } : Oper)) (v := ?r19bv3) rfl (by kernel_rfl) (by kernel_rfl) (by kernel_rfl) (fun _ _ _ h => h) (Or.inl ⟨by rfl, ?r19bhy3⟩) (by assumption) ?r19bre3
      case r19bhy3 => (intro w hSw; (try dsimp only at hSw); go_simp; try with_reducible rfl)
      (try simp only [Act.put, List.setIfInBounds_toArray, List.set_cons_zero, List.set_cons_succ])
      refine wpAnyH_take (i := 3) (oi := ({ dst := some 47, op := Op.move (Operand.tmp 1), type := 63, pos := "types.go:57", after := #[], guard := none } : Oper)) (v := ?r19bv4) rfl (by kernel_rfl) (by kernel_rfl) (by kernel_rfl) (fun _ _ _ h => h) (Or.inl ⟨by rfl, ?r19bhy4⟩) (by assumption) ?r19bre4
      case r19bhy4 => (intro w hSw; (try dsimp only at hSw); go_simp; try with_reducible rfl)
      (try simp only [Act.put, List.setIfInBounds_toArray, List.set_cons_zero, List.set_cons_succ])
      refine wpAnyH_take (i := 4) (oi := ({ dst := some 48, op := Op.indexAddr 63 (Operand.tmp 47) (Operand.const (Value.int IntKind.i64 1)), type := 0, pos := "types.go:57", after := #[{ on := 3, ground := Ground.data }], guard := none } : Oper)) (v := ?r19bv5) rfl (by kernel_rfl) (by kernel_rfl) (by kernel_rfl) (fun _ _ _ h => h) (Or.inl ⟨by rfl, ?r19bhy5⟩) (by assumption) ?r19bre5
      case r19bhy5 => (intro w hSw; (try dsimp only at hSw); go_simp; try with_reducible rfl)
      (try simp only [Act.put, List.setIfInBounds_toArray, List.set_cons_zero, List.set_cons_succ])
      refine wpAnyH_take (i := 5) (oi := ({ dst := some 49, op := Op.load 26 (Operand.tmp 48), type := 26, pos := "types.go:57", after := #[{ on := 4, ground := Ground.data }], guard := none } : Oper)) (v := ?r19bv6) rfl (by kernel_rfl) (by kernel_rfl) (by kernel_rfl) (fun _ _ _ h => h) (Or.inl ⟨by rfl, ?r19bhy6⟩) (by assumption) ?r19bre6
      case r19bhy6 => (intro w hSw; (try dsimp only at hSw); go_simp; try with_reducible rfl)
      (try simp only [Act.put, List.setIfInBounds_toArray, List.set_cons_zero, List.set_cons_succ])
      refine wpAnyH_ready (rs := [6]) (by kernel_rfl) (by simp) ?_
      refine AllReadyH.cons (o := ({ dst := some 50, op := Op.call { callee := Callee.value (Operand.func 61), args := #[Operand.tmp 46, Operand.tmp 49], argTypes := #[26, 26] }, type := 4, pos := "types.go:57", after := #[{ on := 2, ground := Ground.data }, { on := 5, ground := Ground.data }], guard := none } : Oper)) rfl (fun K hK => ?_) AllReadyH.nil
      go_simp
      (go_at_call 61; (with_reducible refine (HM1.out _ (by (repeat' (first | (with_reducible first | exact Below.refl _ _ | assumption | refine Below.alloc ?_ ?_ _ | refine below_drewN ?_ _ | refine below_drew ?_ | refine below_ext ?_ ?_ _ _ | refine Below.setCell ?_ ?_ _) | (simp; done) | (simp; omega) | omega)))).mono ?_); rintro e9 w1 ⟨rfl, hb1⟩; obtain ⟨osA, dA, rfl⟩ := ext_of_below hb1; clear hb1)
      refine hK.out _ _ ?r19bhS7 (fun hHeldN => ?r19brst7)
      case r19bhS7 => ((try dsimp only); exact HK.out _ (by (repeat' (first | (with_reducible first | exact Below.refl _ _ | assumption | refine Below.alloc ?_ ?_ _ | refine below_drewN ?_ _ | refine below_drew ?_ | refine below_ext ?_ ?_ _ _ | refine Below.setCell ?_ ?_ _) | (simp; done) | (simp; omega) | omega))))
      clear hHeld hK K
      have hHeld := hHeldN
      clear hHeldN
      refine wpAnyH_take (i := 7) (oi := ({ dst := some 51, op := Op.move (Operand.tmp 50), type := 4, pos := "types.go:57", after := #[{ on := 6, ground := Ground.data }, { on := 6, ground := Ground.chain }], guard := none } : Oper)) (v := ?r19bv8) rfl (by kernel_rfl) (by kernel_rfl) (by kernel_rfl) (fun _ _ _ h => h) (Or.inl ⟨by rfl, ?r19bhy8⟩) (by assumption) ?r19bre8
      case r19bhy8 => (intro w hSw; (try dsimp only at hSw); go_simp; try with_reducible rfl)
      (try simp only [Act.put, List.setIfInBounds_toArray, List.set_cons_zero, List.set_cons_succ])
      refine wpAnyH_take (i := 8) (oi := ({ dst := some 52, op := Op.move (Operand.tmp 1), type := 63, pos := "types.go:57", after := #[{ on := 7, ground := Ground.guard }], guard := some (7, true) } : Oper)) (v := ?r19bv9) rfl (by kernel_rfl) (by kernel_rfl) (by kernel_rfl) (fun _ _ _ h => h) (Or.inl ⟨by rfl, ?r19bhy9⟩) (by assumption) ?r19bre9
      case r19bhy9 => (intro w hSw; (try dsimp only at hSw); go_simp; try with_reducible rfl)
      (try simp only [Act.put, List.setIfInBounds_toArray, List.set_cons_zero, List.set_cons_succ])
      refine wpAnyH_take (i := 9) (oi := ({ dst := some 53, op := Op.indexAddr 63 (Operand.tmp 52) (Operand.const (Value.int IntKind.i64 0)), type := 0, pos := "types.go:57", after := #[{ on := 8, ground := Ground.data }, { on := 7, ground := Ground.guard }], guard := some (7, true) } : Oper)) (v := ?r19bv10) rfl (by kernel_rfl) (by kernel_rfl) (by kernel_rfl) (fun _ _ _ h => h) (Or.inl ⟨by rfl, ?r19bhy10⟩) (by assumption) ?r19bre10
      case r19bhy10 => (intro w hSw; (try dsimp only at hSw); go_simp; try with_reducible rfl)
      (try simp only [Act.put, List.setIfInBounds_toArray, List.set_cons_zero, List.set_cons_succ])
      refine wpAnyH_take (i := 10) (oi := ({ dst := some 54, op := Op.load 26 (Operand.tmp 53), type := 26, pos := "types.go:57", after := #[{ on := 9, ground := Ground.data }, { on := 7, ground := Ground.guard }], guard := some (7, true) } : Oper)) (v := ?r19bv11) rfl (by kernel_rfl) (by kernel_rfl) (by kernel_rfl) (fun _ _ _ h => h) (Or.inl ⟨by rfl, ?r19bhy11⟩) (by assumption) ?r19bre11
      case r19bhy11 => (intro w hSw; (try dsimp only at hSw); go_simp; try with_reducible rfl)
      (try simp only [Act.put, List.setIfInBounds_toArray, List.set_cons_zero, List.set_cons_succ])
      refine wpAnyH_take (i := 11) (oi := ({ dst := some 55, op := Op.move (Operand.tmp 1), type := 63, pos := "types.go:57", after := #[{ on := 7, ground := Ground.guard }], guard := some (7, true) } : Oper)) (v := ?r19bv12) rfl (by kernel_rfl) (by kernel_rfl) (by kernel_rfl) (fun _ _ _ h => h) (Or.inl ⟨by rfl, ?r19bhy12⟩) (by assumption) ?r19bre12
      case r19bhy12 => (intro w hSw; (try dsimp only at hSw); go_simp; try with_reducible rfl)
      (try simp only [Act.put, List.setIfInBounds_toArray, List.set_cons_zero, List.set_cons_succ])
      refine wpAnyH_take (i := 12) (oi := ({ dst := some 56, op := Op.indexAddr 63 (Operand.tmp 55) (Operand.const (Value.int IntKind.i64 2)), type := 0, pos := "types.go:57", after := #[{ on := 11, ground := Ground.data }, { on := 7, ground := Ground.guard }], guard := some (7, true) } : Oper)) (v := ?r19bv13) rfl (by kernel_rfl) (by kernel_rfl) (by kernel_rfl) (fun _ _ _ h => h) (Or.inl ⟨by rfl, ?r19bhy13⟩) (by assumption) ?r19bre13
      case r19bhy13 => (intro w hSw; (try dsimp only at hSw); go_simp; try with_reducible rfl)
      (try simp only [Act.put, List.setIfInBounds_toArray, List.set_cons_zero, List.set_cons_succ])
      refine wpAnyH_take (i := 13) (oi := ({ dst := some 57, op := Op.load 26 (Operand.tmp 56), type := 26, pos := "types.go:57", after := #[{ on := 12, ground := Ground.data }, { on := 7, ground := Ground.guard }], guard := some (7, true) } : Oper)) (v := ?r19bv14) rfl (by kernel_rfl) (by kernel_rfl) (by kernel_rfl) (fun _ _ _ h => h) (Or.inl ⟨by rfl, ?r19bhy14⟩) (by assumption) ?r19bre14
      case r19bhy14 => (intro w hSw; (try dsimp only at hSw); go_simp; try with_reducible rfl)
      (try simp only [Act.put, List.setIfInBounds_toArray, List.set_cons_zero, List.set_cons_succ])
      refine wpAnyH_ready (rs := [14]) (by kernel_rfl) (by simp) ?_
      refine AllReadyH.cons (o := ({ dst := some 58, op := Op.call { callee := Callee.value (Operand.func 61), args := #[Operand.tmp 54, Operand.tmp 57], argTypes := #[26, 26] }, type := 4, pos := "types.go:57", after := #[{ on := 10, ground := Ground.data }, { on := 13, ground := Ground.data }, { on := 7, ground := Ground.chain }, { on := 7, ground := Ground.guard }], guard := some (7, true) } : Oper)) rfl (fun K hK => ?_) AllReadyH.nil
      go_simp
      (go_at_call 61; (with_reducible refine (HM2.out _ (by (repeat' (first | (with_reducible first | exact Below.refl _ _ | assumption | refine Below.alloc ?_ ?_ _ | refine below_drewN ?_ _ | refine below_drew ?_ | refine below_ext ?_ ?_ _ _ | refine Below.setCell ?_ ?_ _) | (simp; done) | (simp; omega) | omega)))).mono ?_); rintro e9 w1 ⟨rfl, hb1⟩; obtain ⟨osB, dB, rfl⟩ := ext_of_below hb1; clear hb1)
      refine hK.out _ _ ?r19bhS15 (fun hHeldN => ?r19brst15)
      case r19bhS15 => ((try dsimp only); exact HK.out _ (by (repeat' (first | (with_reducible first | exact Below.refl _ _ | assumption | refine Below.alloc ?_ ?_ _ | refine below_drewN ?_ _ | refine below_drew ?_ | refine below_ext ?_ ?_ _ _ | refine Below.setCell ?_ ?_ _) | (simp; done) | (simp; omega) | omega))))
      clear hHeld hK K
      have hHeld := hHeldN
      clear hHeldN
      refine wpAnyH_take (i := 15) (oi := ({ dst := some 59, op := Op.pick (Operand.tmp 51) (Operand.tmp 58) (Operand.const (Value.bool false)), type := 4, pos := "types.go:57", after := #[{ on := 7, ground := Ground.data }, { on := 14, ground := Ground.data }], guard := none } : Oper)) (v := ?r19bv16) rfl (by kernel_rfl) (by kernel_rfl) (by kernel_rfl) (fun _ _ _ h => h) (Or.inl ⟨by rfl, ?r19bhy16⟩) (by assumption) ?r19bre16
      case r19bhy16 => (intro w hSw; (try dsimp only at hSw); go_simp; try with_reducible rfl)
      (try simp only [Act.put, List.setIfInBounds_toArray, List.set_cons_zero, List.set_cons_succ])
      refine wpAnyH_take (i := 16) (oi := ({ dst := some 4, op := Op.assign (Operand.tmp 59), type := 4, pos := "types.go:57", after := #[{ on := 15, ground := Ground.data }, { on := 14, ground := Ground.chain }, { on := 0, ground := Ground.phase }, { on := 1, ground := Ground.phase }, { on := 2, ground := Ground.phase }, { on := 3, ground := Ground.phase }, { on := 4, ground := Ground.phase }, { on := 5, ground := Ground.phase }, { on := 6, ground := Ground.phase }, { on := 7, ground := Ground.phase }, { on := 8, ground := Ground.phase }, { on := 9, ground := Ground.phase }, { on := 10, ground := Ground.phase }, { on := 11, ground := Ground.phase }, { on := 12, ground := Ground.phase }, { on := 13, ground := Ground.phase }, { on := 14, ground := Ground.phase }, { on := 15, ground := Ground.phase }], guard := none } : Oper)) (v := ?r19bv17) rfl (by kernel_rfl) (by kernel_rfl) (by kernel_rfl) (fun _ _ _ h => h) (Or.inl ⟨by rfl, ?r19bhy17⟩) (by assumption) ?r19bre17
      case r19bhy17 => (intro w hSw; (try dsimp only at hSw); go_simp; try with_reducible rfl)
      (try simp only [Act.put, List.setIfInBounds_toArray, List.set_cons_zero, List.set_cons_succ])
      refine wpAnyH_done (by kernel_rfl) ?_ _
      clear hHeld
      go_wp2
      go_ret
      exact ⟨by simp, by (repeat' (first | (with_reducible first | exact Below.refl _ _ | assumption | refine Below.alloc ?_ ?_ _ | refine below_drewN ?_ _ | refine below_drew ?_ | refine below_ext ?_ ?_ _ _ | refine Below.setCell ?_ ?_ _) | (simp; done) | (simp; omega) | omega))⟩
  by_cases h6 : op = 24
  · obtain ⟨a, rfl⟩ := ty1 (hte.1 h6)
    have hr : simB op [a] = decide (a = (0, 0)) := by unfold simB; rw [if_neg h1, if_neg h2, if_neg h3, if_neg h4, if_neg h5, if_pos h6]; rfl
    rw [hr]
    have hmg : Tryz.prog.eqGuardType Tryz.prog.depth 26 = false := by kernel_rfl
    have e1 := fun w => ty_eq a (0, 0) w
    have g0 := hG.a0
    have g1 := hG.a1
    obtain ⟨m, hm⟩ : ∃ m, m = decide (a = (0, 0)) := ⟨_, rfl⟩
    rw [← hm] at e1 ⊢
    obtain ⟨g, o, c, rfl, hgn, c0, c1⟩ := rl_one hv
    have hgw : g < w.heap.size := Nat.lt_of_lt_of_le hgn hn
    obtain ⟨a1, a2⟩ := a
    subst h6
    simp only at e1 c0 c1
    clear hr hk hte hG hl h1 h2 h3 h4 h5 hv hm
    go_enter Tryz.func60, Tryz.ntmps60
    go_wp2
    go_region
    go_wp2
    go_ret
    exact ⟨rfl, by (repeat' (first | (with_reducible first | exact Below.refl _ _ | assumption | refine Below.alloc ?_ ?_ _ | refine below_drewN ?_ _ | refine below_drew ?_ | refine below_ext ?_ ?_ _ _ | refine Below.setCell ?_ ?_ _) | (simp; done) | (simp; omega) | omega))⟩
  have hr : simB op ts = true := by unfold simB; rw [if_neg h1, if_neg h2, if_neg h3, if_neg h4, if_neg h5, if_neg h6]
  rw [hr]
  have hq : ∀ k : Int, k ∈ [8, 10, 11, 12, 19, 20, 13, 14, 15, 16, 17, 18, 22, 24] → (op == k) = false := fun k hk => by
    rw [beq_eq_false_iff_ne]
    intro e
    subst e
    simp only [List.mem_cons, List.mem_nil_iff, or_false] at hk
    omega
  simp only [List.mem_cons, List.mem_nil_iff, or_false, forall_eq_or_imp, forall_eq] at hq
  obtain ⟨q0, q1, q2, q3, q4, q5, q6, q7, q8, q9, q10, q11, q12, q13⟩ := hq
  clear hr h1 h2 h3 h4 h5 h6 hte hk hv hG hl
  go_enter Tryz.func60, Tryz.ntmps60
  go_wp2
  go_ret
  exact ⟨rfl, by (repeat' (first | (with_reducible first | exact Below.refl _ _ | assumption | refine Below.alloc ?_ ?_ _ | refine below_drewN ?_ _ | refine below_drew ?_ | refine below_ext ?_ ?_ _ _ | refine Below.setCell ?_ ?_ _) | (simp; done) | (simp; omega) | omega))⟩
end Go.Proofs.YtalahkincccffaaGreatDoor
