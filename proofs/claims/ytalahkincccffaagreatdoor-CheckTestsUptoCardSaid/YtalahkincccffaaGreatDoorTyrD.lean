/-
  The document's type of a node that is no test.
-/
import Derived.Test.YtalahkincccffaaGreatDoorTyrC
import Derived.Test.YtalahkincccffaaGreatDoorTypF
namespace Go.Proofs.YtalahkincccffaaGreatDoor
open Go.RowKit Word Txt
attribute [local go_sem] setCell_drewN cell?_ext frozen?_ext shape?_ext setCell_ext lt_1' ne_1' en_1' le_1' lt_2' ne_2' en_2' le_2' lt_3' ne_3' en_3' le_3' lt_4' ne_4' en_4' le_4' lt_5' ne_5' en_5' le_5' lt_6' ne_6' en_6' le_6' lt_7' ne_7' en_7' le_7' lt_8' ne_8' en_8' le_8' lt_9' ne_9' en_9' le_9' lt_10' ne_10' en_10' le_10' lt_11' ne_11' en_11' le_11' lt_12' ne_12' en_12' le_12'

theorem dyM_eq {sy : List SyD} {x : NdD} {ts : List Ty} {q : Ty × Int} (h : tyM sy x ts = q) : dyM sy x ts = if q.2 = 0 then q else ((0, 0), q.2) := by unfold dyM; rw [h]
set_option maxRecDepth 100000 in
set_option maxHeartbeats 16000000 in
theorem rsimple_any (sy : List SyD) (x : NdD) (ts : List Ty) (n : Nat) (w : World) (v vs : Value) (hv : RL 2 tpE n w v ts) (hs : RL 3 syE n w vs sy) (hn : n ≤ w.heap.size) (hl : ts.length ≤ 1000) (hls : sy.length ≤ 1000) (hk : takesN x.op ts.length = true) (h24 : x.op ≠ 23) (hf : ∀ t ∈ ts, FmT t) :
    Calls Tryz.prog 45 #[NdV x, v, vs] w fun en w' => en = .returned (.tuple #[TyV (dyM sy x ts).1, .int .i64 (dyM sy x ts).2]) ∧ Below w.heap.size w w' := by
  have hte := takes_eq hk
  have HO := Lib.hid (fun k w => rof_any k w)
  obtain ⟨op, k, t, neg, c, s, day⟩ := x
  simp only at hk hte h24
  obtain ⟨ha, hha⟩ : ∃ ha : Int, ha = (hi c : Int) := ⟨_, rfl⟩
  obtain ⟨la, hla⟩ : ∃ la : Int, la = (lo c : Int) := ⟨_, rfl⟩
  rw [show NdV ⟨op, k, t, neg, c, s, day⟩ = NodV op k t neg ha la s day from by rw [hha, hla]]
  obtain ⟨sp, sc, rfl, -⟩ := id hs
  by_cases h1 : op = 7
  · subst h1
    have hr : dyM sy ⟨7, k, t, neg, c, s, day⟩ ts = ((findS sy t).getD (0, 0), if (findS sy t).isSome = true then 0 else 8) := by
      have h9 : tyM sy ⟨7, k, t, neg, c, s, day⟩ ts = (match findS sy t with | some t => (t, 0) | none => ((0, 0), 8)) := by unfold tyM; exact if_pos rfl
      rw [dyM_eq h9]
      cases findS sy t <;> rfl
    rw [hr]
    have HC := Lib.hid (show ∀ w', Below w.heap.size w w' → Calls Tryz.prog 67 #[.slice sp sy.length sc, .string t] w' fun en w'' => en = .returned (.tuple #[.agg #[.int .i64 ((findS sy t).getD (0, 0)).1, .int .i64 ((findS sy t).getD (0, 0)).2], .int .i64 (if (findS sy t).isSome = true then 0 else 8)]) ∧ Below w'.heap.size w' w'' from fun w' hb => by
      have h8 := rfind_any sy t n w' _ (hs.keep (hb.mono hn)) (Nat.le_trans hn hb.size) hls
      cases hq : findS sy t with
      | none => rw [hq] at h8; exact h8
      | some q => rw [hq] at h8; exact h8)
    generalize (findS sy t).getD (0, 0) = T at HC ⊢
    generalize (if (findS sy t).isSome = true then (0 : Int) else 8) = E at HC ⊢
    obtain ⟨T1, T2⟩ := T
    simp only at HC
    obtain ⟨p, c2, rfl, -⟩ := hv
    generalize ts.length = len
    generalize sy.length = sl at HC ⊢
    clear hr hk hte hha hla hf hl hs hls
    go_enter Tryz.func45, Tryz.ntmps45
    go_wp2_with (first | (go_at_call 67; ((with_reducible refine (HC.out _ (by (repeat' (first | (with_reducible first | exact Below.refl _ _ | assumption | refine Below.alloc ?_ ?_ _ | refine below_drewN ?_ _ | refine below_drew ?_ | refine below_ext ?_ ?_ _ _ | refine Below.setCell ?_ ?_ _) | (simp; done) | (simp; omega) | omega)))).mono ?_); rintro e w1 ⟨rfl, hb1⟩; obtain ⟨osA, dA, rfl⟩ := ext_of_below hb1; clear hb1)))
    go_returns
    exact ⟨rfl, by (repeat' (first | (with_reducible first | exact Below.refl _ _ | assumption | refine Below.alloc ?_ ?_ _ | refine below_drewN ?_ _ | refine below_drew ?_ | refine below_ext ?_ ?_ _ _ | refine Below.setCell ?_ ?_ _) | (simp; done) | (simp; omega) | omega))⟩
  by_cases h2 : op = 25
  · subst h2
    have hr : dyM sy ⟨25, k, t, neg, c, s, day⟩ ts = calM t ts := by
      have h9 : tyM sy ⟨25, k, t, neg, c, s, day⟩ ts = calM t ts := by unfold tyM; rw [if_neg h1, if_pos rfl]
      rw [dyM_eq h9]
      unfold calM
      cases fnOf t with
      | none => rfl
      | some q =>
        simp only
        split
        · rfl
        · rfl
    rw [hr]
    have HC := Lib.hid (show ∀ w', Below w.heap.size w w' → Calls Tryz.prog 70 #[.string t, v] w' fun en w'' => en = .returned (.tuple #[.agg #[.int .i64 (calM t ts).1.1, .int .i64 (calM t ts).1.2], .int .i64 (calM t ts).2]) ∧ Below w'.heap.size w' w'' from fun w' hb => rcall_any t ts n w' v (hv.keep (hb.mono hn)) (Nat.le_trans hn hb.size) hl hf)
    generalize calM t ts = q at HC ⊢
    obtain ⟨⟨q1, q2⟩, q3⟩ := q
    simp only at HC
    obtain ⟨p, c2, rfl, -⟩ := hv
    generalize ts.length = len at HC ⊢
    generalize sy.length = sl
    clear hr hk hte hha hla hf hl hs hls h1
    go_enter Tryz.func45, Tryz.ntmps45
    go_wp2_with (first | (go_at_call 70; ((with_reducible refine (HC.out _ (by (repeat' (first | (with_reducible first | exact Below.refl _ _ | assumption | refine Below.alloc ?_ ?_ _ | refine below_drewN ?_ _ | refine below_drew ?_ | refine below_ext ?_ ?_ _ _ | refine Below.setCell ?_ ?_ _) | (simp; done) | (simp; omega) | omega)))).mono ?_); rintro e w1 ⟨rfl, hb1⟩; obtain ⟨osA, dA, rfl⟩ := ext_of_below hb1; clear hb1)))
    go_returns
    exact ⟨rfl, by (repeat' (first | (with_reducible first | exact Below.refl _ _ | assumption | refine Below.alloc ?_ ?_ _ | refine below_drewN ?_ _ | refine below_drew ?_ | refine below_ext ?_ ?_ _ _ | refine Below.setCell ?_ ?_ _) | (simp; done) | (simp; omega) | omega))⟩
  by_cases h3 : op = 9
  · subst h3
    obtain ⟨a, b2, rfl⟩ := ty2 (hte.2.1 (by omega))
    have hr : dyM sy ⟨9, k, t, neg, c, s, day⟩ [a, b2] = sumM a b2 := by
      have h9 : tyM sy ⟨9, k, t, neg, c, s, day⟩ [a, b2] = sumM a b2 := by unfold tyM; rw [if_neg h1, if_neg h2, if_pos rfl]; rfl
      rw [dyM_eq h9]
      unfold sumM
      cases numA [a, b2] (2, 0) <;> cases numA [a, b2] (3, 0) <;> rfl
    rw [hr]
    have H2 := Lib.hid (fun w' (hb : Below w.heap.size w w') => rall_any [a, b2] 2 (by omega) n w' v (hv.keep (hb.mono hn)) (Nat.le_trans hn hb.size) hl hf)
    have H3 := Lib.hid (fun w' (hb : Below w.heap.size w w') => rall_any [a, b2] 3 (by omega) n w' v (hv.keep (hb.mono hn)) (Nat.le_trans hn hb.size) hl hf)
    have hsm : sumM a b2 = if numA [a, b2] (2, 0) = true then (if numA [a, b2] (3, 0) = true then ((0, 0), 0) else ((2, 0), 0)) else if numA [a, b2] (3, 0) = true then ((3, 0), 0) else ((0, 0), 9) := rfl
    rw [hsm]
    generalize numA [a, b2] (2, 0) = m1 at H2 ⊢
    generalize numA [a, b2] (3, 0) = m2 at H3 ⊢
    have HMt := Lib.hid (show ∀ w, Calls Tryz.prog 44 #[.bool true, .int .i64 2] w fun e w' => e = .returned (.tuple #[.agg #[.int .i64 2, .int .i64 0], .int .i64 0]) ∧ Below w.heap.size w w' from fun w => rmust_any true 2 w)
    have HMf := Lib.hid (show ∀ w, Calls Tryz.prog 44 #[.bool false, .int .i64 2] w fun e w' => e = .returned (.tuple #[.agg #[.int .i64 0, .int .i64 0], .int .i64 9]) ∧ Below w.heap.size w w' from fun w => rmust_any false 2 w)
    obtain ⟨p, c2, hv2, -⟩ := hv
    obtain rfl : v = .slice p 2 c2 := hv2
    generalize sy.length = sl
    clear hr hk hte hha hla hf hl hs hls h1 h2 hsm
    cases m1 <;> cases m2
    all_goals
      go_enter Tryz.func45, Tryz.ntmps45
      go_wp2_with (first
        | (go_at_call 68; ((with_reducible refine (H2.out _ (by (repeat' (first | (with_reducible first | exact Below.refl _ _ | assumption | refine Below.alloc ?_ ?_ _ | refine below_drewN ?_ _ | refine below_drew ?_ | refine below_ext ?_ ?_ _ _ | refine Below.setCell ?_ ?_ _) | (simp; done) | (simp; omega) | omega)))).mono ?_); rintro e w1 ⟨rfl, hb1⟩; obtain ⟨osA, dA, rfl⟩ := ext_of_below hb1; clear hb1))
        | (go_at_call 68; ((with_reducible refine (H3.out _ (by (repeat' (first | (with_reducible first | exact Below.refl _ _ | assumption | refine Below.alloc ?_ ?_ _ | refine below_drewN ?_ _ | refine below_drew ?_ | refine below_ext ?_ ?_ _ _ | refine Below.setCell ?_ ?_ _) | (simp; done) | (simp; omega) | omega)))).mono ?_); rintro e w1 ⟨rfl, hb1⟩; obtain ⟨osB, dB, rfl⟩ := ext_of_below hb1; clear hb1))
        | (go_at_call 44; ((with_reducible refine (HMt.out _).mono ?_); rintro e w1 ⟨rfl, hb1⟩; obtain ⟨osC, dC, rfl⟩ := ext_of_below hb1; clear hb1))
        | (go_at_call 44; ((with_reducible refine (HMf.out _).mono ?_); rintro e w1 ⟨rfl, hb1⟩; obtain ⟨osD, dD, rfl⟩ := ext_of_below hb1; clear hb1))
        | (go_at_call 66; ((with_reducible refine (HO.out _ _).mono ?_); rintro e w1 ⟨rfl, hb1⟩; obtain ⟨osE, dE, rfl⟩ := ext_of_below hb1; clear hb1)))
      go_returns
      exact ⟨by simp, by (repeat' (first | (with_reducible first | exact Below.refl _ _ | assumption | refine Below.alloc ?_ ?_ _ | refine below_drewN ?_ _ | refine below_drew ?_ | refine below_ext ?_ ?_ _ _ | refine Below.setCell ?_ ?_ _) | (simp; done) | (simp; omega) | omega))⟩
  by_cases h4 : op = 21
  · subst h4
    obtain ⟨a, b2, d, rfl⟩ := ty3 (hte.2.2 (by omega))
    have fa : tform a.1 a.2 = true := hf a (by simp)
    have fb : tform b2.1 b2.2 = true := hf b2 (by simp)
    have fd : tform d.1 d.2 = true := hf d (by simp)
    have hr : dyM sy ⟨21, k, t, neg, c, s, day⟩ [a, b2, d] = if meetB a (1, 0) = true then ((joinK b2.1 b2.2 d.1 d.2, joinO b2.1 b2.2 d.1 d.2), 0) else ((0, 0), 9) := by
      have h9 : tyM sy ⟨21, k, t, neg, c, s, day⟩ [a, b2, d] = ((joinK b2.1 b2.2 d.1 d.2, joinO b2.1 b2.2 d.1 d.2), if meetB a (1, 0) = true then 0 else 9) := by unfold tyM; rw [if_neg h1, if_neg h2, if_neg h3, if_pos rfl]; rfl
      rw [dyM_eq h9]
      cases meetB a (1, 0) <;> rfl
    rw [hr]
    have HJ := Lib.hid (fun w => rJoin_any b2.1 b2.2 d.1 d.2 fb fd w)
    have HC := Lib.hid (show ∀ w', Calls Tryz.prog 62 #[.agg #[.int .i64 a.1, .int .i64 a.2], .agg #[.int .i64 1, .int .i64 0]] w' fun en w'' => en = .returned (.bool (meetB a (1, 0))) ∧ Below w'.heap.size w' w'' from fun w' => rMeet_any a (1, 0) fa (fmT_k (by decide)) w')
    generalize meetB a (1, 0) = mt at HC ⊢
    generalize joinK b2.1 b2.2 d.1 d.2 = jk at HJ ⊢
    generalize joinO b2.1 b2.2 d.1 d.2 = jo at HJ ⊢
    obtain ⟨g, o, c2, rfl, hgn, c0, c1, c2', c3, c4, c5⟩ := rl_three hv
    have hgw : g < w.heap.size := Nat.lt_of_lt_of_le hgn hn
    have HK := Lib.hid (show ∀ w', Below w.heap.size w w' → w'.cell? ⟨g, o, none⟩ = some (.int .i64 a.1) ∧ w'.cell? ⟨g, o + 1, none⟩ = some (.int .i64 a.2) ∧ w'.cell? ⟨g, o + 2, none⟩ = some (.int .i64 b2.1) ∧ w'.cell? ⟨g, o + 2 + 1, none⟩ = some (.int .i64 b2.2) ∧ w'.cell? ⟨g, o + 4, none⟩ = some (.int .i64 d.1) ∧ w'.cell? ⟨g, o + 4 + 1, none⟩ = some (.int .i64 d.2) from fun w' hb => ⟨(hb.cell (p := ⟨g, _, none⟩) hgw).trans c0, (hb.cell (p := ⟨g, _, none⟩) hgw).trans c1, (hb.cell (p := ⟨g, _, none⟩) hgw).trans c2', (hb.cell (p := ⟨g, _, none⟩) hgw).trans c3, (hb.cell (p := ⟨g, _, none⟩) hgw).trans c4, (hb.cell (p := ⟨g, _, none⟩) hgw).trans c5⟩)
    obtain ⟨a1, a2⟩ := a
    obtain ⟨b1, b3⟩ := b2
    obtain ⟨d1, d2⟩ := d
    generalize sy.length = sl
    clear hr hk hte hha hla hf hl hs hls h1 h2 h3 hv c0 c1 c2' c3 c4 c5 fa fb fd
    cases mt
    all_goals
      go_enter Tryz.func45, Tryz.ntmps45
      go_upto_region 36 with fail
      go_region_held3 (fun w' => w'.cell? ⟨g, o, none⟩ = some (.int .i64 a1) ∧ w'.cell? ⟨g, o + 1, none⟩ = some (.int .i64 a2) ∧ w'.cell? ⟨g, o + 2, none⟩ = some (.int .i64 b1) ∧ w'.cell? ⟨g, o + 2 + 1, none⟩ = some (.int .i64 b3) ∧ w'.cell? ⟨g, o + 4, none⟩ = some (.int .i64 d1) ∧ w'.cell? ⟨g, o + 4 + 1, none⟩ = some (.int .i64 d2)) (exact HK.out _ (by (repeat' (first | (with_reducible first | exact Below.refl _ _ | assumption | refine Below.alloc ?_ ?_ _ | refine below_drewN ?_ _ | refine below_drew ?_ | refine below_ext ?_ ?_ _ _ | refine Below.setCell ?_ ?_ _) | (simp; done) | (simp; omega) | omega)))) (first
        | (go_at_call 66; ((with_reducible refine (HO.out _ _).mono ?_); rintro e w1 ⟨rfl, hb1⟩; obtain ⟨osA, dA, rfl⟩ := ext_of_below hb1; clear hb1))
        | (go_at_call 62; ((with_reducible refine (HC.out _).mono ?_); rintro e w1 ⟨rfl, hb1⟩; obtain ⟨osB, dB, rfl⟩ := ext_of_below hb1; clear hb1)))
    · all_goals
        go_wp2
        go_returns
        exact ⟨by simp, by (repeat' (first | (with_reducible first | exact Below.refl _ _ | assumption | refine Below.alloc ?_ ?_ _ | refine below_drewN ?_ _ | refine below_drew ?_ | refine below_ext ?_ ?_ _ _ | refine Below.setCell ?_ ?_ _) | (simp; done) | (simp; omega) | omega))⟩
    · all_goals
        go_upto_region 38 with fail
        go_region_held3 (fun w' => w'.cell? ⟨g, o, none⟩ = some (.int .i64 a1) ∧ w'.cell? ⟨g, o + 1, none⟩ = some (.int .i64 a2) ∧ w'.cell? ⟨g, o + 2, none⟩ = some (.int .i64 b1) ∧ w'.cell? ⟨g, o + 2 + 1, none⟩ = some (.int .i64 b3) ∧ w'.cell? ⟨g, o + 4, none⟩ = some (.int .i64 d1) ∧ w'.cell? ⟨g, o + 4 + 1, none⟩ = some (.int .i64 d2)) (exact HK.out _ (by (repeat' (first | (with_reducible first | exact Below.refl _ _ | assumption | refine Below.alloc ?_ ?_ _ | refine below_drewN ?_ _ | refine below_drew ?_ | refine below_ext ?_ ?_ _ _ | refine Below.setCell ?_ ?_ _) | (simp; done) | (simp; omega) | omega)))) (first
          | (go_at_call 69; ((with_reducible refine (HJ.out _).mono ?_); rintro e w1 ⟨rfl, hb1⟩; obtain ⟨osC, dC, rfl⟩ := ext_of_below hb1; clear hb1)))
        all_goals
          go_wp2
          go_returns
          exact ⟨by simp, by (repeat' (first | (with_reducible first | exact Below.refl _ _ | assumption | refine Below.alloc ?_ ?_ _ | refine below_drewN ?_ _ | refine below_drew ?_ | refine below_ext ?_ ?_ _ _ | refine Below.setCell ?_ ?_ _) | (simp; done) | (simp; omega) | omega))⟩
  by_cases h5 : op = 26
  · subst h5
    have hr : dyM sy ⟨26, k, t, neg, c, s, day⟩ ts = (lstM ts, 0) := by
      have h9 : tyM sy ⟨26, k, t, neg, c, s, day⟩ ts = (lstM ts, 0) := by unfold tyM; rw [if_neg h1, if_neg h2, if_neg h3, if_neg h4, if_pos rfl]
      rw [dyM_eq h9]
      rfl
    rw [hr]
    have HC := Lib.hid (show ∀ w', Below w.heap.size w w' → Calls Tryz.prog 71 #[v] w' fun en w'' => en = .returned (.agg #[.int .i64 (lstM ts).1, .int .i64 (lstM ts).2]) ∧ Below w'.heap.size w' w'' from fun w' hb => ritems_any ts n w' v (hv.keep (hb.mono hn)) (Nat.le_trans hn hb.size) hl)
    generalize lstM ts = q at HC ⊢
    obtain ⟨q1, q2⟩ := q
    simp only at HC
    obtain ⟨p, c2, rfl, -⟩ := hv
    generalize ts.length = len at HC ⊢
    generalize sy.length = sl
    clear hr hk hte hha hla hf hl hs hls h1 h2 h3 h4
    go_enter Tryz.func45, Tryz.ntmps45
    go_wp2_with (first | (go_at_call 71; ((with_reducible refine (HC.out _ (by (repeat' (first | (with_reducible first | exact Below.refl _ _ | assumption | refine Below.alloc ?_ ?_ _ | refine below_drewN ?_ _ | refine below_drew ?_ | refine below_ext ?_ ?_ _ _ | refine Below.setCell ?_ ?_ _) | (simp; done) | (simp; omega) | omega)))).mono ?_); rintro e w1 ⟨rfl, hb1⟩; obtain ⟨osA, dA, rfl⟩ := ext_of_below hb1; clear hb1)))
    go_returns
    exact ⟨rfl, by (repeat' (first | (with_reducible first | exact Below.refl _ _ | assumption | refine Below.alloc ?_ ?_ _ | refine below_drewN ?_ _ | refine below_drew ?_ | refine below_ext ?_ ?_ _ _ | refine Below.setCell ?_ ?_ _) | (simp; done) | (simp; omega) | omega))⟩
  have hdy : dyM sy ⟨op, k, t, neg, c, s, day⟩ ts = if simB op ts = true then (simT op, 0) else ((0, 0), 9) := by
    have h9 : tyM sy ⟨op, k, t, neg, c, s, day⟩ ts = (simT op, if simB op ts = true then 0 else 9) := by unfold tyM; rw [if_neg h1, if_neg h2, if_neg h3, if_neg h4, if_neg h5]
    rw [dyM_eq h9]
    cases simB op ts <;> rfl
  by_cases h6 : op = 8 ∨ op = 10 ∨ op = 11 ∨ op = 12
  · have hr : dyM sy ⟨op, k, t, neg, c, s, day⟩ ts = mustM (numA ts (2, 0)) 2 := by
      have g1 : simB op ts = numA ts (2, 0) := by unfold simB; rw [if_pos h6]
      have g2 : simT op = (2, 0) := by unfold simT; rw [if_pos (by omega)]
      rw [hdy, g1, g2]
      cases numA ts (2, 0) <;> rfl
    rw [hr]
    have HA := Lib.hid (fun w' (hb : Below w.heap.size w w') => rall_any ts 2 (by omega) n w' v (hv.keep (hb.mono hn)) (Nat.le_trans hn hb.size) hl hf)
    generalize numA ts (2, 0) = m at HA ⊢
    have HM := Lib.hid (show ∀ w, Calls Tryz.prog 44 #[.bool m, .int .i64 2] w fun e w' => e = .returned (.tuple #[.agg #[.int .i64 (mustM m 2).1.1, .int .i64 (mustM m 2).1.2], .int .i64 (mustM m 2).2]) ∧ Below w.heap.size w w' from fun w => rmust_any m 2 w)
    generalize mustM m 2 = q at HM ⊢
    obtain ⟨⟨q1, q2⟩, q3⟩ := q
    simp only at HM
    obtain ⟨p, c2, rfl, -⟩ := hv
    generalize ts.length = len at HA ⊢
    generalize sy.length = sl
    clear hr hk hte hha hla hf hl hs hls h1 h2 h3 h4 h5 hdy
    rcases h6 with rfl | rfl | rfl | rfl
    all_goals
      go_enter Tryz.func45, Tryz.ntmps45
      go_wp2_with (first
        | (go_at_call 68; ((with_reducible refine (HA.out _ (by (repeat' (first | (with_reducible first | exact Below.refl _ _ | assumption | refine Below.alloc ?_ ?_ _ | refine below_drewN ?_ _ | refine below_drew ?_ | refine below_ext ?_ ?_ _ _ | refine Below.setCell ?_ ?_ _) | (simp; done) | (simp; omega) | omega)))).mono ?_); rintro e w1 ⟨rfl, hb1⟩; obtain ⟨osA, dA, rfl⟩ := ext_of_below hb1; clear hb1))
        | (go_at_call 44; ((with_reducible refine (HM.out _).mono ?_); rintro e w1 ⟨rfl, hb1⟩; obtain ⟨osB, dB, rfl⟩ := ext_of_below hb1; clear hb1)))
      go_returns
      exact ⟨rfl, by (repeat' (first | (with_reducible first | exact Below.refl _ _ | assumption | refine Below.alloc ?_ ?_ _ | refine below_drewN ?_ _ | refine below_drew ?_ | refine below_ext ?_ ?_ _ _ | refine Below.setCell ?_ ?_ _) | (simp; done) | (simp; omega) | omega))⟩
  by_cases h7 : op = 19 ∨ op = 20
  · have hr : dyM sy ⟨op, k, t, neg, c, s, day⟩ ts = mustM (numA ts (1, 0)) 1 := by
      have g1 : simB op ts = numA ts (1, 0) := by unfold simB; rw [if_neg h6, if_pos h7]
      have g2 : simT op = (1, 0) := by unfold simT; rw [if_neg (by omega), if_neg (by omega), if_neg (by omega), if_pos (by omega)]
      rw [hdy, g1, g2]
      cases numA ts (1, 0) <;> rfl
    rw [hr]
    have HA := Lib.hid (fun w' (hb : Below w.heap.size w w') => rall_any ts 1 (by omega) n w' v (hv.keep (hb.mono hn)) (Nat.le_trans hn hb.size) hl hf)
    generalize numA ts (1, 0) = m at HA ⊢
    have HM := Lib.hid (show ∀ w, Calls Tryz.prog 44 #[.bool m, .int .i64 1] w fun e w' => e = .returned (.tuple #[.agg #[.int .i64 (mustM m 1).1.1, .int .i64 (mustM m 1).1.2], .int .i64 (mustM m 1).2]) ∧ Below w.heap.size w w' from fun w => rmust_any m 1 w)
    generalize mustM m 1 = q at HM ⊢
    obtain ⟨⟨q1, q2⟩, q3⟩ := q
    simp only at HM
    obtain ⟨p, c2, rfl, -⟩ := hv
    generalize ts.length = len at HA ⊢
    generalize sy.length = sl
    clear hr hk hte hha hla hf hl hs hls h1 h2 h3 h4 h5 hdy h6
    rcases h7 with rfl | rfl
    all_goals
      go_enter Tryz.func45, Tryz.ntmps45
      go_wp2_with (first
        | (go_at_call 68; ((with_reducible refine (HA.out _ (by (repeat' (first | (with_reducible first | exact Below.refl _ _ | assumption | refine Below.alloc ?_ ?_ _ | refine below_drewN ?_ _ | refine below_drew ?_ | refine below_ext ?_ ?_ _ _ | refine Below.setCell ?_ ?_ _) | (simp; done) | (simp; omega) | omega)))).mono ?_); rintro e w1 ⟨rfl, hb1⟩; obtain ⟨osA, dA, rfl⟩ := ext_of_below hb1; clear hb1))
        | (go_at_call 44; ((with_reducible refine (HM.out _).mono ?_); rintro e w1 ⟨rfl, hb1⟩; obtain ⟨osB, dB, rfl⟩ := ext_of_below hb1; clear hb1)))
      go_returns
      exact ⟨rfl, by (repeat' (first | (with_reducible first | exact Below.refl _ _ | assumption | refine Below.alloc ?_ ?_ _ | refine below_drewN ?_ _ | refine below_drew ?_ | refine below_ext ?_ ?_ _ _ | refine Below.setCell ?_ ?_ _) | (simp; done) | (simp; omega) | omega))⟩
  by_cases h8 : op = 13 ∨ op = 14
  · obtain ⟨a, b, rfl⟩ := ty2 (hte.2.1 (by omega))
    have fa : FmT a := hf a (by simp)
    have fb : FmT b := hf b (by simp)
    have hr : dyM sy ⟨op, k, t, neg, c, s, day⟩ [a, b] = mustM (meetB a b) 1 := by
      have g1 : simB op [a, b] = meetB a b := by unfold simB; rw [if_neg h6, if_neg h7, if_pos h8]; rfl
      have g2 : simT op = (1, 0) := by unfold simT; rw [if_neg (by omega), if_neg (by omega), if_neg (by omega), if_pos (by omega)]
      rw [hdy, g1, g2]
      cases meetB a b <;> rfl
    rw [hr]
    have HC := Lib.hid (show ∀ w', Calls Tryz.prog 62 #[.agg #[.int .i64 a.1, .int .i64 a.2], .agg #[.int .i64 b.1, .int .i64 b.2]] w' fun en w'' => en = .returned (.bool (meetB a b)) ∧ Below w'.heap.size w' w'' from fun w' => rMeet_any a b fa fb w')
    generalize meetB a b = m at HC ⊢
    have HM := Lib.hid (show ∀ w, Calls Tryz.prog 44 #[.bool m, .int .i64 1] w fun e w' => e = .returned (.tuple #[.agg #[.int .i64 (mustM m 1).1.1, .int .i64 (mustM m 1).1.2], .int .i64 (mustM m 1).2]) ∧ Below w.heap.size w w' from fun w => rmust_any m 1 w)
    generalize mustM m 1 = q at HM ⊢
    obtain ⟨⟨q1, q2⟩, q3⟩ := q
    simp only at HM
    obtain ⟨g, o, c2, rfl, hgn, c0, c1, c2', c3⟩ := rl_two hv
    have hgw : g < w.heap.size := Nat.lt_of_lt_of_le hgn hn
    have HK := Lib.hid (show ∀ w', Below w.heap.size w w' → w'.cell? ⟨g, o, none⟩ = some (.int .i64 a.1) ∧ w'.cell? ⟨g, o + 1, none⟩ = some (.int .i64 a.2) ∧ w'.cell? ⟨g, o + 2, none⟩ = some (.int .i64 b.1) ∧ w'.cell? ⟨g, o + 2 + 1, none⟩ = some (.int .i64 b.2) from fun w' hb => ⟨(hb.cell (p := ⟨g, _, none⟩) hgw).trans c0, (hb.cell (p := ⟨g, _, none⟩) hgw).trans c1, (hb.cell (p := ⟨g, _, none⟩) hgw).trans c2', (hb.cell (p := ⟨g, _, none⟩) hgw).trans c3⟩)
    obtain ⟨a1, a2⟩ := a
    obtain ⟨b1, b2⟩ := b
    generalize sy.length = sl
    have hops : op = 13 ∨ op = 14 := by omega
    clear hr hk hte hha hla hf hl hs hls h1 h2 h3 h4 h5 hdy h6 h7 h8 hv c0 c1 c2' c3 fa fb
    rcases hops with rfl | rfl
    all_goals
      go_enter Tryz.func45, Tryz.ntmps45
      go_upto_region 26 with fail
      go_region_held3 (fun w' => w'.cell? ⟨g, o, none⟩ = some (.int .i64 a1) ∧ w'.cell? ⟨g, o + 1, none⟩ = some (.int .i64 a2) ∧ w'.cell? ⟨g, o + 2, none⟩ = some (.int .i64 b1) ∧ w'.cell? ⟨g, o + 2 + 1, none⟩ = some (.int .i64 b2)) (exact HK.out _ (by (repeat' (first | (with_reducible first | exact Below.refl _ _ | assumption | refine Below.alloc ?_ ?_ _ | refine below_drewN ?_ _ | refine below_drew ?_ | refine below_ext ?_ ?_ _ _ | refine Below.setCell ?_ ?_ _) | (simp; done) | (simp; omega) | omega)))) (first
        | (go_at_call 62; ((with_reducible refine (HC.out _).mono ?_); rintro e w1 ⟨rfl, hb1⟩; obtain ⟨osA, dA, rfl⟩ := ext_of_below hb1; clear hb1))
        | (go_at_call 44; ((with_reducible refine (HM.out _).mono ?_); rintro e w1 ⟨rfl, hb1⟩; obtain ⟨osB, dB, rfl⟩ := ext_of_below hb1; clear hb1)))
      all_goals
        go_wp2
        go_returns
        exact ⟨rfl, by (repeat' (first | (with_reducible first | exact Below.refl _ _ | assumption | refine Below.alloc ?_ ?_ _ | refine below_drewN ?_ _ | refine below_drew ?_ | refine below_ext ?_ ?_ _ _ | refine Below.setCell ?_ ?_ _) | (simp; done) | (simp; omega) | omega))⟩
  by_cases h9 : 15 ≤ op ∧ op ≤ 18
  · obtain ⟨a, b, rfl⟩ := ty2 (hte.2.1 (by omega))
    have fa : FmT a := hf a (by simp)
    have fb : FmT b := hf b (by simp)
    have hr : dyM sy ⟨op, k, t, neg, c, s, day⟩ [a, b] = mustM (ordB a b) 1 := by
      have g1 : simB op [a, b] = ordB a b := by unfold simB; rw [if_neg h6, if_neg h7, if_neg h8, if_pos h9]; rfl
      have g2 : simT op = (1, 0) := by unfold simT; rw [if_neg (by omega), if_neg (by omega), if_neg (by omega), if_pos (by omega)]
      rw [hdy, g1, g2]
      cases ordB a b <;> rfl
    rw [hr]
    have HC := Lib.hid (show ∀ w', Calls Tryz.prog 63 #[.agg #[.int .i64 a.1, .int .i64 a.2], .agg #[.int .i64 b.1, .int .i64 b.2]] w' fun en w'' => en = .returned (.bool (ordB a b)) ∧ Below w'.heap.size w' w'' from fun w' => rordered_any a b fa fb w')
    generalize ordB a b = m at HC ⊢
    have HM := Lib.hid (show ∀ w, Calls Tryz.prog 44 #[.bool m, .int .i64 1] w fun e w' => e = .returned (.tuple #[.agg #[.int .i64 (mustM m 1).1.1, .int .i64 (mustM m 1).1.2], .int .i64 (mustM m 1).2]) ∧ Below w.heap.size w w' from fun w => rmust_any m 1 w)
    generalize mustM m 1 = q at HM ⊢
    obtain ⟨⟨q1, q2⟩, q3⟩ := q
    simp only at HM
    obtain ⟨g, o, c2, rfl, hgn, c0, c1, c2', c3⟩ := rl_two hv
    have hgw : g < w.heap.size := Nat.lt_of_lt_of_le hgn hn
    have HK := Lib.hid (show ∀ w', Below w.heap.size w w' → w'.cell? ⟨g, o, none⟩ = some (.int .i64 a.1) ∧ w'.cell? ⟨g, o + 1, none⟩ = some (.int .i64 a.2) ∧ w'.cell? ⟨g, o + 2, none⟩ = some (.int .i64 b.1) ∧ w'.cell? ⟨g, o + 2 + 1, none⟩ = some (.int .i64 b.2) from fun w' hb => ⟨(hb.cell (p := ⟨g, _, none⟩) hgw).trans c0, (hb.cell (p := ⟨g, _, none⟩) hgw).trans c1, (hb.cell (p := ⟨g, _, none⟩) hgw).trans c2', (hb.cell (p := ⟨g, _, none⟩) hgw).trans c3⟩)
    obtain ⟨a1, a2⟩ := a
    obtain ⟨b1, b2⟩ := b
    generalize sy.length = sl
    have hops : op = 15 ∨ op = 16 ∨ op = 17 ∨ op = 18 := by omega
    clear hr hk hte hha hla hf hl hs hls h1 h2 h3 h4 h5 hdy h6 h7 h8 h9 hv c0 c1 c2' c3 fa fb
    rcases hops with rfl | rfl | rfl | rfl
    all_goals
      go_enter Tryz.func45, Tryz.ntmps45
      go_upto_region 31 with fail
      go_region_held3 (fun w' => w'.cell? ⟨g, o, none⟩ = some (.int .i64 a1) ∧ w'.cell? ⟨g, o + 1, none⟩ = some (.int .i64 a2) ∧ w'.cell? ⟨g, o + 2, none⟩ = some (.int .i64 b1) ∧ w'.cell? ⟨g, o + 2 + 1, none⟩ = some (.int .i64 b2)) (exact HK.out _ (by (repeat' (first | (with_reducible first | exact Below.refl _ _ | assumption | refine Below.alloc ?_ ?_ _ | refine below_drewN ?_ _ | refine below_drew ?_ | refine below_ext ?_ ?_ _ _ | refine Below.setCell ?_ ?_ _) | (simp; done) | (simp; omega) | omega)))) (first
        | (go_at_call 63; ((with_reducible refine (HC.out _).mono ?_); rintro e w1 ⟨rfl, hb1⟩; obtain ⟨osA, dA, rfl⟩ := ext_of_below hb1; clear hb1))
        | (go_at_call 44; ((with_reducible refine (HM.out _).mono ?_); rintro e w1 ⟨rfl, hb1⟩; obtain ⟨osB, dB, rfl⟩ := ext_of_below hb1; clear hb1)))
      all_goals
        go_wp2
        go_returns
        exact ⟨rfl, by (repeat' (first | (with_reducible first | exact Below.refl _ _ | assumption | refine Below.alloc ?_ ?_ _ | refine below_drewN ?_ _ | refine below_drew ?_ | refine below_ext ?_ ?_ _ _ | refine Below.setCell ?_ ?_ _) | (simp; done) | (simp; omega) | omega))⟩
  by_cases h10 : op = 22
  · obtain ⟨a, b, d, rfl⟩ := ty3 (hte.2.2 (by omega))
    have fa : FmT a := hf a (by simp)
    have fb : FmT b := hf b (by simp)
    have fd : FmT d := hf d (by simp)
    have hr : dyM sy ⟨op, k, t, neg, c, s, day⟩ [a, b, d] = mustM (ordB a b && ordB a d) 1 := by
      have g1 : simB op [a, b, d] = (ordB a b && ordB a d) := by unfold simB; rw [if_neg h6, if_neg h7, if_neg h8, if_neg h9, if_pos h10]; rfl
      have g2 : simT op = (1, 0) := by unfold simT; rw [if_neg (by omega), if_neg (by omega), if_neg (by omega), if_pos (by omega)]
      rw [hdy, g1, g2]
      cases (ordB a b && ordB a d) <;> rfl
    rw [hr]
    have HC1 := Lib.hid (show ∀ w', Calls Tryz.prog 63 #[.agg #[.int .i64 a.1, .int .i64 a.2], .agg #[.int .i64 b.1, .int .i64 b.2]] w' fun en w'' => en = .returned (.bool (ordB a b)) ∧ Below w'.heap.size w' w'' from fun w' => rordered_any a b fa fb w')
    have HC2 := Lib.hid (show ∀ w', Calls Tryz.prog 63 #[.agg #[.int .i64 a.1, .int .i64 a.2], .agg #[.int .i64 d.1, .int .i64 d.2]] w' fun en w'' => en = .returned (.bool (ordB a d)) ∧ Below w'.heap.size w' w'' from fun w' => rordered_any a d fa fd w')
    generalize ordB a b = m1 at HC1 ⊢
    generalize ordB a d = m2 at HC2 ⊢
    have HMt := Lib.hid (show ∀ w, Calls Tryz.prog 44 #[.bool true, .int .i64 1] w fun e w' => e = .returned (.tuple #[.agg #[.int .i64 1, .int .i64 0], .int .i64 0]) ∧ Below w.heap.size w w' from fun w => rmust_any true 1 w)
    have HMf := Lib.hid (show ∀ w, Calls Tryz.prog 44 #[.bool false, .int .i64 1] w fun e w' => e = .returned (.tuple #[.agg #[.int .i64 0, .int .i64 0], .int .i64 9]) ∧ Below w.heap.size w w' from fun w => rmust_any false 1 w)
    obtain ⟨g, o, c2, rfl, hgn, c0, c1, c2', c3, c4, c5⟩ := rl_three hv
    have hgw : g < w.heap.size := Nat.lt_of_lt_of_le hgn hn
    have HK := Lib.hid (show ∀ w', Below w.heap.size w w' → w'.cell? ⟨g, o, none⟩ = some (.int .i64 a.1) ∧ w'.cell? ⟨g, o + 1, none⟩ = some (.int .i64 a.2) ∧ w'.cell? ⟨g, o + 2, none⟩ = some (.int .i64 b.1) ∧ w'.cell? ⟨g, o + 2 + 1, none⟩ = some (.int .i64 b.2) ∧ w'.cell? ⟨g, o + 4, none⟩ = some (.int .i64 d.1) ∧ w'.cell? ⟨g, o + 4 + 1, none⟩ = some (.int .i64 d.2) from fun w' hb => ⟨(hb.cell (p := ⟨g, _, none⟩) hgw).trans c0, (hb.cell (p := ⟨g, _, none⟩) hgw).trans c1, (hb.cell (p := ⟨g, _, none⟩) hgw).trans c2', (hb.cell (p := ⟨g, _, none⟩) hgw).trans c3, (hb.cell (p := ⟨g, _, none⟩) hgw).trans c4, (hb.cell (p := ⟨g, _, none⟩) hgw).trans c5⟩)
    obtain ⟨a1, a2⟩ := a
    obtain ⟨b1, b2⟩ := b
    obtain ⟨d1, d2⟩ := d
    generalize sy.length = sl
    subst h10
    clear hr hk hte hha hla hf hl hs hls h1 h2 h3 h4 h5 hdy h6 h7 h8 h9 hv c0 c1 c2' c3 c4 c5 fa fb fd
    cases m1 with
    | false =>
      go_enter Tryz.func45, Tryz.ntmps45
      go_upto_region 40 with fail
      refine wp_region_held_drew (S := fun w' => w'.cell? ⟨g, o, none⟩ = some (.int .i64 a1) ∧ w'.cell? ⟨g, o + 1, none⟩ = some (.int .i64 a2) ∧ w'.cell? ⟨g, o + 2, none⟩ = some (.int .i64 b1) ∧ w'.cell? ⟨g, o + 2 + 1, none⟩ = some (.int .i64 b2) ∧ w'.cell? ⟨g, o + 4, none⟩ = some (.int .i64 d1) ∧ w'.cell? ⟨g, o + 4 + 1, none⟩ = some (.int .i64 d2)) (by kernel_rfl) ?r40ahSa (fun hHeld => ?r40aresta)
      case r40ahSa => ((try dsimp only); exact HK.out _ (by (repeat' (first | (with_reducible first | exact Below.refl _ _ | assumption | refine Below.alloc ?_ ?_ _ | refine below_drewN ?_ _ | refine below_drew ?_ | refine below_ext ?_ ?_ _ _ | refine Below.setCell ?_ ?_ _) | (simp; done) | (simp; omega) | omega))))
      refine wpAnyH_take (i := 0) (oi := ({ dst := some 112, op := Op.move (Operand.tmp 1), type := 63, pos := "ref.go:195", after := #[], guard := none } : Oper)) (v := ?r40av1) rfl (by kernel_rfl) (by kernel_rfl) (by kernel_rfl) (fun _ _ _ h => h) (Or.inl ⟨by rfl, ?r40ahy1⟩) (by assumption) ?r40are1
      case r40ahy1 => (intro w hSw; (try dsimp only at hSw); go_simp; try with_reducible rfl)
      (try simp only [Act.put, List.setIfInBounds_toArray, List.set_cons_zero, List.set_cons_succ])
      refine wpAnyH_take (i := 1) (oi := ({ dst := some 113, op := Op.indexAddr 63 (Operand.tmp 112) (Operand.const (Value.int IntKind.i64 0)), type := 0, pos := "ref.go:195", after := #[{ on := 0, ground := Ground.data }], guard := none } : Oper)) (v := ?r40av2) rfl (by kernel_rfl) (by kernel_rfl) (by kernel_rfl) (fun _ _ _ h => h) (Or.inl ⟨by rfl, ?r40ahy2⟩) (by assumption) ?r40are2
      case r40ahy2 => (intro w hSw; (try dsimp only at hSw); go_simp; try with_reducible rfl)
      (try simp only [Act.put, List.setIfInBounds_toArray, List.set_cons_zero, List.set_cons_succ])
      refine wpAnyH_take (i := 2) (oi := ({ dst := some 114, op := Op.load 26 (Operand.tmp 113), type := 26, pos := "ref.go:195", after := #[{ on := 1, ground := Ground.data }], guard := none } : Oper)) (v := ?r40av3) rfl (by kernel_rfl) (by kernel_rfl) (by kernel_rfl) (fun _ _ _ h => h) (Or.inl ⟨by rfl, ?r40ahy3⟩) (by assumption) ?r40are3
      case r40ahy3 => (intro w hSw; (try dsimp only at hSw); go_simp; try with_reducible rfl)
      (try simp only [Act.put, List.setIfInBounds_toArray, List.set_cons_zero, List.set_cons_succ])
      refine wpAnyH_take (i := 3) (oi := ({ dst := some 115, op := Op.move (Operand.tmp 1), type := 63, pos := "ref.go:195", after := #[], guard := none } : Oper)) (v := ?r40av4) rfl (by kernel_rfl) (by kernel_rfl) (by kernel_rfl) (fun _ _ _ h => h) (Or.inl ⟨by rfl, ?r40ahy4⟩) (by assumption) ?r40are4
      case r40ahy4 => (intro w hSw; (try dsimp only at hSw); go_simp; try with_reducible rfl)
      (try simp only [Act.put, List.setIfInBounds_toArray, List.set_cons_zero, List.set_cons_succ])
      refine wpAnyH_take (i := 4) (oi := ({ dst := some 116, op := Op.indexAddr 63 (Operand.tmp 115) (Operand.const (Value.int IntKind.i64 1)), type := 0, pos := "ref.go:195", after := #[{ on := 3, ground := Ground.data }], guard := none } : Oper)) (v := ?r40av5) rfl (by kernel_rfl) (by kernel_rfl) (by kernel_rfl) (fun _ _ _ h => h) (Or.inl ⟨by rfl, ?r40ahy5⟩) (by assumption) ?r40are5
      case r40ahy5 => (intro w hSw; (try dsimp only at hSw); go_simp; try with_reducible rfl)
      (try simp only [Act.put, List.setIfInBounds_toArray, List.set_cons_zero, List.set_cons_succ])
      refine wpAnyH_take (i := 5) (oi := ({ dst := some 117, op := Op.load 26 (Operand.tmp 116), type := 26, pos := "ref.go:195", after := #[{ on := 4, ground := Ground.data }], guard := none } : Oper)) (v := ?r40av6) rfl (by kernel_rfl) (by kernel_rfl) (by kernel_rfl) (fun _ _ _ h => h) (Or.inl ⟨by rfl, ?r40ahy6⟩) (by assumption) ?r40are6
      case r40ahy6 => (intro w hSw; (try dsimp only at hSw); go_simp; try with_reducible rfl)
      (try simp only [Act.put, List.setIfInBounds_toArray, List.set_cons_zero, List.set_cons_succ])
      refine wpAnyH_ready (rs := [6]) (by kernel_rfl) (by simp) ?_
      refine AllReadyH.cons (o := ({ dst := some 118, op := Op.call { callee := Callee.value (Operand.func 63), args := #[Operand.tmp 114, Operand.tmp 117], argTypes := #[26, 26] }, type := 4, pos := "ref.go:195", after := #[{ on := 2, ground := Ground.data }, { on := 5, ground := Ground.data }], guard := none } : Oper)) rfl (fun K hK => ?_) AllReadyH.nil
      go_simp
      (go_at_call 63; (with_reducible refine (HC1.out _).mono ?_); rintro e9 w1 ⟨rfl, hb1⟩; obtain ⟨osA, dA, rfl⟩ := ext_of_below hb1; clear hb1)
      refine hK.out _ _ ?r40ahS7 (fun hHeldN => ?r40arst7)
      case r40ahS7 => ((try dsimp only); exact HK.out _ (by (repeat' (first | (with_reducible first | exact Below.refl _ _ | assumption | refine Below.alloc ?_ ?_ _ | refine below_drewN ?_ _ | refine below_drew ?_ | refine below_ext ?_ ?_ _ _ | refine Below.setCell ?_ ?_ _) | (simp; done) | (simp; omega) | omega))))
      clear hHeld hK K
      have hHeld := hHeldN
      clear hHeldN
      refine wpAnyH_take (i := 7) (oi := ({ dst := some 119, op := Op.move (Operand.tmp 118), type := 4, pos := "ref.go:195", after := #[{ on := 6, ground := Ground.data }, { on := 6, ground := Ground.chain }], guard := none } : Oper)) (v := ?r40av8) rfl (by kernel_rfl) (by kernel_rfl) (by kernel_rfl) (fun _ _ _ h => h) (Or.inl ⟨by rfl, ?r40ahy8⟩) (by assumption) ?r40are8
      case r40ahy8 => (intro w hSw; (try dsimp only at hSw); go_simp; try with_reducible rfl)
      (try simp only [Act.put, List.setIfInBounds_toArray, List.set_cons_zero, List.set_cons_succ])
      refine wpAnyH_take (i := 8) (oi := ({ dst := some 120, op := Op.move (Operand.tmp 1), type := 63, pos := "ref.go:195", after := #[{ on := 7, ground := Ground.guard }], guard := some (7, true) } : Oper)) (v := undef) rfl (by kernel_rfl) (by kernel_rfl) (by kernel_rfl) (fun _ _ _ h => h) (Or.inr ⟨by rfl, rfl⟩) (by assumption) ?r40are9
      (try simp only [Act.put, List.setIfInBounds_toArray, List.set_cons_zero, List.set_cons_succ])
      refine wpAnyH_take (i := 9) (oi := ({ dst := some 121, op := Op.indexAddr 63 (Operand.tmp 120) (Operand.const (Value.int IntKind.i64 0)), type := 0, pos := "ref.go:195", after := #[{ on := 8, ground := Ground.data }, { on := 7, ground := Ground.guard }], guard := some (7, true) } : Oper)) (v := undef) rfl (by kernel_rfl) (by kernel_rfl) (by kernel_rfl) (fun _ _ _ h => h) (Or.inr ⟨by rfl, rfl⟩) (by assumption) ?r40are10
      (try simp only [Act.put, List.setIfInBounds_toArray, List.set_cons_zero, List.set_cons_succ])
      refine wpAnyH_take (i := 10) (oi := ({ dst := some 122, op := Op.load 26 (Operand.tmp 121), type := 26, pos := "ref.go:195", after := #[{ on := 9, ground := Ground.data }, { on := 7, ground := Ground.guard }], guard := some (7, true) } : Oper)) (v := undef) rfl (by kernel_rfl) (by kernel_rfl) (by kernel_rfl) (fun _ _ _ h => h) (Or.inr ⟨by rfl, rfl⟩) (by assumption) ?r40are11
      (try simp only [Act.put, List.setIfInBounds_toArray, List.set_cons_zero, List.set_cons_succ])
      refine wpAnyH_take (i := 11) (oi := ({ dst := some 123, op := Op.move (Operand.tmp 1), type := 63, pos := "ref.go:195", after := #[{ on := 7, ground := Ground.guard }], guard := some (7, true) } : Oper)) (v := undef) rfl (by kernel_rfl) (by kernel_rfl) (by kernel_rfl) (fun _ _ _ h => h) (Or.inr ⟨by rfl, rfl⟩) (by assumption) ?r40are12
      (try simp only [Act.put, List.setIfInBounds_toArray, List.set_cons_zero, List.set_cons_succ])
      refine wpAnyH_take (i := 12) (oi := ({ dst := some 124, op := Op.indexAddr 63 (Operand.tmp 123) (Operand.const (Value.int IntKind.i64 2)), type := 0, pos := "ref.go:195", after := #[{ on := 11, ground := Ground.data }, { on := 7, ground := Ground.guard }], guard := some (7, true) } : Oper)) (v := undef) rfl (by kernel_rfl) (by kernel_rfl) (by kernel_rfl) (fun _ _ _ h => h) (Or.inr ⟨by rfl, rfl⟩) (by assumption) ?r40are13
      (try simp only [Act.put, List.setIfInBounds_toArray, List.set_cons_zero, List.set_cons_succ])
      refine wpAnyH_take (i := 13) (oi := ({ dst := some 125, op := Op.load 26 (Operand.tmp 124), type := 26, pos := "ref.go:195", after := #[{ on := 12, ground := Ground.data }, { on := 7, ground := Ground.guard }], guard := some (7, true) } : Oper)) (v := undef) rfl (by kernel_rfl) (by kernel_rfl) (by kernel_rfl) (fun _ _ _ h => h) (Or.inr ⟨by rfl, rfl⟩) (by assumption) ?r40are14
      (try simp only [Act.put, List.setIfInBounds_toArray, List.set_cons_zero, List.set_cons_succ])
      refine wpAnyH_take (i := 14) (oi := ({ dst := some 126, op := Op.call { callee := Callee.value (Operand.func 63), args := #[Operand.tmp 122, Operand.tmp 125], argTypes := #[26, 26] }, type := 4, pos := "ref.go:195", after := #[{ on := 10, ground := Ground.data }, { on := 13, ground := Ground.data }, { on := 7, ground := Ground.chain }, { on := 7, ground := Ground.guard }], guard := some (7, true) } : Oper)) (v := undef) rfl (by kernel_rfl) (by kernel_rfl) (by kernel_rfl) (fun _ _ _ h => h) (Or.inr ⟨by rfl, rfl⟩) (by assumption) ?r40are15
      (try simp only [Act.put, List.setIfInBounds_toArray, List.set_cons_zero, List.set_cons_succ])
      refine wpAnyH_take (i := 15) (oi := ({ dst := some 127, op := Op.pick (Operand.tmp 119) (Operand.tmp 126) (Operand.const (Value.bool false)), type := 4, pos := "ref.go:195", after := #[{ on := 7, ground := Ground.data }, { on := 14, ground := Ground.data }], guard := none } : Oper)) (v := ?r40av16) rfl (by kernel_rfl) (by kernel_rfl) (by kernel_rfl) (fun _ _ _ h => h) (Or.inl ⟨by rfl, ?r40ahy16⟩) (by assumption) ?r40are16
      case r40ahy16 => (intro w hSw; (try dsimp only at hSw); go_simp; try with_reducible rfl)
      (try simp only [Act.put, List.setIfInBounds_toArray, List.set_cons_zero, List.set_cons_succ])
      refine wpAnyH_ready (rs := [16]) (by kernel_rfl) (by simp) ?_
      refine AllReadyH.cons (o := ({ dst := some 128, op := Op.call { callee := Callee.value (Operand.func 44), args := #[Operand.tmp 127, Operand.const (Value.int IntKind.i64 1)], argTypes := #[4, 3] }, type := 28, pos := "ref.go:195", after := #[{ on := 15, ground := Ground.data }, { on := 14, ground := Ground.chain }], guard := none } : Oper)) rfl (fun K hK => ?_) AllReadyH.nil
      go_simp
      (go_at_call 44; (with_reducible refine (HMf.out _).mono ?_); rintro e9 w1 ⟨rfl, hb1⟩; obtain ⟨osC, dC, rfl⟩ := ext_of_below hb1; clear hb1)
      refine hK.out _ _ ?r40ahS17 (fun hHeldN => ?r40arst17)
      case r40ahS17 => ((try dsimp only); exact HK.out _ (by (repeat' (first | (with_reducible first | exact Below.refl _ _ | assumption | refine Below.alloc ?_ ?_ _ | refine below_drewN ?_ _ | refine below_drew ?_ | refine below_ext ?_ ?_ _ _ | refine Below.setCell ?_ ?_ _) | (simp; done) | (simp; omega) | omega))))
      clear hHeld hK K
      have hHeld := hHeldN
      clear hHeldN
      refine wpAnyH_take (i := 17) (oi := ({ dst := some 129, op := Op.extract (Operand.tmp 128) 0, type := 26, pos := "ref.go:195", after := #[{ on := 16, ground := Ground.data }], guard := none } : Oper)) (v := ?r40av18) rfl (by kernel_rfl) (by kernel_rfl) (by kernel_rfl) (fun _ _ _ h => h) (Or.inl ⟨by rfl, ?r40ahy18⟩) (by assumption) ?r40are18
      case r40ahy18 => (intro w hSw; (try dsimp only at hSw); go_simp; try with_reducible rfl)
      (try simp only [Act.put, List.setIfInBounds_toArray, List.set_cons_zero, List.set_cons_succ])
      refine wpAnyH_take (i := 18) (oi := ({ dst := some 130, op := Op.extract (Operand.tmp 128) 1, type := 27, pos := "ref.go:195", after := #[{ on := 16, ground := Ground.data }], guard := none } : Oper)) (v := ?r40av19) rfl (by kernel_rfl) (by kernel_rfl) (by kernel_rfl) (fun _ _ _ h => h) (Or.inl ⟨by rfl, ?r40ahy19⟩) (by assumption) ?r40are19
      case r40ahy19 => (intro w hSw; (try dsimp only at hSw); go_simp; try with_reducible rfl)
      (try simp only [Act.put, List.setIfInBounds_toArray, List.set_cons_zero, List.set_cons_succ])
      refine wpAnyH_ready (rs := [19]) (by kernel_rfl) (by simp) ?_
      refine AllReadyH.cons (o := ({ dst := none, op := Op.store 26 (Operand.tmp 6) (Operand.tmp 129), type := 0, pos := "ref.go:195", after := #[{ on := 17, ground := Ground.data }, { on := 16, ground := Ground.chain }, { on := 0, ground := Ground.phase }, { on := 1, ground := Ground.phase }, { on := 2, ground := Ground.phase }, { on := 3, ground := Ground.phase }, { on := 4, ground := Ground.phase }, { on := 5, ground := Ground.phase }, { on := 6, ground := Ground.phase }, { on := 7, ground := Ground.phase }, { on := 8, ground := Ground.phase }, { on := 9, ground := Ground.phase }, { on := 10, ground := Ground.phase }, { on := 11, ground := Ground.phase }, { on := 12, ground := Ground.phase }, { on := 13, ground := Ground.phase }, { on := 14, ground := Ground.phase }, { on := 15, ground := Ground.phase }, { on := 16, ground := Ground.phase }, { on := 17, ground := Ground.phase }, { on := 18, ground := Ground.phase }], guard := none } : Oper)) rfl (fun K hK => ?_) AllReadyH.nil
      go_simp
      refine hK.out _ _ ?r40ahS20 (fun hHeldN => ?r40arst20)
      case r40ahS20 => ((try dsimp only); exact HK.out _ (by (repeat' (first | (with_reducible first | exact Below.refl _ _ | assumption | refine Below.alloc ?_ ?_ _ | refine below_drewN ?_ _ | refine below_drew ?_ | refine below_ext ?_ ?_ _ _ | refine Below.setCell ?_ ?_ _) | (simp; done) | (simp; omega) | omega))))
      clear hHeld hK K
      have hHeld := hHeldN
      clear hHeldN
      refine wpAnyH_ready (rs := [20]) (by kernel_rfl) (by simp) ?_
      refine AllReadyH.cons (o := ({ dst := some 7, op := Op.assign (Operand.tmp 130), type := 27, pos := "ref.go:195", after := #[{ on := 18, ground := Ground.data }, { on := 19, ground := Ground.chain }, { on := 0, ground := Ground.phase }, { on := 1, ground := Ground.phase }, { on := 2, ground := Ground.phase }, { on := 3, ground := Ground.phase }, { on := 4, ground := Ground.phase }, { on := 5, ground := Ground.phase }, { on := 6, ground := Ground.phase }, { on := 7, ground := Ground.phase }, { on := 8, ground := Ground.phase }, { on := 9, ground := Ground.phase }, { on := 10, ground := Ground.phase }, { on := 11, ground := Ground.phase }, { on := 12, ground := Ground.phase }, { on := 13, ground := Ground.phase }, { on := 14, ground := Ground.phase }, { on := 15, ground := Ground.phase }, { on := 16, ground := Ground.phase }, { on := 17, ground := Ground.phase }, { on := 18, ground := Ground.phase }, { on := 19, ground := Ground.phase }], guard := none } : Oper)) rfl (fun K hK => ?_) AllReadyH.nil
      go_simp
      refine hK.out _ _ ?r40ahS21 (fun hHeldN => ?r40arst21)
      case r40ahS21 => ((try dsimp only); exact HK.out _ (by (repeat' (first | (with_reducible first | exact Below.refl _ _ | assumption | refine Below.alloc ?_ ?_ _ | refine below_drewN ?_ _ | refine below_drew ?_ | refine below_ext ?_ ?_ _ _ | refine Below.setCell ?_ ?_ _) | (simp; done) | (simp; omega) | omega))))
      clear hHeld hK K
      have hHeld := hHeldN
      clear hHeldN
      (try simp only [Act.put, List.setIfInBounds_toArray, List.set_cons_zero, List.set_cons_succ])
      refine wpAnyH_done (by kernel_rfl) ?_ _
      clear hHeld
      go_wp2
      go_returns
      exact ⟨rfl, by (repeat' (first | (with_reducible first | exact Below.refl _ _ | assumption | refine Below.alloc ?_ ?_ _ | refine below_drewN ?_ _ | refine below_drew ?_ | refine below_ext ?_ ?_ _ _ | refine Below.setCell ?_ ?_ _) | (simp; done) | (simp; omega) | omega))⟩
    | true =>
      cases m2 with
      | false =>
        go_enter Tryz.func45, Tryz.ntmps45
        go_upto_region 40 with fail
        refine wp_region_held_drew (S := fun w' => w'.cell? ⟨g, o, none⟩ = some (.int .i64 a1) ∧ w'.cell? ⟨g, o + 1, none⟩ = some (.int .i64 a2) ∧ w'.cell? ⟨g, o + 2, none⟩ = some (.int .i64 b1) ∧ w'.cell? ⟨g, o + 2 + 1, none⟩ = some (.int .i64 b2) ∧ w'.cell? ⟨g, o + 4, none⟩ = some (.int .i64 d1) ∧ w'.cell? ⟨g, o + 4 + 1, none⟩ = some (.int .i64 d2)) (by kernel_rfl) ?r40bhSa (fun hHeld => ?r40bresta)
        case r40bhSa => ((try dsimp only); exact HK.out _ (by (repeat' (first | (with_reducible first | exact Below.refl _ _ | assumption | refine Below.alloc ?_ ?_ _ | refine below_drewN ?_ _ | refine below_drew ?_ | refine below_ext ?_ ?_ _ _ | refine Below.setCell ?_ ?_ _) | (simp; done) | (simp; omega) | omega))))
        refine wpAnyH_take (i := 0) (oi := ({ dst := some 112, op := Op.move (Operand.tmp 1), type := 63, pos := "ref.go:195", after := #[], guard := none } : Oper)) (v := ?r40bv1) rfl (by kernel_rfl) (by kernel_rfl) (by kernel_rfl) (fun _ _ _ h => h) (Or.inl ⟨by rfl, ?r40bhy1⟩) (by assumption) ?r40bre1
        case r40bhy1 => (intro w hSw; (try dsimp only at hSw); go_simp; try with_reducible rfl)
        (try simp only [Act.put, List.setIfInBounds_toArray, List.set_cons_zero, List.set_cons_succ])
        refine wpAnyH_take (i := 1) (oi := ({ dst := some 113, op := Op.indexAddr 63 (Operand.tmp 112) (Operand.const (Value.int IntKind.i64 0)), type := 0, pos := "ref.go:195", after := #[{ on := 0, ground := Ground.data }], guard := none } : Oper)) (v := ?r40bv2) rfl (by kernel_rfl) (by kernel_rfl) (by kernel_rfl) (fun _ _ _ h => h) (Or.inl ⟨by rfl, ?r40bhy2⟩) (by assumption) ?r40bre2
        case r40bhy2 => (intro w hSw; (try dsimp only at hSw); go_simp; try with_reducible rfl)
        (try simp only [Act.put, List.setIfInBounds_toArray, List.set_cons_zero, List.set_cons_succ])
        refine wpAnyH_take (i := 2) (oi := ({ dst := some 114, op := Op.load 26 (Operand.tmp 113), type := 26, pos := "ref.go:195", after := #[{ on := 1, ground := Ground.data }], guard := none } : Oper)) (v := ?r40bv3) rfl (by kernel_rfl) (by kernel_rfl) (by kernel_rfl) (fun _ _ _ h => h) (Or.inl ⟨by rfl, ?r40bhy3⟩) (by assumption) ?r40bre3
        case r40bhy3 => (intro w hSw; (try dsimp only at hSw); go_simp; try with_reducible rfl)
        (try simp only [Act.put, List.setIfInBounds_toArray, List.set_cons_zero, List.set_cons_succ])
        refine wpAnyH_take (i := 3) (oi := ({ dst := some 115, op := Op.move (Operand.tmp 1), type := 63, pos := "ref.go:195", after := #[], guard := none } : Oper)) (v := ?r40bv4) rfl (by kernel_rfl) (by kernel_rfl) (by kernel_rfl) (fun _ _ _ h => h) (Or.inl ⟨by rfl, ?r40bhy4⟩) (by assumption) ?r40bre4
        case r40bhy4 => (intro w hSw; (try dsimp only at hSw); go_simp; try with_reducible rfl)
        (try simp only [Act.put, List.setIfInBounds_toArray, List.set_cons_zero, List.set_cons_succ])
        refine wpAnyH_take (i := 4) (oi := ({ dst := some 116, op := Op.indexAddr 63 (Operand.tmp 115) (Operand.const (Value.int IntKind.i64 1)), type := 0, pos := "ref.go:195", after := #[{ on := 3, ground := Ground.data }], guard := none } : Oper)) (v := ?r40bv5) rfl (by kernel_rfl) (by kernel_rfl) (by kernel_rfl) (fun _ _ _ h => h) (Or.inl ⟨by rfl, ?r40bhy5⟩) (by assumption) ?r40bre5
        case r40bhy5 => (intro w hSw; (try dsimp only at hSw); go_simp; try with_reducible rfl)
        (try simp only [Act.put, List.setIfInBounds_toArray, List.set_cons_zero, List.set_cons_succ])
        refine wpAnyH_take (i := 5) (oi := ({ dst := some 117, op := Op.load 26 (Operand.tmp 116), type := 26, pos := "ref.go:195", after := #[{ on := 4, ground := Ground.data }], guard := none } : Oper)) (v := ?r40bv6) rfl (by kernel_rfl) (by kernel_rfl) (by kernel_rfl) (fun _ _ _ h => h) (Or.inl ⟨by rfl, ?r40bhy6⟩) (by assumption) ?r40bre6
        case r40bhy6 => (intro w hSw; (try dsimp only at hSw); go_simp; try with_reducible rfl)
        (try simp only [Act.put, List.setIfInBounds_toArray, List.set_cons_zero, List.set_cons_succ])
        refine wpAnyH_ready (rs := [6]) (by kernel_rfl) (by simp) ?_
        refine AllReadyH.cons (o := ({ dst := some 118, op := Op.call { callee := Callee.value (Operand.func 63), args := #[Operand.tmp 114, Operand.tmp 117], argTypes := #[26, 26] }, type := 4, pos := "ref.go:195", after := #[{ on := 2, ground := Ground.data }, { on := 5, ground := Ground.data }], guard := none } : Oper)) rfl (fun K hK => ?_) AllReadyH.nil
        go_simp
        (go_at_call 63; (with_reducible refine (HC1.out _).mono ?_); rintro e9 w1 ⟨rfl, hb1⟩; obtain ⟨osA, dA, rfl⟩ := ext_of_below hb1; clear hb1)
        refine hK.out _ _ ?r40bhS7 (fun hHeldN => ?r40brst7)
        case r40bhS7 => ((try dsimp only); exact HK.out _ (by (repeat' (first | (with_reducible first | exact Below.refl _ _ | assumption | refine Below.alloc ?_ ?_ _ | refine below_drewN ?_ _ | refine below_drew ?_ | refine below_ext ?_ ?_ _ _ | refine Below.setCell ?_ ?_ _) | (simp; done) | (simp; omega) | omega))))
        clear hHeld hK K
        have hHeld := hHeldN
        clear hHeldN
        refine wpAnyH_take (i := 7) (oi := ({ dst := some 119, op := Op.move (Operand.tmp 118), type := 4, pos := "ref.go:195", after := #[{ on := 6, ground := Ground.data }, { on := 6, ground := Ground.chain }], guard := none } : Oper)) (v := ?r40bv8) rfl (by kernel_rfl) (by kernel_rfl) (by kernel_rfl) (fun _ _ _ h => h) (Or.inl ⟨by rfl, ?r40bhy8⟩) (by assumption) ?r40bre8
        case r40bhy8 => (intro w hSw; (try dsimp only at hSw); go_simp; try with_reducible rfl)
        (try simp only [Act.put, List.setIfInBounds_toArray, List.set_cons_zero, List.set_cons_succ])
        refine wpAnyH_take (i := 8) (oi := ({ dst := some 120, op := Op.move (Operand.tmp 1), type := 63, pos := "ref.go:195", after := #[{ on := 7, ground := Ground.guard }], guard := some (7, true) } : Oper)) (v := ?r40bv9) rfl (by kernel_rfl) (by kernel_rfl) (by kernel_rfl) (fun _ _ _ h => h) (Or.inl ⟨by rfl, ?r40bhy9⟩) (by assumption) ?r40bre9
        case r40bhy9 => (intro w hSw; (try dsimp only at hSw); go_simp; try with_reducible rfl)
        (try simp only [Act.put, List.setIfInBounds_toArray, List.set_cons_zero, List.set_cons_succ])
        refine wpAnyH_take (i := 9) (oi := ({ dst := some 121, op := Op.indexAddr 63 (Operand.tmp 120) (Operand.const (Value.int IntKind.i64 0)), type := 0, pos := "ref.go:195", after := #[{ on := 8, ground := Ground.data }, { on := 7, ground := Ground.guard }], guard := some (7, true) } : Oper)) (v := ?r40bv10) rfl (by kernel_rfl) (by kernel_rfl) (by kernel_rfl) (fun _ _ _ h => h) (Or.inl ⟨by rfl, ?r40bhy10⟩) (by assumption) ?r40bre10
        case r40bhy10 => (intro w hSw; (try dsimp only at hSw); go_simp; try with_reducible rfl)
        (try simp only [Act.put, List.setIfInBounds_toArray, List.set_cons_zero, List.set_cons_succ])
        refine wpAnyH_take (i := 10) (oi := ({ dst := some 122, op := Op.load 26 (Operand.tmp 121), type := 26, pos := "ref.go:195", after := #[{ on := 9, ground := Ground.data }, { on := 7, ground := Ground.guard }], guard := some (7, true) } : Oper)) (v := ?r40bv11) rfl (by kernel_rfl) (by kernel_rfl) (by kernel_rfl) (fun _ _ _ h => h) (Or.inl ⟨by rfl, ?r40bhy11⟩) (by assumption) ?r40bre11
        case r40bhy11 => (intro w hSw; (try dsimp only at hSw); go_simp; try with_reducible rfl)
        (try simp only [Act.put, List.setIfInBounds_toArray, List.set_cons_zero, List.set_cons_succ])
        refine wpAnyH_take (i := 11) (oi := ({ dst := some 123, op := Op.move (Operand.tmp 1), type := 63, pos := "ref.go:195", after := #[{ on := 7, ground := Ground.guard }], guard := some (7, true) } : Oper)) (v := ?r40bv12) rfl (by kernel_rfl) (by kernel_rfl) (by kernel_rfl) (fun _ _ _ h => h) (Or.inl ⟨by rfl, ?r40bhy12⟩) (by assumption) ?r40bre12
        case r40bhy12 => (intro w hSw; (try dsimp only at hSw); go_simp; try with_reducible rfl)
        (try simp only [Act.put, List.setIfInBounds_toArray, List.set_cons_zero, List.set_cons_succ])
        refine wpAnyH_take (i := 12) (oi := ({ dst := some 124, op := Op.indexAddr 63 (Operand.tmp 123) (Operand.const (Value.int IntKind.i64 2)), type := 0, pos := "ref.go:195", after := #[{ on := 11, ground := Ground.data }, { on := 7, ground := Ground.guard }], guard := some (7, true) } : Oper)) (v := ?r40bv13) rfl (by kernel_rfl) (by kernel_rfl) (by kernel_rfl) (fun _ _ _ h => h) (Or.inl ⟨by rfl, ?r40bhy13⟩) (by assumption) ?r40bre13
        case r40bhy13 => (intro w hSw; (try dsimp only at hSw); go_simp; try with_reducible rfl)
        (try simp only [Act.put, List.setIfInBounds_toArray, List.set_cons_zero, List.set_cons_succ])
        refine wpAnyH_take (i := 13) (oi := ({ dst := some 125, op := Op.load 26 (Operand.tmp 124), type := 26, pos := "ref.go:195", after := #[{ on := 12, ground := Ground.data }, { on := 7, ground := Ground.guard }], guard := some (7, true) } : Oper)) (v := ?r40bv14) rfl (by kernel_rfl) (by kernel_rfl) (by kernel_rfl) (fun _ _ _ h => h) (Or.inl ⟨by rfl, ?r40bhy14⟩) (by assumption) ?r40bre14
        case r40bhy14 => (intro w hSw; (try dsimp only at hSw); go_simp; try with_reducible rfl)
        (try simp only [Act.put, List.setIfInBounds_toArray, List.set_cons_zero, List.set_cons_succ])
        refine wpAnyH_ready (rs := [14]) (by kernel_rfl) (by simp) ?_
        refine AllReadyH.cons (o := ({ dst := some 126, op := Op.call { callee := Callee.value (Operand.func 63), args := #[Operand.tmp 122, Operand.tmp 125], argTypes := #[26, 26] }, type := 4, pos := "ref.go:195", after := #[{ on := 10, ground := Ground.data }, { on := 13, ground := Ground.data }, { on := 7, ground := Ground.chain }, { on := 7, ground := Ground.guard }], guard := some (7, true) } : Oper)) rfl (fun K hK => ?_) AllReadyH.nil
        go_simp
        (go_at_call 63; (with_reducible refine (HC2.out _).mono ?_); rintro e9 w1 ⟨rfl, hb1⟩; obtain ⟨osB, dB, rfl⟩ := ext_of_below hb1; clear hb1)
        refine hK.out _ _ ?r40bhS15 (fun hHeldN => ?r40brst15)
        case r40bhS15 => ((try dsimp only); exact HK.out _ (by (repeat' (first | (with_reducible first | exact Below.refl _ _ | assumption | refine Below.alloc ?_ ?_ _ | refine below_drewN ?_ _ | refine below_drew ?_ | refine below_ext ?_ ?_ _ _ | refine Below.setCell ?_ ?_ _) | (simp; done) | (simp; omega) | omega))))
        clear hHeld hK K
        have hHeld := hHeldN
        clear hHeldN
        refine wpAnyH_take (i := 15) (oi := ({ dst := some 127, op := Op.pick (Operand.tmp 119) (Operand.tmp 126) (Operand.const (Value.bool false)), type := 4, pos := "ref.go:195", after := #[{ on := 7, ground := Ground.data }, { on := 14, ground := Ground.data }], guard := none } : Oper)) (v := ?r40bv16) rfl (by kernel_rfl) (by kernel_rfl) (by kernel_rfl) (fun _ _ _ h => h) (Or.inl ⟨by rfl, ?r40bhy16⟩) (by assumption) ?r40bre16
        case r40bhy16 => (intro w hSw; (try dsimp only at hSw); go_simp; try with_reducible rfl)
        (try simp only [Act.put, List.setIfInBounds_toArray, List.set_cons_zero, List.set_cons_succ])
        refine wpAnyH_ready (rs := [16]) (by kernel_rfl) (by simp) ?_
        refine AllReadyH.cons (o := ({ dst := some 128, op := Op.call { callee := Callee.value (Operand.func 44), args := #[Operand.tmp 127, Operand.const (Value.int IntKind.i64 1)], argTypes := #[4, 3] }, type := 28, pos := "ref.go:195", after := #[{ on := 15, ground := Ground.data }, { on := 14, ground := Ground.chain }], guard := none } : Oper)) rfl (fun K hK => ?_) AllReadyH.nil
        go_simp
        (go_at_call 44; (with_reducible refine (HMf.out _).mono ?_); rintro e9 w1 ⟨rfl, hb1⟩; obtain ⟨osC, dC, rfl⟩ := ext_of_below hb1; clear hb1)
        refine hK.out _ _ ?r40bhS17 (fun hHeldN => ?r40brst17)
        case r40bhS17 => ((try dsimp only); exact HK.out _ (by (repeat' (first | (with_reducible first | exact Below.refl _ _ | assumption | refine Below.alloc ?_ ?_ _ | refine below_drewN ?_ _ | refine below_drew ?_ | refine below_ext ?_ ?_ _ _ | refine Below.setCell ?_ ?_ _) | (simp; done) | (simp; omega) | omega))))
        clear hHeld hK K
        have hHeld := hHeldN
        clear hHeldN
        refine wpAnyH_take (i := 17) (oi := ({ dst := some 129, op := Op.extract (Operand.tmp 128) 0, type := 26, pos := "ref.go:195", after := #[{ on := 16, ground := Ground.data }], guard := none } : Oper)) (v := ?r40bv18) rfl (by kernel_rfl) (by kernel_rfl) (by kernel_rfl) (fun _ _ _ h => h) (Or.inl ⟨by rfl, ?r40bhy18⟩) (by assumption) ?r40bre18
        case r40bhy18 => (intro w hSw; (try dsimp only at hSw); go_simp; try with_reducible rfl)
        (try simp only [Act.put, List.setIfInBounds_toArray, List.set_cons_zero, List.set_cons_succ])
        refine wpAnyH_take (i := 18) (oi := ({ dst := some 130, op := Op.extract (Operand.tmp 128) 1, type := 27, pos := "ref.go:195", after := #[{ on := 16, ground := Ground.data }], guard := none } : Oper)) (v := ?r40bv19) rfl (by kernel_rfl) (by kernel_rfl) (by kernel_rfl) (fun _ _ _ h => h) (Or.inl ⟨by rfl, ?r40bhy19⟩) (by assumption) ?r40bre19
        case r40bhy19 => (intro w hSw; (try dsimp only at hSw); go_simp; try with_reducible rfl)
        (try simp only [Act.put, List.setIfInBounds_toArray, List.set_cons_zero, List.set_cons_succ])
        refine wpAnyH_ready (rs := [19]) (by kernel_rfl) (by simp) ?_
        refine AllReadyH.cons (o := ({ dst := none, op := Op.store 26 (Operand.tmp 6) (Operand.tmp 129), type := 0, pos := "ref.go:195", after := #[{ on := 17, ground := Ground.data }, { on := 16, ground := Ground.chain }, { on := 0, ground := Ground.phase }, { on := 1, ground := Ground.phase }, { on := 2, ground := Ground.phase }, { on := 3, ground := Ground.phase }, { on := 4, ground := Ground.phase }, { on := 5, ground := Ground.phase }, { on := 6, ground := Ground.phase }, { on := 7, ground := Ground.phase }, { on := 8, ground := Ground.phase }, { on := 9, ground := Ground.phase }, { on := 10, ground := Ground.phase }, { on := 11, ground := Ground.phase }, { on := 12, ground := Ground.phase }, { on := 13, ground := Ground.phase }, { on := 14, ground := Ground.phase }, { on := 15, ground := Ground.phase }, { on := 16, ground := Ground.phase }, { on := 17, ground := Ground.phase }, { on := 18, ground := Ground.phase }], guard := none } : Oper)) rfl (fun K hK => ?_) AllReadyH.nil
        go_simp
        refine hK.out _ _ ?r40bhS20 (fun hHeldN => ?r40brst20)
        case r40bhS20 => ((try dsimp only); exact HK.out _ (by (repeat' (first | (with_reducible first | exact Below.refl _ _ | assumption | refine Below.alloc ?_ ?_ _ | refine below_drewN ?_ _ | refine below_drew ?_ | refine below_ext ?_ ?_ _ _ | refine Below.setCell ?_ ?_ _) | (simp; done) | (simp; omega) | omega))))
        clear hHeld hK K
        have hHeld := hHeldN
        clear hHeldN
        refine wpAnyH_ready (rs := [20]) (by kernel_rfl) (by simp) ?_
        refine AllReadyH.cons (o := ({ dst := some 7, op := Op.assign (Operand.tmp 130), type := 27, pos := "ref.go:195", after := #[{ on := 18, ground := Ground.data }, { on := 19, ground := Ground.chain }, { on := 0, ground := Ground.phase }, { on := 1, ground := Ground.phase }, { on := 2, ground := Ground.phase }, { on := 3, ground := Ground.phase }, { on := 4, ground := Ground.phase }, { on := 5, ground := Ground.phase }, { on := 6, ground := Ground.phase }, { on := 7, ground := Ground.phase }, { on := 8, ground := Ground.phase }, { on := 9, ground := Ground.phase }, { on := 10, ground := Ground.phase }, { on := 11, ground := Ground.phase }, { on := 12, ground := Ground.phase }, { on := 13, ground := Ground.phase }, { on := 14, ground := Ground.phase }, { on := 15, ground := Ground.phase }, { on := 16, ground := Ground.phase }, { on := 17, ground := Ground.phase }, { on := 18, ground := Ground.phase }, { on := 19, ground := Ground.phase }], guard := none } : Oper)) rfl (fun K hK => ?_) AllReadyH.nil
        go_simp
        refine hK.out _ _ ?r40bhS21 (fun hHeldN => ?r40brst21)
        case r40bhS21 => ((try dsimp only); exact HK.out _ (by (repeat' (first | (with_reducible first | exact Below.refl _ _ | assumption | refine Below.alloc ?_ ?_ _ | refine below_drewN ?_ _ | refine below_drew ?_ | refine below_ext ?_ ?_ _ _ | refine Below.setCell ?_ ?_ _) | (simp; done) | (simp; omega) | omega))))
        clear hHeld hK K
        have hHeld := hHeldN
        clear hHeldN
        (try simp only [Act.put, List.setIfInBounds_toArray, List.set_cons_zero, List.set_cons_succ])
        refine wpAnyH_done (by kernel_rfl) ?_ _
        clear hHeld
        go_wp2
        go_returns
        exact ⟨rfl, by (repeat' (first | (with_reducible first | exact Below.refl _ _ | assumption | refine Below.alloc ?_ ?_ _ | refine below_drewN ?_ _ | refine below_drew ?_ | refine below_ext ?_ ?_ _ _ | refine Below.setCell ?_ ?_ _) | (simp; done) | (simp; omega) | omega))⟩
      | true =>
        go_enter Tryz.func45, Tryz.ntmps45
        go_upto_region 40 with fail
        refine wp_region_held_drew (S := fun w' => w'.cell? ⟨g, o, none⟩ = some (.int .i64 a1) ∧ w'.cell? ⟨g, o + 1, none⟩ = some (.int .i64 a2) ∧ w'.cell? ⟨g, o + 2, none⟩ = some (.int .i64 b1) ∧ w'.cell? ⟨g, o + 2 + 1, none⟩ = some (.int .i64 b2) ∧ w'.cell? ⟨g, o + 4, none⟩ = some (.int .i64 d1) ∧ w'.cell? ⟨g, o + 4 + 1, none⟩ = some (.int .i64 d2)) (by kernel_rfl) ?r40chSa (fun hHeld => ?r40cresta)
        case r40chSa => ((try dsimp only); exact HK.out _ (by (repeat' (first | (with_reducible first | exact Below.refl _ _ | assumption | refine Below.alloc ?_ ?_ _ | refine below_drewN ?_ _ | refine below_drew ?_ | refine below_ext ?_ ?_ _ _ | refine Below.setCell ?_ ?_ _) | (simp; done) | (simp; omega) | omega))))
        refine wpAnyH_take (i := 0) (oi := ({ dst := some 112, op := Op.move (Operand.tmp 1), type := 63, pos := "ref.go:195", after := #[], guard := none } : Oper)) (v := ?r40cv1) rfl (by kernel_rfl) (by kernel_rfl) (by kernel_rfl) (fun _ _ _ h => h) (Or.inl ⟨by rfl, ?r40chy1⟩) (by assumption) ?r40cre1
        case r40chy1 => (intro w hSw; (try dsimp only at hSw); go_simp; try with_reducible rfl)
        (try simp only [Act.put, List.setIfInBounds_toArray, List.set_cons_zero, List.set_cons_succ])
        refine wpAnyH_take (i := 1) (oi := ({ dst := some 113, op := Op.indexAddr 63 (Operand.tmp 112) (Operand.const (Value.int IntKind.i64 0)), type := 0, pos := "ref.go:195", after := #[{ on := 0, ground := Ground.data }], guard := none } : Oper)) (v := ?r40cv2) rfl (by kernel_rfl) (by kernel_rfl) (by kernel_rfl) (fun _ _ _ h => h) (Or.inl ⟨by rfl, ?r40chy2⟩) (by assumption) ?r40cre2
        case r40chy2 => (intro w hSw; (try dsimp only at hSw); go_simp; try with_reducible rfl)
        (try simp only [Act.put, List.setIfInBounds_toArray, List.set_cons_zero, List.set_cons_succ])
        refine wpAnyH_take (i := 2) (oi := ({ dst := some 114, op := Op.load 26 (Operand.tmp 113), type := 26, pos := "ref.go:195", after := #[{ on := 1, ground := Ground.data }], guard := none } : Oper)) (v := ?r40cv3) rfl (by kernel_rfl) (by kernel_rfl) (by kernel_rfl) (fun _ _ _ h => h) (Or.inl ⟨by rfl, ?r40chy3⟩) (by assumption) ?r40cre3
        case r40chy3 => (intro w hSw; (try dsimp only at hSw); go_simp; try with_reducible rfl)
        (try simp only [Act.put, List.setIfInBounds_toArray, List.set_cons_zero, List.set_cons_succ])
        refine wpAnyH_take (i := 3) (oi := ({ dst := some 115, op := Op.move (Operand.tmp 1), type := 63, pos := "ref.go:195", after := #[], guard := none } : Oper)) (v := ?r40cv4) rfl (by kernel_rfl) (by kernel_rfl) (by kernel_rfl) (fun _ _ _ h => h) (Or.inl ⟨by rfl, ?r40chy4⟩) (by assumption) ?r40cre4
        case r40chy4 => (intro w hSw; (try dsimp only at hSw); go_simp; try with_reducible rfl)
        (try simp only [Act.put, List.setIfInBounds_toArray, List.set_cons_zero, List.set_cons_succ])
        refine wpAnyH_take (i := 4) (oi := ({ dst := some 116, op := Op.indexAddr 63 (Operand.tmp 115) (Operand.const (Value.int IntKind.i64 1)), type := 0, pos := "ref.go:195", after := #[{ on := 3, ground := Ground.data }], guard := none } : Oper)) (v := ?r40cv5) rfl (by kernel_rfl) (by kernel_rfl) (by kernel_rfl) (fun _ _ _ h => h) (Or.inl ⟨by rfl, ?r40chy5⟩) (by assumption) ?r40cre5
        case r40chy5 => (intro w hSw; (try dsimp only at hSw); go_simp; try with_reducible rfl)
        (try simp only [Act.put, List.setIfInBounds_toArray, List.set_cons_zero, List.set_cons_succ])
        refine wpAnyH_take (i := 5) (oi := ({ dst := some 117, op := Op.load 26 (Operand.tmp 116), type := 26, pos := "ref.go:195", after := #[{ on := 4, ground := Ground.data }], guard := none } : Oper)) (v := ?r40cv6) rfl (by kernel_rfl) (by kernel_rfl) (by kernel_rfl) (fun _ _ _ h => h) (Or.inl ⟨by rfl, ?r40chy6⟩) (by assumption) ?r40cre6
        case r40chy6 => (intro w hSw; (try dsimp only at hSw); go_simp; try with_reducible rfl)
        (try simp only [Act.put, List.setIfInBounds_toArray, List.set_cons_zero, List.set_cons_succ])
        refine wpAnyH_ready (rs := [6]) (by kernel_rfl) (by simp) ?_
        refine AllReadyH.cons (o := ({ dst := some 118, op := Op.call { callee := Callee.value (Operand.func 63), args := #[Operand.tmp 114, Operand.tmp 117], argTypes := #[26, 26] }, type := 4, pos := "ref.go:195", after := #[{ on := 2, ground := Ground.data }, { on := 5, ground := Ground.data }], guard := none } : Oper)) rfl (fun K hK => ?_) AllReadyH.nil
        go_simp
        (go_at_call 63; (with_reducible refine (HC1.out _).mono ?_); rintro e9 w1 ⟨rfl, hb1⟩; obtain ⟨osA, dA, rfl⟩ := ext_of_below hb1; clear hb1)
        refine hK.out _ _ ?r40chS7 (fun hHeldN => ?r40crst7)
        case r40chS7 => ((try dsimp only); exact HK.out _ (by (repeat' (first | (with_reducible first | exact Below.refl _ _ | assumption | refine Below.alloc ?_ ?_ _ | refine below_drewN ?_ _ | refine below_drew ?_ | refine below_ext ?_ ?_ _ _ | refine Below.setCell ?_ ?_ _) | (simp; done) | (simp; omega) | omega))))
        clear hHeld hK K
        have hHeld := hHeldN
        clear hHeldN
        refine wpAnyH_take (i := 7) (oi := ({ dst := some 119, op := Op.move (Operand.tmp 118), type := 4, pos := "ref.go:195", after := #[{ on := 6, ground := Ground.data }, { on := 6, ground := Ground.chain }], guard := none } : Oper)) (v := ?r40cv8) rfl (by kernel_rfl) (by kernel_rfl) (by kernel_rfl) (fun _ _ _ h => h) (Or.inl ⟨by rfl, ?r40chy8⟩) (by assumption) ?r40cre8
        case r40chy8 => (intro w hSw; (try dsimp only at hSw); go_simp; try with_reducible rfl)
        (try simp only [Act.put, List.setIfInBounds_toArray, List.set_cons_zero, List.set_cons_succ])
        refine wpAnyH_take (i := 8) (oi := ({ dst := some 120, op := Op.move (Operand.tmp 1), type := 63, pos := "ref.go:195", after := #[{ on := 7, ground := Ground.guard }], guard := some (7, true) } : Oper)) (v := ?r40cv9) rfl (by kernel_rfl) (by kernel_rfl) (by kernel_rfl) (fun _ _ _ h => h) (Or.inl ⟨by rfl, ?r40chy9⟩) (by assumption) ?r40cre9
        case r40chy9 => (intro w hSw; (try dsimp only at hSw); go_simp; try with_reducible rfl)
        (try simp only [Act.put, List.setIfInBounds_toArray, List.set_cons_zero, List.set_cons_succ])
        refine wpAnyH_take (i := 9) (oi := ({ dst := some 121, op := Op.indexAddr 63 (Operand.tmp 120) (Operand.const (Value.int IntKind.i64 0)), type := 0, pos := "ref.go:195", after := #[{ on := 8, ground := Ground.data }, { on := 7, ground := Ground.guard }], guard := some (7, true) } : Oper)) (v := ?r40cv10) rfl (by kernel_rfl) (by kernel_rfl) (by kernel_rfl) (fun _ _ _ h => h) (Or.inl ⟨by rfl, ?r40chy10⟩) (by assumption) ?r40cre10
        case r40chy10 => (intro w hSw; (try dsimp only at hSw); go_simp; try with_reducible rfl)
        (try simp only [Act.put, List.setIfInBounds_toArray, List.set_cons_zero, List.set_cons_succ])
        refine wpAnyH_take (i := 10) (oi := ({ dst := some 122, op := Op.load 26 (Operand.tmp 121), type := 26, pos := "ref.go:195", after := #[{ on := 9, ground := Ground.data }, { on := 7, ground := Ground.guard }], guard := some (7, true) } : Oper)) (v := ?r40cv11) rfl (by kernel_rfl) (by kernel_rfl) (by kernel_rfl) (fun _ _ _ h => h) (Or.inl ⟨by rfl, ?r40chy11⟩) (by assumption) ?r40cre11
        case r40chy11 => (intro w hSw; (try dsimp only at hSw); go_simp; try with_reducible rfl)
        (try simp only [Act.put, List.setIfInBounds_toArray, List.set_cons_zero, List.set_cons_succ])
        refine wpAnyH_take (i := 11) (oi := ({ dst := some 123, op := Op.move (Operand.tmp 1), type := 63, pos := "ref.go:195", after := #[{ on := 7, ground := Ground.guard }], guard := some (7, true) } : Oper)) (v := ?r40cv12) rfl (by kernel_rfl) (by kernel_rfl) (by kernel_rfl) (fun _ _ _ h => h) (Or.inl ⟨by rfl, ?r40chy12⟩) (by assumption) ?r40cre12
        case r40chy12 => (intro w hSw; (try dsimp only at hSw); go_simp; try with_reducible rfl)
        (try simp only [Act.put, List.setIfInBounds_toArray, List.set_cons_zero, List.set_cons_succ])
        refine wpAnyH_take (i := 12) (oi := ({ dst := some 124, op := Op.indexAddr 63 (Operand.tmp 123) (Operand.const (Value.int IntKind.i64 2)), type := 0, pos := "ref.go:195", after := #[{ on := 11, ground := Ground.data }, { on := 7, ground := Ground.guard }], guard := some (7, true) } : Oper)) (v := ?r40cv13) rfl (by kernel_rfl) (by kernel_rfl) (by kernel_rfl) (fun _ _ _ h => h) (Or.inl ⟨by rfl, ?r40chy13⟩) (by assumption) ?r40cre13
        case r40chy13 => (intro w hSw; (try dsimp only at hSw); go_simp; try with_reducible rfl)
        (try simp only [Act.put, List.setIfInBounds_toArray, List.set_cons_zero, List.set_cons_succ])
        refine wpAnyH_take (i := 13) (oi := ({ dst := some 125, op := Op.load 26 (Operand.tmp 124), type := 26, pos := "ref.go:195", after := #[{ on := 12, ground := Ground.data }, { on := 7, ground := Ground.guard }], guard := some (7, true) } : Oper)) (v := ?r40cv14) rfl (by kernel_rfl) (by kernel_rfl) (by kernel_rfl) (fun _ _ _ h => h) (Or.inl ⟨by rfl, ?r40chy14⟩) (by assumption) ?r40cre14
        case r40chy14 => (intro w hSw; (try dsimp only at hSw); go_simp; try with_reducible rfl)
        (try simp only [Act.put, List.setIfInBounds_toArray, List.set_cons_zero, List.set_cons_succ])
        refine wpAnyH_ready (rs := [14]) (by kernel_rfl) (by simp) ?_
        refine AllReadyH.cons (o := ({ dst := some 126, op := Op.call { callee := Callee.value (Operand.func 63), args := #[Operand.tmp 122, Operand.tmp 125], argTypes := #[26, 26] }, type := 4, pos := "ref.go:195", after := #[{ on := 10, ground := Ground.data }, { on := 13, ground := Ground.data }, { on := 7, ground := Ground.chain }, { on := 7, ground := Ground.guard }], guard := some (7, true) } : Oper)) rfl (fun K hK => ?_) AllReadyH.nil
        go_simp
        (go_at_call 63; (with_reducible refine (HC2.out _).mono ?_); rintro e9 w1 ⟨rfl, hb1⟩; obtain ⟨osB, dB, rfl⟩ := ext_of_below hb1; clear hb1)
        refine hK.out _ _ ?r40chS15 (fun hHeldN => ?r40crst15)
        case r40chS15 => ((try dsimp only); exact HK.out _ (by (repeat' (first | (with_reducible first | exact Below.refl _ _ | assumption | refine Below.alloc ?_ ?_ _ | refine below_drewN ?_ _ | refine below_drew ?_ | refine below_ext ?_ ?_ _ _ | refine Below.setCell ?_ ?_ _) | (simp; done) | (simp; omega) | omega))))
        clear hHeld hK K
        have hHeld := hHeldN
        clear hHeldN
        refine wpAnyH_take (i := 15) (oi := ({ dst := some 127, op := Op.pick (Operand.tmp 119) (Operand.tmp 126) (Operand.const (Value.bool false)), type := 4, pos := "ref.go:195", after := #[{ on := 7, ground := Ground.data }, { on := 14, ground := Ground.data }], guard := none } : Oper)) (v := ?r40cv16) rfl (by kernel_rfl) (by kernel_rfl) (by kernel_rfl) (fun _ _ _ h => h) (Or.inl ⟨by rfl, ?r40chy16⟩) (by assumption) ?r40cre16
        case r40chy16 => (intro w hSw; (try dsimp only at hSw); go_simp; try with_reducible rfl)
        (try simp only [Act.put, List.setIfInBounds_toArray, List.set_cons_zero, List.set_cons_succ])
        refine wpAnyH_ready (rs := [16]) (by kernel_rfl) (by simp) ?_
        refine AllReadyH.cons (o := ({ dst := some 128, op := Op.call { callee := Callee.value (Operand.func 44), args := #[Operand.tmp 127, Operand.const (Value.int IntKind.i64 1)], argTypes := #[4, 3] }, type := 28, pos := "ref.go:195", after := #[{ on := 15, ground := Ground.data }, { on := 14, ground := Ground.chain }], guard := none } : Oper)) rfl (fun K hK => ?_) AllReadyH.nil
        go_simp
        (go_at_call 44; (with_reducible refine (HMt.out _).mono ?_); rintro e9 w1 ⟨rfl, hb1⟩; obtain ⟨osC, dC, rfl⟩ := ext_of_below hb1; clear hb1)
        refine hK.out _ _ ?r40chS17 (fun hHeldN => ?r40crst17)
        case r40chS17 => ((try dsimp only); exact HK.out _ (by (repeat' (first | (with_reducible first | exact Below.refl _ _ | assumption | refine Below.alloc ?_ ?_ _ | refine below_drewN ?_ _ | refine below_drew ?_ | refine below_ext ?_ ?_ _ _ | refine Below.setCell ?_ ?_ _) | (simp; done) | (simp; omega) | omega))))
        clear hHeld hK K
        have hHeld := hHeldN
        clear hHeldN
        refine wpAnyH_take (i := 17) (oi := ({ dst := some 129, op := Op.extract (Operand.tmp 128) 0, type := 26, pos := "ref.go:195", after := #[{ on := 16, ground := Ground.data }], guard := none } : Oper)) (v := ?r40cv18) rfl (by kernel_rfl) (by kernel_rfl) (by kernel_rfl) (fun _ _ _ h => h) (Or.inl ⟨by rfl, ?r40chy18⟩) (by assumption) ?r40cre18
        case r40chy18 => (intro w hSw; (try dsimp only at hSw); go_simp; try with_reducible rfl)
        (try simp only [Act.put, List.setIfInBounds_toArray, List.set_cons_zero, List.set_cons_succ])
        refine wpAnyH_take (i := 18) (oi := ({ dst := some 130, op := Op.extract (Operand.tmp 128) 1, type := 27, pos := "ref.go:195", after := #[{ on := 16, ground := Ground.data }], guard := none } : Oper)) (v := ?r40cv19) rfl (by kernel_rfl) (by kernel_rfl) (by kernel_rfl) (fun _ _ _ h => h) (Or.inl ⟨by rfl, ?r40chy19⟩) (by assumption) ?r40cre19
        case r40chy19 => (intro w hSw; (try dsimp only at hSw); go_simp; try with_reducible rfl)
        (try simp only [Act.put, List.setIfInBounds_toArray, List.set_cons_zero, List.set_cons_succ])
        refine wpAnyH_ready (rs := [19]) (by kernel_rfl) (by simp) ?_
        refine AllReadyH.cons (o := ({ dst := none, op := Op.store 26 (Operand.tmp 6) (Operand.tmp 129), type := 0, pos := "ref.go:195", after := #[{ on := 17, ground := Ground.data }, { on := 16, ground := Ground.chain }, { on := 0, ground := Ground.phase }, { on := 1, ground := Ground.phase }, { on := 2, ground := Ground.phase }, { on := 3, ground := Ground.phase }, { on := 4, ground := Ground.phase }, { on := 5, ground := Ground.phase }, { on := 6, ground := Ground.phase }, { on := 7, ground := Ground.phase }, { on := 8, ground := Ground.phase }, { on := 9, ground := Ground.phase }, { on := 10, ground := Ground.phase }, { on := 11, ground := Ground.phase }, { on := 12, ground := Ground.phase }, { on := 13, ground := Ground.phase }, { on := 14, ground := Ground.phase }, { on := 15, ground := Ground.phase }, { on := 16, ground := Ground.phase }, { on := 17, ground := Ground.phase }, { on := 18, ground := Ground.phase }], guard := none } : Oper)) rfl (fun K hK => ?_) AllReadyH.nil
        go_simp
        refine hK.out _ _ ?r40chS20 (fun hHeldN => ?r40crst20)
        case r40chS20 => ((try dsimp only); exact HK.out _ (by (repeat' (first | (with_reducible first | exact Below.refl _ _ | assumption | refine Below.alloc ?_ ?_ _ | refine below_drewN ?_ _ | refine below_drew ?_ | refine below_ext ?_ ?_ _ _ | refine Below.setCell ?_ ?_ _) | (simp; done) | (simp; omega) | omega))))
        clear hHeld hK K
        have hHeld := hHeldN
        clear hHeldN
        refine wpAnyH_ready (rs := [20]) (by kernel_rfl) (by simp) ?_
        refine AllReadyH.cons (o := ({ dst := some 7, op := Op.assign (Operand.tmp 130), type := 27, pos := "ref.go:195", after := #[{ on := 18, ground := Ground.data }, { on := 19, ground := Ground.chain }, { on := 0, ground := Ground.phase }, { on := 1, ground := Ground.phase }, { on := 2, ground := Ground.phase }, { on := 3, ground := Ground.phase }, { on := 4, ground := Ground.phase }, { on := 5, ground := Ground.phase }, { on := 6, ground := Ground.phase }, { on := 7, ground := Ground.phase }, { on := 8, ground := Ground.phase }, { on := 9, ground := Ground.phase }, { on := 10, ground := Ground.phase }, { on := 11, ground := Ground.phase }, { on := 12, ground := Ground.phase }, { on := 13, ground := Ground.phase }, { on := 14, ground := Ground.phase }, { on := 15, ground := Ground.phase }, { on := 16, ground := Ground.phase }, { on := 17, ground := Ground.phase }, { on := 18, ground := Ground.phase }, { on := 19, ground := Ground.phase }], guard := none } : Oper)) rfl (fun K hK => ?_) AllReadyH.nil
        go_simp
        refine hK.out _ _ ?r40chS21 (fun hHeldN => ?r40crst21)
        case r40chS21 => ((try dsimp only); exact HK.out _ (by (repeat' (first | (with_reducible first | exact Below.refl _ _ | assumption | refine Below.alloc ?_ ?_ _ | refine below_drewN ?_ _ | refine below_drew ?_ | refine below_ext ?_ ?_ _ _ | refine Below.setCell ?_ ?_ _) | (simp; done) | (simp; omega) | omega))))
        clear hHeld hK K
        have hHeld := hHeldN
        clear hHeldN
        (try simp only [Act.put, List.setIfInBounds_toArray, List.set_cons_zero, List.set_cons_succ])
        refine wpAnyH_done (by kernel_rfl) ?_ _
        clear hHeld
        go_wp2
        go_returns
        exact ⟨rfl, by (repeat' (first | (with_reducible first | exact Below.refl _ _ | assumption | refine Below.alloc ?_ ?_ _ | refine below_drewN ?_ _ | refine below_drew ?_ | refine below_ext ?_ ?_ _ _ | refine Below.setCell ?_ ?_ _) | (simp; done) | (simp; omega) | omega))⟩
  by_cases h11 : op = 24
  · obtain ⟨a, rfl⟩ := ty1 (hte.1 h11)
    have hr : dyM sy ⟨op, k, t, neg, c, s, day⟩ [a] = mustM (decide (a = (0, 0))) 0 := by
      have g1 : simB op [a] = decide (a = (0, 0)) := by unfold simB; rw [if_neg h6, if_neg h7, if_neg h8, if_neg h9, if_neg h10, if_pos h11]; rfl
      have g2 : simT op = (0, 0) := by unfold simT; rw [if_neg (by omega), if_neg (by omega), if_neg (by omega), if_neg (by omega)]
      rw [hdy, g1, g2]
      cases decide (a = (0, 0)) <;> rfl
    rw [hr]
    have hmg : Tryz.prog.eqGuardType Tryz.prog.depth 26 = false := by kernel_rfl
    have e1 := fun w => ty_eq a (0, 0) w
    obtain ⟨m, hm⟩ : ∃ m, m = decide (a = (0, 0)) := ⟨_, rfl⟩
    rw [← hm] at e1 ⊢
    have HO0 := Lib.hid (show ∀ w, Calls Tryz.prog 66 #[.int .i64 0] w fun e w' => e = .returned (.agg #[.int .i64 0, .int .i64 0]) ∧ Below w.heap.size w w' from fun w => rof_any 0 w)
    have HM := Lib.hid (show ∀ w, Calls Tryz.prog 44 #[.bool m, .int .i64 0] w fun e w' => e = .returned (.tuple #[.agg #[.int .i64 (mustM m 0).1.1, .int .i64 (mustM m 0).1.2], .int .i64 (mustM m 0).2]) ∧ Below w.heap.size w w' from fun w => rmust_any m 0 w)
    generalize mustM m 0 = q at HM ⊢
    obtain ⟨⟨q1, q2⟩, q3⟩ := q
    simp only at HM
    obtain ⟨g, o, c2, rfl, hgn, c0, c1⟩ := rl_one hv
    have hgw : g < w.heap.size := Nat.lt_of_lt_of_le hgn hn
    have HK := Lib.hid (show ∀ w', Below w.heap.size w w' → w'.cell? ⟨g, o, none⟩ = some (.int .i64 a.1) ∧ w'.cell? ⟨g, o + 1, none⟩ = some (.int .i64 a.2) from fun w' hb => ⟨(hb.cell (p := ⟨g, _, none⟩) hgw).trans c0, (hb.cell (p := ⟨g, _, none⟩) hgw).trans c1⟩)
    obtain ⟨a1, a2⟩ := a
    generalize sy.length = sl
    subst h11
    clear hr hk hte hha hla hf hl hs hls h1 h2 h3 h4 h5 hdy h6 h7 h8 h9 h10 hv c0 c1 hm
    go_enter Tryz.func45, Tryz.ntmps45
    go_upto_region 42 with fail
    go_region_held3 (fun w' => w'.cell? ⟨g, o, none⟩ = some (.int .i64 a1) ∧ w'.cell? ⟨g, o + 1, none⟩ = some (.int .i64 a2)) (exact HK.out _ (by (repeat' (first | (with_reducible first | exact Below.refl _ _ | assumption | refine Below.alloc ?_ ?_ _ | refine below_drewN ?_ _ | refine below_drew ?_ | refine below_ext ?_ ?_ _ _ | refine Below.setCell ?_ ?_ _) | (simp; done) | (simp; omega) | omega)))) (first
      | (go_at_call 66; ((with_reducible refine (HO0.out _).mono ?_); rintro e w1 ⟨rfl, hb1⟩; obtain ⟨osA, dA, rfl⟩ := ext_of_below hb1; clear hb1))
      | (go_at_call 44; ((with_reducible refine (HM.out _).mono ?_); rintro e w1 ⟨rfl, hb1⟩; obtain ⟨osB, dB, rfl⟩ := ext_of_below hb1; clear hb1)))
    all_goals
      go_wp2
      go_returns
      exact ⟨rfl, by (repeat' (first | (with_reducible first | exact Below.refl _ _ | assumption | refine Below.alloc ?_ ?_ _ | refine below_drewN ?_ _ | refine below_drew ?_ | refine below_ext ?_ ?_ _ _ | refine Below.setCell ?_ ?_ _) | (simp; done) | (simp; omega) | omega))⟩
  have hsb : simB op ts = true := by unfold simB; rw [if_neg h6, if_neg h7, if_neg h8, if_neg h9, if_neg h10, if_neg h11]
  rw [hdy, hsb, if_pos rfl]
  obtain ⟨p, c2, rfl, -⟩ := hv
  generalize ts.length = len at hk ⊢
  generalize sy.length = sl
  have HOA := Lib.hid (show ∀ k w, Calls Tryz.prog 66 #[.int .i64 k] w fun e w' => e = .returned (.agg #[.int .i64 k, .int .i64 0]) ∧ Below w.heap.size w w' from fun k w => rof_any k w)
  clear hdy hsb hte hf hl hs hls hha hla HO
  by_cases h12 : op = 2 ∨ op = 3 ∨ op = 4 ∨ op = 5 ∨ op = 6
  · clear hk h1 h2 h3 h4 h5 h6 h7 h8 h9 h10 h11
    rcases h12 with rfl | rfl | rfl | rfl | rfl
    all_goals
      go_enter Tryz.func45, Tryz.ntmps45
      go_wp2_with (first | (go_at_call 66; ((with_reducible refine (HOA.out _ _).mono ?_); rintro e w1 ⟨rfl, hb1⟩; obtain ⟨osA, dA, rfl⟩ := ext_of_below hb1; clear hb1)))
      go_returns
      exact ⟨rfl, by (repeat' (first | (with_reducible first | exact Below.refl _ _ | assumption | refine Below.alloc ?_ ?_ _ | refine below_drewN ?_ _ | refine below_drew ?_ | refine below_ext ?_ ?_ _ _ | refine Below.setCell ?_ ?_ _) | (simp; done) | (simp; omega) | omega))⟩
  · have h23 : simT op = if op = 23 then (1, 0) else (0, 0) := by
      unfold simT
      rw [if_neg (by omega), if_neg (by omega), if_neg (by omega)]
      by_cases e : op = 23
      · rw [if_pos (by omega), if_pos e]
      · rw [if_neg (by omega), if_neg e]
    have hn23 : op ≠ 23 := h24
    rw [h23, if_neg hn23]
    have hq : ∀ k : Int, k ∈ [2, 3, 4, 5, 6, 7, 8, 10, 11, 12, 9, 13, 14, 15, 16, 17, 18, 19, 20, 21, 22, 24, 25, 26] → (op == k) = false := fun k hk => by
      rw [beq_eq_false_iff_ne]
      intro e
      subst e
      simp only [List.mem_cons, List.mem_nil_iff, or_false] at hk
      omega
    simp only [List.mem_cons, List.mem_nil_iff, or_false, forall_eq_or_imp, forall_eq] at hq
    obtain ⟨q0, q1, q2, q3, q4, q5, q6, q7, q8, q9, q10, q11, q12, q13, q14, q15, q16, q17, q18, q19, q20, q21, q22, q23⟩ := hq
    clear hk h1 h2 h3 h4 h5 h6 h7 h8 h9 h10 h11 h12 h23 hn23 h24
    go_enter Tryz.func45, Tryz.ntmps45
    go_wp2_with (first | (go_at_call 66; ((with_reducible refine (HOA.out _ _).mono ?_); rintro e w1 ⟨rfl, hb1⟩; obtain ⟨osA, dA, rfl⟩ := ext_of_below hb1; clear hb1)))
    go_returns
    exact ⟨rfl, by (repeat' (first | (with_reducible first | exact Below.refl _ _ | assumption | refine Below.alloc ?_ ?_ _ | refine below_drewN ?_ _ | refine below_drew ?_ | refine below_ext ?_ ?_ _ _ | refine Below.setCell ?_ ?_ _) | (simp; done) | (simp; omega) | omega))⟩
end Go.Proofs.YtalahkincccffaaGreatDoor
