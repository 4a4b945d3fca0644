/-
  Expr, the document's and the program's; CheckExprs: the law.
-/
import Derived.Test.YtalahkincccffaaGreatDoorCa
import Derived.Test.YtalahkincccffaaGreatDoorBx
import Derived.Test.YtalahkincccffaaGreatDoorTypI
import Derived.Test.YtalahkincccffaaGreatDoorBw
import Derived.Test.YtalahkincccffaaGreatDoorBt
namespace Go.Proofs.YtalahkincccffaaGreatDoor
open Go.RowKit Word Txt
attribute [local go_sem] setCell_drewN cell?_ext frozen?_ext shape?_ext setCell_ext lt_1' ne_1' en_1' le_1' lt_2' ne_2' en_2' le_2' lt_3' ne_3' en_3' le_3' lt_4' ne_4' en_4' le_4' lt_5' ne_5' en_5' le_5' lt_6' ne_6' en_6' le_6' lt_7' ne_7' en_7' le_7' lt_8' ne_8' en_8' le_8' lt_9' ne_9' en_9' le_9' lt_10' ne_10' en_10' le_10' lt_11' ne_11' en_11' le_11' lt_12' ne_12' en_12' le_12'

noncomputable def exR (l : List NdD) (sy : List SyD) : Ty × Int :=
  if docE l false ≠ 0 then ((0, 0), docE l false) else if namM sy ≠ 0 then ((0, 0), namM sy) else lastT (typD l (plcS l) sy l [])
set_option maxRecDepth 100000 in
set_option maxHeartbeats 4000000 in
theorem cexpr_any (l : List NdD) (sy : List SyD) (n : Nat) (w : World) (v vs : Value) (hv : RL 8 ndE n w v l) (hs : RL 3 syE n w vs sy) (hn : n ≤ w.heap.size) (hwf : ∀ x ∈ l, x.Wf) (hsz : ∀ x ∈ sy, x.s.size ≤ 1048576) (hT : Tens w) (hU : Tabs w) (hG : TyG w) :
    Calls Tryz.prog 7 #[v, vs] w fun e w' => e = .returned (.tuple #[TyV (exR l sy).1, .int .i64 (exR l sy).2]) ∧ Below w.heap.size w w' := by
  have HC := Lib.hid (fun w' (hb : Below w.heap.size w w') => by
    have := check_any l false n w' v (hv.keep (hb.mono hn)) (Nat.le_trans hn hb.size) hwf (hT.below hb) (hU.below hb)
    rw [← doc_chk] at this
    exact this)
  have HL := Lib.hid (fun w' (hb : Below w.heap.size w w') => learn_any sy n w' vs (hs.keep (hb.mono hn)) (Nat.le_trans hn hb.size) hsz)
  by_cases hE : docE l false = 0
  · obtain ⟨q, hsp, hS, hl0, hl3, -, -⟩ := docE_ok hE
    have hfit : fitR l 0 := fitR_of l 0 [] hsp (by simp)
    rw [hE] at HC
    by_cases hN : namM sy = 0
    · obtain ⟨hs1, hsf⟩ := namM_ok hN
      rw [hN] at HL
      obtain ⟨r1, r2, r3⟩ := run_whole hsf hE
      have hres : exR l sy = ((runM sy l []).1.1, (runM sy l []).2) := by
        unfold exR
        rw [if_neg (by simp [hE]), if_neg (by simp [hN])]
        unfold lastT
        by_cases h0 : (runM sy l []).2 = 0
        · rw [if_pos (by rw [← r1]; exact h0), h0, (r3 h0).1, (r3 h0).2.1]
        · rw [if_neg (by rw [← r1]; exact h0), r2 h0, ← r1]
      rw [hres]
      have HD := Lib.hid (fun b kn w' (hb : Below w.heap.size w w') (hm : SyIs w' b kn (findS sy)) => determine_any sy l b kn n w' v hm hsf (hv.keep (hb.mono hn)) (Nat.le_trans hn hb.size) hl3 hwf hfit (hG.below hb))
      generalize runM sy l [] = R at HD ⊢
      obtain ⟨⟨⟨k1, k2⟩, ks⟩, er⟩ := R
      obtain ⟨p, c, rfl, -⟩ := hv
      obtain ⟨sp, sc, rfl, -⟩ := hs
      generalize l.length = len at HC HD ⊢
      generalize sy.length = sl at HL ⊢
      clear hres r1 r2 r3 hsp hS hfit hwf hsz hT hU hG hN hE hs1 hsf
      go_enter Tryz.func7, Tryz.ntmps7
      go_wp2_with (first
        | (go_at_call 13; ((with_reducible refine (HC.out _ (by (repeat' (first | (with_reducible first | exact Below.refl _ _ | assumption | refine Below.alloc ?_ ?_ _ | refine below_drewN ?_ _ | refine below_drew ?_ | refine below_ext ?_ ?_ _ _ | refine Below.setCell ?_ ?_ _) | (simp; done) | (simp; omega) | omega)))).mono ?_); rintro e w1 ⟨rfl, hb1⟩; obtain ⟨osA, dA, rfl⟩ := ext_of_below hb1; clear hb1))
        | (go_at_call 14; (with_reducible refine (HL.out _ (by (repeat' (first | (with_reducible first | exact Below.refl _ _ | assumption | refine Below.alloc ?_ ?_ _ | refine below_drewN ?_ _ | refine below_drew ?_ | refine below_ext ?_ ?_ _ _ | refine Below.setCell ?_ ?_ _) | (simp; done) | (simp; omega) | omega)))).mono ?_); rintro e9 w1 ⟨hb1, hk1, -⟩; obtain ⟨mb, kn, rfl, hm1⟩ := hk1 rfl; obtain ⟨osB, dB, rfl⟩ := ext_of_below hb1; have HM1 := Lib.hid hm1; clear hb1 hk1 hm1)
        | (go_at_call 15; (with_reducible refine (HD.out _ _ _ (by (repeat' (first | (with_reducible first | exact Below.refl _ _ | assumption | refine Below.alloc ?_ ?_ _ | refine below_drewN ?_ _ | refine below_drew ?_ | refine below_ext ?_ ?_ _ _ | refine Below.setCell ?_ ?_ _) | (simp; done) | (simp; omega) | omega))) HM1.out).mono ?_); rintro e9 w1 ⟨hb1, q9, n9, c9, rfl, -⟩; obtain ⟨osC, dC, rfl⟩ := ext_of_below hb1; clear hb1))
      all_goals
        go_returns
        exact ⟨rfl, by (repeat' (first | (with_reducible first | exact Below.refl _ _ | assumption | refine Below.alloc ?_ ?_ _ | refine below_drewN ?_ _ | refine below_drew ?_ | refine below_ext ?_ ?_ _ _ | refine Below.setCell ?_ ?_ _) | (simp; done) | (simp; omega) | omega))⟩
    · have hres : exR l sy = ((0, 0), namM sy) := by
        unfold exR
        rw [if_neg (by simp [hE]), if_pos hN]
      rw [hres]
      generalize namM sy = er at HL hN ⊢
      obtain ⟨p, c, rfl, -⟩ := hv
      obtain ⟨sp, sc, rfl, -⟩ := hs
      have qe : (er == 0) = false := beq_eq_false_iff_ne.2 hN
      generalize l.length = len at HC ⊢
      generalize sy.length = sl at HL ⊢
      have HNE := Lib.hid hN
      clear hres hsp hS hfit hwf hsz hT hU hG hE hN
      go_enter Tryz.func7, Tryz.ntmps7
      go_wp2_with (first
        | (go_at_call 13; ((with_reducible refine (HC.out _ (by (repeat' (first | (with_reducible first | exact Below.refl _ _ | assumption | refine Below.alloc ?_ ?_ _ | refine below_drewN ?_ _ | refine below_drew ?_ | refine below_ext ?_ ?_ _ _ | refine Below.setCell ?_ ?_ _) | (simp; done) | (simp; omega) | omega)))).mono ?_); rintro e w1 ⟨rfl, hb1⟩; obtain ⟨osA, dA, rfl⟩ := ext_of_below hb1; clear hb1))
        | (go_at_call 14; (with_reducible refine (HL.out _ (by (repeat' (first | (with_reducible first | exact Below.refl _ _ | assumption | refine Below.alloc ?_ ?_ _ | refine below_drewN ?_ _ | refine below_drew ?_ | refine below_ext ?_ ?_ _ _ | refine Below.setCell ?_ ?_ _) | (simp; done) | (simp; omega) | omega)))).mono ?_); rintro e9 w1 ⟨hb1, -, hk1⟩; obtain rfl := hk1 HNE.out; obtain ⟨osB, dB, rfl⟩ := ext_of_below hb1; clear hb1 hk1))
      all_goals
        go_returns
        exact ⟨rfl, by (repeat' (first | (with_reducible first | exact Below.refl _ _ | assumption | refine Below.alloc ?_ ?_ _ | refine below_drewN ?_ _ | refine below_drew ?_ | refine below_ext ?_ ?_ _ _ | refine Below.setCell ?_ ?_ _) | (simp; done) | (simp; omega) | omega))⟩
  · have hres : exR l sy = ((0, 0), docE l false) := by
      unfold exR
      rw [if_pos hE]
    rw [hres]
    generalize docE l false = er at HC hE ⊢
    obtain ⟨p, c, rfl, -⟩ := hv
    obtain ⟨sp, sc, rfl, -⟩ := hs
    have qe : (er == 0) = false := beq_eq_false_iff_ne.2 hE
    generalize l.length = len at HC ⊢
    generalize sy.length = sl at HL ⊢
    clear hres hwf hsz hT hU hG hE HL
    go_enter Tryz.func7, Tryz.ntmps7
    go_wp2_with (first
      | (go_at_call 13; ((with_reducible refine (HC.out _ (by (repeat' (first | (with_reducible first | exact Below.refl _ _ | assumption | refine Below.alloc ?_ ?_ _ | refine below_drewN ?_ _ | refine below_drew ?_ | refine below_ext ?_ ?_ _ _ | refine Below.setCell ?_ ?_ _) | (simp; done) | (simp; omega) | omega)))).mono ?_); rintro e w1 ⟨rfl, hb1⟩; obtain ⟨osA, dA, rfl⟩ := ext_of_below hb1; clear hb1)))
    all_goals
      go_returns
      exact ⟨rfl, by (repeat' (first | (with_reducible first | exact Below.refl _ _ | assumption | refine Below.alloc ?_ ?_ _ | refine below_drewN ?_ _ | refine below_drew ?_ | refine below_ext ?_ ?_ _ _ | refine Below.setCell ?_ ?_ _) | (simp; done) | (simp; omega) | omega))⟩
set_option maxRecDepth 100000 in
set_option maxHeartbeats 4000000 in
theorem rexpr_any (l : List NdD) (sy : List SyD) (hE : docE l false = 0) (hN : namM sy = 0) (n : Nat) (w : World) (v vs : Value) (hv : RL 8 ndE n w v l) (hs : RL 3 syE n w vs sy) (hn : n ≤ w.heap.size) :
    Calls Tryz.prog 12 #[v, vs] w fun e w' => e = .returned (.tuple #[TyV (lastT (typD l (plcS l) sy l [])).1, .int .i64 (lastT (typD l (plcS l) sy l [])).2]) ∧ Below w.heap.size w w' := by
  obtain ⟨q, hsp, hS, hl0, hl3, -, -⟩ := docE_ok hE
  obtain ⟨hs1, hsf⟩ := namM_ok hN
  obtain ⟨L, hTr, -⟩ := tree_of hsp
  obtain ⟨r1, -, r3⟩ := run_whole hsf hE
  have hlen := fun h0 => (r3 h0).2.1
  rw [r1] at hlen
  have HTYW := Lib.hid (fun w' (hb : Below w.heap.size w w') => rtypes_any sy l n w' v vs (hv.keep (hb.mono hn)) (hs.keep (hb.mono hn)) (Nat.le_trans hn hb.size) hl3 hl0 hs1 hsf hsp hTr hS)
  generalize typD l (plcS l) sy l [] = R at HTYW hlen ⊢
  obtain ⟨T, er⟩ := R
  simp only at hlen
  obtain ⟨p, c, rfl, -⟩ := hv
  obtain ⟨sp, sc, rfl, -⟩ := hs
  by_cases h0 : er = 0
  · subst h0
    have hTl := hlen rfl
    have hT0 : 0 < T.length := by omega
    obtain ⟨m, hm⟩ : ∃ m, T.length = m + 1 := ⟨T.length - 1, by omega⟩
    have hla : lastT (T, 0) = (tyA T m, 0) := by unfold lastT; rw [if_pos rfl, hm]; rfl
    rw [hla]
    have HX := Lib.hid (show ∀ w' v, RL 2 tpE w'.heap.size w' v T → ∃ g o c, v = .slice (some ⟨g, o, none⟩) (m + 1) c ∧ g < w'.heap.size ∧ w'.cell? ⟨g, o + m * 2, none⟩ = some (.int .i64 (tyA T m).1) ∧ w'.cell? ⟨g, o + m * 2 + 1, none⟩ = some (.int .i64 (tyA T m).2) from fun w' v h => by
      obtain ⟨p, c, rfl, h2⟩ := h
      obtain ⟨g, o, rfl, hg, hc⟩ := h2 hT0
      have e9 : tyA T m = T[m] := by unfold tyA; rw [List.getD_eq_getElem?_getD, List.getElem?_eq_getElem (by omega)]; rfl
      rw [e9]
      exact ⟨g, o, c, by rw [hm], hg, hc m (by omega) 0 _ rfl, hc m (by omega) 1 _ rfl⟩)
    obtain ⟨y1, y2, hy⟩ : ∃ y1 y2, tyA T m = (y1, y2) := ⟨_, _, rfl⟩
    rw [hy] at HX ⊢
    have HTY0 := Lib.hid (show ∀ w', Below w.heap.size w w' → Calls Tryz.prog 26 #[.slice p l.length c, .slice sp sy.length sc] w' fun e w'' => Below w'.heap.size w' w'' ∧ ∃ g o c, e = .returned (.tuple #[.slice (some ⟨g, o, none⟩) (m + 1) c, .int .i64 0]) ∧ g < w''.heap.size ∧ w''.cell? ⟨g, o + m * 2, none⟩ = some (.int .i64 y1) ∧ w''.cell? ⟨g, o + m * 2 + 1, none⟩ = some (.int .i64 y2) from fun w' hb => (HTYW.out w' hb).mono fun e w1 h => by
      obtain ⟨hb1, v1, rfl, hr1⟩ := h
      obtain ⟨g, o, c, rfl, h5, h6, h7⟩ := HX.out _ _ hr1
      exact ⟨hb1, g, o, c, rfl, h5, h6, h7⟩)
    generalize l.length = len at HTY0 ⊢
    generalize sy.length = sl at HTY0 ⊢
    have E1 : ((m + 1 : Nat) : Int) - 1 = (m : Int) := by omega
    have E2 : (m : Int) < ((m + 1 : Nat) : Int) := by omega
    have E3 : (m : Int) + 1 - 1 = (m : Int) := by omega
    have E4 : (m : Int) < (m : Int) + 1 := by omega
    have hm3 : m ≤ 300 := by omega
    clear hsp hS hTr r1 r3 hs1 hsf hlen hl0 hl3 hTl hla hm hT0 hy hE hN hn HX HTYW
    go_enter Tryz.func12, Tryz.ntmps12
    go_wp2_with (first
      | (go_at_call 26; (with_reducible refine (HTY0.out _ (by (repeat' (first | (with_reducible first | exact Below.refl _ _ | assumption | refine Below.alloc ?_ ?_ _ | refine below_drewN ?_ _ | refine below_drew ?_ | refine below_ext ?_ ?_ _ _ | refine Below.setCell ?_ ?_ _) | (simp; done) | (simp; omega) | omega)))).mono ?_); rintro e9 w1 ⟨hb1, g9, o9, c9, rfl, hg9, t0, t1⟩; obtain ⟨osB, dB, rfl⟩ := ext_of_below hb1; clear hb1))
    all_goals
      go_returns
      exact ⟨rfl, by (repeat' (first | (with_reducible first | exact Below.refl _ _ | assumption | refine Below.alloc ?_ ?_ _ | refine below_drewN ?_ _ | refine below_drew ?_ | refine below_ext ?_ ?_ _ _ | refine Below.setCell ?_ ?_ _) | (simp; done) | (simp; omega) | omega))⟩
  · have hla : lastT (T, er) = ((0, 0), er) := by unfold lastT; rw [if_neg h0]
    rw [hla]
    have qe : (er == 0) = false := beq_eq_false_iff_ne.2 h0
    have HTY0 := Lib.hid (show ∀ w', Below w.heap.size w w' → Calls Tryz.prog 26 #[.slice p l.length c, .slice sp sy.length sc] w' fun e w'' => Below w'.heap.size w' w'' ∧ ∃ q k c, e = .returned (.tuple #[.slice q k c, .int .i64 er]) from fun w' hb => (HTYW.out w' hb).mono fun e w1 h => by
      obtain ⟨hb1, v1, rfl, hr1⟩ := h
      obtain ⟨q, c, rfl, -⟩ := hr1
      exact ⟨hb1, q, _, c, rfl⟩)
    generalize l.length = len at HTY0 ⊢
    generalize sy.length = sl at HTY0 ⊢
    clear hsp hS hTr r1 r3 hs1 hsf hlen hl0 hl3 hla hE hN hn HTYW h0
    go_enter Tryz.func12, Tryz.ntmps12
    go_wp2_with (first
      | (go_at_call 26; (with_reducible refine (HTY0.out _ (by (repeat' (first | (with_reducible first | exact Below.refl _ _ | assumption | refine Below.alloc ?_ ?_ _ | refine below_drewN ?_ _ | refine below_drew ?_ | refine below_ext ?_ ?_ _ _ | refine Below.setCell ?_ ?_ _) | (simp; done) | (simp; omega) | omega)))).mono ?_); rintro e9 w1 ⟨hb1, g9, o9, c9, rfl⟩; obtain ⟨osB, dB, rfl⟩ := ext_of_below hb1; clear hb1))
    all_goals
      go_returns
      exact ⟨rfl, by (repeat' (first | (with_reducible first | exact Below.refl _ _ | assumption | refine Below.alloc ?_ ?_ _ | refine below_drewN ?_ _ | refine below_drew ?_ | refine below_ext ?_ ?_ _ _ | refine Below.setCell ?_ ?_ _) | (simp; done) | (simp; omega) | omega))⟩
set_option maxRecDepth 100000 in
set_option maxHeartbeats 4000000 in
theorem rdocexpr_any (l : List NdD) (sy : List SyD) (n : Nat) (w : World) (v vs : Value) (hv : RL 8 ndE n w v l) (hs : RL 3 syE n w vs sy) (hn : n ≤ w.heap.size) (hwf : ∀ x ∈ l, x.Wf) (hts : ∀ x ∈ l, x.t.size ≤ 1048576) :
    Calls Tryz.prog 6 #[v, vs] w fun e w' => e = .returned (.tuple #[TyV (exR l sy).1, .int .i64 (exR l sy).2]) ∧ Below w.heap.size w w' := by
  have HC := Lib.hid (fun w' (hb : Below w.heap.size w w') => dcheck_any l false n w' v (hv.keep (hb.mono hn)) (Nat.le_trans hn hb.size) hwf hts)
  have HN := Lib.hid (fun w' (hb : Below w.heap.size w w') => rnames_any sy n w' vs (hs.keep (hb.mono hn)) (Nat.le_trans hn hb.size))
  by_cases hE : docE l false = 0
  · by_cases hN : namM sy = 0
    · have hres : exR l sy = lastT (typD l (plcS l) sy l []) := by
        unfold exR
        rw [if_neg (by simp [hE]), if_neg (by simp [hN])]
      rw [hres]
      have HX := Lib.hid (show ∀ w', Below w.heap.size w w' → Calls Tryz.prog 12 #[v, vs] w' fun e w'' => e = .returned (.tuple #[.agg #[.int .i64 (lastT (typD l (plcS l) sy l [])).1.1, .int .i64 (lastT (typD l (plcS l) sy l [])).1.2], .int .i64 (lastT (typD l (plcS l) sy l [])).2]) ∧ Below w'.heap.size w' w'' from fun w' hb => rexpr_any l sy hE hN n w' v vs (hv.keep (hb.mono hn)) (hs.keep (hb.mono hn)) (Nat.le_trans hn hb.size))
      rw [hE] at HC
      rw [hN] at HN
      generalize lastT (typD l (plcS l) sy l []) = R at HX ⊢
      obtain ⟨⟨k1, k2⟩, er⟩ := R
      simp only at HX
      obtain ⟨p, c, rfl, -⟩ := hv
      obtain ⟨sp, sc, rfl, -⟩ := hs
      generalize l.length = len at HC HX ⊢
      generalize sy.length = sl at HN HX ⊢
      clear hres hwf hts hE hN hn
      go_enter Tryz.func6, Tryz.ntmps6
      go_wp2_with (first
        | (go_at_call 10; ((with_reducible refine (HC.out _ (by (repeat' (first | (with_reducible first | exact Below.refl _ _ | assumption | refine Below.alloc ?_ ?_ _ | refine below_drewN ?_ _ | refine below_drew ?_ | refine below_ext ?_ ?_ _ _ | refine Below.setCell ?_ ?_ _) | (simp; done) | (simp; omega) | omega)))).mono ?_); rintro e w1 ⟨rfl, hb1⟩; obtain ⟨osA, dA, rfl⟩ := ext_of_below hb1; clear hb1))
        | (go_at_call 11; ((with_reducible refine (HN.out _ (by (repeat' (first | (with_reducible first | exact Below.refl _ _ | assumption | refine Below.alloc ?_ ?_ _ | refine below_drewN ?_ _ | refine below_drew ?_ | refine below_ext ?_ ?_ _ _ | refine Below.setCell ?_ ?_ _) | (simp; done) | (simp; omega) | omega)))).mono ?_); rintro e w1 ⟨rfl, hb1⟩; obtain ⟨osB, dB, rfl⟩ := ext_of_below hb1; clear hb1))
        | (go_at_call 12; ((with_reducible refine (HX.out _ (by (repeat' (first | (with_reducible first | exact Below.refl _ _ | assumption | refine Below.alloc ?_ ?_ _ | refine below_drewN ?_ _ | refine below_drew ?_ | refine below_ext ?_ ?_ _ _ | refine Below.setCell ?_ ?_ _) | (simp; done) | (simp; omega) | omega)))).mono ?_); rintro e w1 ⟨rfl, hb1⟩; obtain ⟨osC, dC, rfl⟩ := ext_of_below hb1; clear hb1)))
      all_goals
        go_returns
        exact ⟨rfl, by (repeat' (first | (with_reducible first | exact Below.refl _ _ | assumption | refine Below.alloc ?_ ?_ _ | refine below_drewN ?_ _ | refine below_drew ?_ | refine below_ext ?_ ?_ _ _ | refine Below.setCell ?_ ?_ _) | (simp; done) | (simp; omega) | omega))⟩
    · have hres : exR l sy = ((0, 0), namM sy) := by
        unfold exR
        rw [if_neg (by simp [hE]), if_pos hN]
      rw [hres]
      rw [hE] at HC
      generalize namM sy = er at HN hN ⊢
      obtain ⟨p, c, rfl, -⟩ := hv
      obtain ⟨sp, sc, rfl, -⟩ := hs
      have qe : (er == 0) = false := beq_eq_false_iff_ne.2 hN
      generalize l.length = len at HC ⊢
      generalize sy.length = sl at HN ⊢
      clear hres hwf hts hE hN hn
      go_enter Tryz.func6, Tryz.ntmps6
      go_wp2_with (first
        | (go_at_call 10; ((with_reducible refine (HC.out _ (by (repeat' (first | (with_reducible first | exact Below.refl _ _ | assumption | refine Below.alloc ?_ ?_ _ | refine below_drewN ?_ _ | refine below_drew ?_ | refine below_ext ?_ ?_ _ _ | refine Below.setCell ?_ ?_ _) | (simp; done) | (simp; omega) | omega)))).mono ?_); rintro e w1 ⟨rfl, hb1⟩; obtain ⟨osA, dA, rfl⟩ := ext_of_below hb1; clear hb1))
        | (go_at_call 11; ((with_reducible refine (HN.out _ (by (repeat' (first | (with_reducible first | exact Below.refl _ _ | assumption | refine Below.alloc ?_ ?_ _ | refine below_drewN ?_ _ | refine below_drew ?_ | refine below_ext ?_ ?_ _ _ | refine Below.setCell ?_ ?_ _) | (simp; done) | (simp; omega) | omega)))).mono ?_); rintro e w1 ⟨rfl, hb1⟩; obtain ⟨osB, dB, rfl⟩ := ext_of_below hb1; clear hb1)))
      all_goals
        go_returns
        exact ⟨rfl, by (repeat' (first | (with_reducible first | exact Below.refl _ _ | assumption | refine Below.alloc ?_ ?_ _ | refine below_drewN ?_ _ | refine below_drew ?_ | refine below_ext ?_ ?_ _ _ | refine Below.setCell ?_ ?_ _) | (simp; done) | (simp; omega) | omega))⟩
  · have hres : exR l sy = ((0, 0), docE l false) := by
      unfold exR
      rw [if_pos hE]
    rw [hres]
    generalize docE l false = er at HC hE ⊢
    obtain ⟨p, c, rfl, -⟩ := hv
    obtain ⟨sp, sc, rfl, -⟩ := hs
    have qe : (er == 0) = false := beq_eq_false_iff_ne.2 hE
    generalize l.length = len at HC ⊢
    generalize sy.length = sl at HN ⊢
    clear hres hwf hts hE hn HN
    go_enter Tryz.func6, Tryz.ntmps6
    go_wp2_with (first
      | (go_at_call 10; ((with_reducible refine (HC.out _ (by (repeat' (first | (with_reducible first | exact Below.refl _ _ | assumption | refine Below.alloc ?_ ?_ _ | refine below_drewN ?_ _ | refine below_drew ?_ | refine below_ext ?_ ?_ _ _ | refine Below.setCell ?_ ?_ _) | (simp; done) | (simp; omega) | omega)))).mono ?_); rintro e w1 ⟨rfl, hb1⟩; obtain ⟨osA, dA, rfl⟩ := ext_of_below hb1; clear hb1)))
    all_goals
      go_returns
      exact ⟨rfl, by (repeat' (first | (with_reducible first | exact Below.refl _ _ | assumption | refine Below.alloc ?_ ?_ _ | refine below_drewN ?_ _ | refine below_drew ?_ | refine below_ext ?_ ?_ _ _ | refine Below.setCell ?_ ?_ _) | (simp; done) | (simp; omega) | omega))⟩
set_option maxRecDepth 100000 in
set_option maxHeartbeats 4000000 in
theorem checkExprs_law (l : List NdD) (sy : List SyD) (n : Nat) (w : World) (v vs : Value) (hv : RL 8 ndE n w v l) (hs : RL 3 syE n w vs sy) (hn : n ≤ w.heap.size) (hwf : ∀ x ∈ l, x.Wf) (hts : ∀ x ∈ l, x.t.size ≤ 1048576) (hsz : ∀ x ∈ sy, x.s.size ≤ 1048576) (hG : TyG w) (hT : Tens w) (hU : Tabs w) :
    Calls Tryz.prog 3 #[v, vs] w fun e w' => e = .returned (.bool true) ∧ Below w.heap.size w w' := by
  have HK := Lib.hid (chkknown_any w hG hT hU)
  have HD := Lib.hid (show ∀ w', Below w.heap.size w w' → Calls Tryz.prog 6 #[v, vs] w' fun e w'' => e = .returned (.tuple #[.agg #[.int .i64 (exR l sy).1.1, .int .i64 (exR l sy).1.2], .int .i64 (exR l sy).2]) ∧ Below w'.heap.size w' w'' from fun w' hb => rdocexpr_any l sy n w' v vs (hv.keep (hb.mono hn)) (hs.keep (hb.mono hn)) (Nat.le_trans hn hb.size) hwf hts)
  have HC := Lib.hid (show ∀ w', Below w.heap.size w w' → Calls Tryz.prog 7 #[v, vs] w' fun e w'' => e = .returned (.tuple #[.agg #[.int .i64 (exR l sy).1.1, .int .i64 (exR l sy).1.2], .int .i64 (exR l sy).2]) ∧ Below w'.heap.size w' w'' from fun w' hb => cexpr_any l sy n w' v vs (hv.keep (hb.mono hn)) (hs.keep (hb.mono hn)) (Nat.le_trans hn hb.size) hwf hsz (hT.below hb) (hU.below hb) (hG.below hb))
  generalize exR l sy = R at HD HC
  obtain ⟨⟨t1, t2⟩, er⟩ := R
  simp only at HD HC
  have hmg : Tryz.prog.eqGuardType Tryz.prog.depth 26 = false := by kernel_rfl
  have e1 : ∀ w, (Op.equalIn 10000 26 (.agg #[.int .i64 t1, .int .i64 t2]) (.agg #[.int .i64 t1, .int .i64 t2])).run Tryz.prog w = .ok true w := fun w => by
    have := ty_eq (t1, t2) (t1, t2) w
    rwa [decide_eq_true rfl] at this
  obtain ⟨p, c, rfl, -⟩ := hv
  obtain ⟨sp, sc, rfl, -⟩ := hs
  generalize l.length = len at HD HC ⊢
  generalize sy.length = sl at HD HC ⊢
  clear hwf hts hsz hG hT hU hn
  go_enter Tryz.func3, Tryz.ntmps3
  go_wp2_with (first
    | (go_at_call 5; ((with_reducible refine (HK.out).mono ?_); rintro e w1 ⟨rfl, hb1⟩; obtain ⟨osK, dK, rfl⟩ := ext_of_below hb1; clear hb1))
    | (go_at_call 6; ((with_reducible refine (HD.out _ (by (repeat' (first | (with_reducible first | exact Below.refl _ _ | assumption | refine Below.alloc ?_ ?_ _ | refine below_drewN ?_ _ | refine below_drew ?_ | refine below_ext ?_ ?_ _ _ | refine Below.setCell ?_ ?_ _) | (simp; done) | (simp; omega) | omega)))).mono ?_); rintro e w1 ⟨rfl, hb1⟩; obtain ⟨osA, dA, rfl⟩ := ext_of_below hb1; clear hb1))
    | (go_at_call 7; ((with_reducible refine (HC.out _ (by (repeat' (first | (with_reducible first | exact Below.refl _ _ | assumption | refine Below.alloc ?_ ?_ _ | refine below_drewN ?_ _ | refine below_drew ?_ | refine below_ext ?_ ?_ _ _ | refine Below.setCell ?_ ?_ _) | (simp; done) | (simp; omega) | omega)))).mono ?_); rintro e w1 ⟨rfl, hb1⟩; obtain ⟨osB, dB, rfl⟩ := ext_of_below hb1; clear hb1)))
  all_goals
    go_ret
    exact ⟨rfl, by (repeat' (first | (with_reducible first | exact Below.refl _ _ | assumption | refine Below.alloc ?_ ?_ _ | refine below_drewN ?_ _ | refine below_drew ?_ | refine below_ext ?_ ?_ _ _ | refine Below.setCell ?_ ?_ _) | (simp; done) | (simp; omega) | omega))⟩
end Go.Proofs.YtalahkincccffaaGreatDoor
