/-
  What the laws ask first.
  Decide under the policies of numbers, whatever is handed in; the least is no more than the greatest.
  HitNumbers: the statement's own call; the rows that it counts.
-/
import Derived.Test.YtjkallelniggpaaGreatDoorHitK
namespace Go.Proofs.YtjkallelniggpaaGreatDoor
open Go.RowKit Word Txt
attribute [local go_sem] setCell_drewN cell?_ext frozen?_ext shape?_ext setCell_ext lt_1' ne_1' en_1' le_1' lt_2' ne_2' en_2' le_2' lt_3' ne_3' en_3' le_3' lt_4' ne_4' en_4' le_4' lt_5' ne_5' en_5' le_5' lt_6' ne_6' en_6' le_6' lt_7' ne_7' en_7' le_7' lt_8' ne_8' en_8' le_8' lt_9' ne_9' en_9' le_9' lt_10' ne_10' en_10' le_10' lt_11' ne_11' en_11' le_11' lt_12' ne_12' en_12' le_12'

theorem three_form : formN (false, 3, 0) = true := by
  show formB false 3 ((0 : Nat) : Int) = true
  exact form_mk (by omega) (by omega) (fun _ h => by cases h) (fun h => absurd rfl h)
theorem same_three (pl : Option Addr) (cl : Nat) (pn : Option Addr) (cn : Nat) (W : World) : Calls Tryz.prog 6 #[NC (false, 3, 0) pl cl pn cn, NumC 3] W fun e w' => e = .returned (.bool true) ∧ Below W.heap.size W w' := by
  have := hsame_any (numW (false, 3, 0)) (NumV 3) W.heap.size W _ _ (numW_at three_form _ _ pl cl pn cn) (numV_at 3 (by omega) _ W) (Nat.le_refl _) (numW_count _) (numV_count _)
  have e : (numW (false, 3, 0)).eqb (NumV 3) = true := by
    show (NumV 3).eqb (NumV 3) = true
    exact eqb_refl _
  rw [e] at this
  exact this
set_option maxRecDepth 100000 in
set_option maxHeartbeats 8000000 in
theorem hknown_any (w : World) (hT : Tens w) (hU : Tabs w) : Calls Tryz.prog 4 #[] w fun e w' => e = .returned (.bool true) ∧ Below w.heap.size w w' := by
  have HN1 := Lib.hid (fun w => hnum_any 1 w)
  have HN2 := Lib.hid (fun w => hnum_any 2 w)
  have HN := Lib.hid (fun w => hnum_any 3 w)
  have HTU := Lib.hid (show ∀ w', Below w.heap.size w w' → Tens w' ∧ Tabs w' from fun w' hb => ⟨hT.below hb, hU.below hb⟩)
  have HSM := Lib.hid (fun pl cl pn cn W => same_three pl cl pn cn W)
  clear hT hU
  go_enter Tryz.func4, Tryz.ntmps4
  go_wp2_with (first
    | (go_at_call 7; ((with_reducible refine (HN1.out _).mono ?_); rintro e w1 ⟨rfl, hb1⟩; have HB1 := Lib.hid hb1; have hs1 := hb1.size; clear hb1))
    | (go_at_call 7; ((with_reducible refine (HN2.out _).mono ?_); rintro e w2 ⟨rfl, hb2⟩; have HB2 := Lib.hid hb2; have HK := Lib.hid (km_of hb2); have HBW2 := Lib.hid (HB1.out.trans ((((Below.refl w1.heap.size w1).alloc (Nat.le_refl _) _).trans (hb2.mono (by simp))).mono hs1)); have hs2 : w.heap.size ≤ w2.heap.size := HBW2.out.size; clear hb2))
    | (go_at_call 9; ((with_reducible refine (HK.out.sum (HTU.out _ (by have := HBW2.out; (repeat' (first | (with_reducible exact Below.refl _ _) | (with_reducible assumption) | (with_reducible refine Below.alloc ?_ ?_ _) | (with_reducible refine below_drewN ?_ _) | (with_reducible refine below_drew ?_) | (with_reducible refine below_ext ?_ ?_ _ _) | (with_reducible refine Below.setCell ?_ ?_ _) | (simp; done) | (simp; omega) | omega)))).1 (HTU.out _ (by have := HBW2.out; (repeat' (first | (with_reducible exact Below.refl _ _) | (with_reducible assumption) | (with_reducible refine Below.alloc ?_ ?_ _) | (with_reducible refine below_drewN ?_ _) | (with_reducible refine below_drew ?_) | (with_reducible refine below_ext ?_ ?_ _ _) | (with_reducible refine Below.setCell ?_ ?_ _) | (simp; done) | (simp; omega) | omega)))).2).mono ?_); rintro e w3 ⟨x, rfl, hb3, hx⟩; obtain ⟨pl, cl, pn, cn, rfl⟩ := (show ∃ pl cl pn cn, x = NC (false, 3, 0) pl cl pn cn from hx); have HB3 := Lib.hid hb3; have HK3 := Lib.hid (fun z => km_more (z := z) HK.out hb3); have HBW3 := Lib.hid (Below.trans (show Below w.heap.size w _ by have := HBW2.out; (repeat' (first | (with_reducible exact Below.refl _ _) | (with_reducible assumption) | (with_reducible refine Below.alloc ?_ ?_ _) | (with_reducible refine below_drewN ?_ _) | (with_reducible refine below_drew ?_) | (with_reducible refine below_ext ?_ ?_ _ _) | (with_reducible refine Below.setCell ?_ ?_ _) | (simp; done) | (simp; omega) | omega))) (hb3.mono (by simp; omega))); have hs3 : w.heap.size ≤ w3.heap.size := HBW3.out.size; clear hb3 hx))
    | (go_at_call 9; ((with_reducible refine ((HK3.out _).two (HTU.out _ (by have := HBW3.out; (repeat' (first | (with_reducible exact Below.refl _ _) | (with_reducible assumption) | (with_reducible refine Below.alloc ?_ ?_ _) | (with_reducible refine below_drewN ?_ _) | (with_reducible refine below_drew ?_) | (with_reducible refine below_ext ?_ ?_ _ _) | (with_reducible refine Below.setCell ?_ ?_ _) | (simp; done) | (simp; omega) | omega)))).1 (HTU.out _ (by have := HBW3.out; (repeat' (first | (with_reducible exact Below.refl _ _) | (with_reducible assumption) | (with_reducible refine Below.alloc ?_ ?_ _) | (with_reducible refine below_drewN ?_ _) | (with_reducible refine below_drew ?_) | (with_reducible refine below_ext ?_ ?_ _ _) | (with_reducible refine Below.setCell ?_ ?_ _) | (simp; done) | (simp; omega) | omega)))).2).mono ?_); rintro e w4 ⟨rfl, hb4⟩; obtain ⟨osD, dD, rfl⟩ := ext_of_below hb4; clear hb4)))
  go_region_with (first
    | (go_at_call 7; ((with_reducible refine (HN.out _).mono ?_); rintro e w1 ⟨rfl, hb1⟩; obtain ⟨osE, dE, rfl⟩ := ext_of_below hb1; clear hb1))
    | (go_at_call 6; ((with_reducible refine (HSM.out _ _ _ _ _).mono ?_); rintro e w1 ⟨rfl, hb1⟩; obtain ⟨osF, dF, rfl⟩ := ext_of_below hb1; clear hb1)))
  all_goals
    (try go_wp2)
    go_returns
    exact ⟨rfl, by have := HBW3.out; (repeat' (first | (with_reducible exact Below.refl _ _) | (with_reducible assumption) | (with_reducible refine Below.alloc ?_ ?_ _) | (with_reducible refine below_drewN ?_ _) | (with_reducible refine below_drew ?_) | (with_reducible refine below_ext ?_ ?_ _ _) | (with_reducible refine Below.setCell ?_ ?_ _) | (simp; done) | (simp; omega) | omega))⟩
end Go.Proofs.YtjkallelniggpaaGreatDoor
namespace Go.Proofs.YtjkallelniggpaaGreatDoor
open Go.RowKit Word Txt
attribute [local go_sem] setCell_drewN cell?_ext frozen?_ext shape?_ext setCell_ext lt_1' ne_1' en_1' le_1' lt_2' ne_2' en_2' le_2' lt_3' ne_3' en_3' le_3' lt_4' ne_4' en_4' le_4' lt_5' ne_5' en_5' le_5' lt_6' ne_6' en_6' le_6' lt_7' ne_7' en_7' le_7' lt_8' ne_8' en_8' le_8' lt_9' ne_9' en_9' le_9' lt_10' ne_10' en_10' le_10' lt_11' ne_11' en_11' le_11' lt_12' ne_12' en_12' le_12'

theorem mrg_low {a b : NN} (ha : formN a = true) (hb : formN b = true) : (mrgN 9 a b).2 = 0 ∧ formN (mrgN 9 a b).1 = true ∧ svN (mrgN 9 a b).1 ≤ svN a := by
  unfold mrgN
  rw [if_neg (by decide)]
  by_cases h : ((9 : Int) = 9 ∧ 0 < cmpN a b) ∨ ((9 : Int) = 10 ∧ cmpN a b < 0)
  · rw [if_pos h]
    have h1 : 0 < cmpN a b := by
      rcases h with h | h
      · exact h.2
      · omega
    refine ⟨rfl, hb, ?_⟩
    show svN b ≤ svN a
    rcases cmp_sv ha hb with g | g | g <;> omega
  · rw [if_neg h]
    exact ⟨rfl, ha, Int.le_refl _⟩
theorem mrg_high {a b : NN} (ha : formN a = true) (hb : formN b = true) : (mrgN 10 a b).2 = 0 ∧ formN (mrgN 10 a b).1 = true ∧ svN a ≤ svN (mrgN 10 a b).1 := by
  unfold mrgN
  rw [if_neg (by decide)]
  by_cases h : ((10 : Int) = 9 ∧ 0 < cmpN a b) ∨ ((10 : Int) = 10 ∧ cmpN a b < 0)
  · rw [if_pos h]
    have h1 : cmpN a b < 0 := by
      rcases h with h | h
      · omega
      · exact h.2
    refine ⟨rfl, hb, ?_⟩
    show svN a ≤ svN b
    rcases cmp_sv ha hb with g | g | g <;> omega
  · rw [if_neg h]
    exact ⟨rfl, ha, Int.le_refl _⟩
theorem fold_low : ∀ {l : List NN} {a : NN}, formN a = true → (∀ b ∈ l, formN b = true) → (foldN 9 a l).2 = 0 ∧ svN (foldN 9 a l).1 ≤ svN a
  | [], a, _, _ => ⟨rfl, Int.le_refl _⟩
  | b :: r, a, ha, hl => by
    obtain ⟨h1, h2, h3⟩ := mrg_low ha (hl b (by simp))
    unfold foldN
    rw [if_pos h1]
    obtain ⟨h4, h5⟩ := fold_low (l := r) h2 fun c hc => hl c (by simp [hc])
    exact ⟨h4, Int.le_trans h5 h3⟩
theorem fold_high : ∀ {l : List NN} {a : NN}, formN a = true → (∀ b ∈ l, formN b = true) → (foldN 10 a l).2 = 0 ∧ svN a ≤ svN (foldN 10 a l).1
  | [], a, _, _ => ⟨rfl, Int.le_refl _⟩
  | b :: r, a, ha, hl => by
    obtain ⟨h1, h2, h3⟩ := mrg_high ha (hl b (by simp))
    unfold foldN
    rw [if_pos h1]
    obtain ⟨h4, h5⟩ := fold_high (l := r) h2 fun c hc => hl c (by simp [hc])
    exact ⟨h4, Int.le_trans h3 h5⟩
/-- the sum's error is none or too much -/
theorem plus_err (a b : NN) (h : ¬ (plusN a b).2 = 0) : (plusN a b).2 = 3 := by
  have e : (plusN a b).2 = fitE (fitN a b) := rfl
  rw [e] at h ⊢
  cases hf : fitN a b with
  | none => rfl
  | some cs =>
    rw [hf] at h
    exact absurd rfl h
theorem fold_sum (l : List NN) : ∀ a : NN, (foldN 8 a l).2 = 0 ∨ (foldN 8 a l).2 = 3 := by
  induction l with
  | nil => intro a; exact .inl rfl
  | cons b r ih =>
    intro a
    have e : foldN 8 a (b :: r) = if (mrgN 8 a b).2 = 0 then foldN 8 (mrgN 8 a b).1 r else ((false, 0, 0), (mrgN 8 a b).2) := rfl
    rw [e]
    by_cases h : (mrgN 8 a b).2 = 0
    · rw [if_pos h]; exact ih _
    · rw [if_neg h]
      right
      rw [mrg_add] at h
      show (mrgN 8 a b).2 = 3
      rw [mrg_add]
      exact plus_err a b h
set_option maxRecDepth 100000 in
/-- what is not in form, or has more than one name -/
theorem decide_err (p : Int) (hp : 8 ≤ p ∧ p ≤ 11) (n : Nat) (w : World) (ns : List ByteArray) (O R : List (List V)) (T : List V) (nv ov rv tv : Value) (hN : SRdS w nv ns) (hO : WSl n w O ov) (hR : WSl n w R rv) (hX : VSl n w T tv) (fN : ns.length ≤ 1048576) (fO : Few O) (fR : Few R) (fT : T.length ≤ 1048576) (hnw : n ≤ w.heap.size) (hT : Tens w) (hU : Tabs w) (hF : formH ns O R T = false ∨ 1 < ns.length) :
    Calls Tryz.prog 9 #[.int .i64 p, nv, ov, rv, tv] w fun e w' => e = .returned (.tuple #[ZV, .int .i64 2]) ∧ Below w.heap.size w w' := by
  have HIF := Lib.hid (show ∀ w1, Below w.heap.size w w1 → Calls Tryz.prog 16 #[nv, ov, rv, tv] w1 fun e w' => e = .returned (.bool (formH ns O R T)) ∧ Below w1.heap.size w1 w' from fun w1 hb =>
    inForm_any n w1 ns O R T nv ov rv tv (hN.below hb) (hO.below (hb.mono hnw)) (hR.below (hb.mono hnw)) (hX.below (hb.mono hnw)) fN fO fR fT (Nat.le_trans hnw hb.size) (hT.below hb) (hU.below hb))
  have HIP := Lib.hid (show ∀ w1, Calls Tryz.prog 15 #[.int .i64 p] w1 fun e w' => e = .returned (.bool true) ∧ w' = w1 from fun w1 => by
    have := isPolicy_any p w1
    rw [show polB p = true by unfold polB; rw [decide_eq_true (by omega), decide_eq_true (by omega)]; rfl] at this
    exact this)
  obtain ⟨pn, cn, rfl, -⟩ := hN
  obtain ⟨po, co, rfl⟩ := hO.shape
  obtain ⟨pr, cr, rfl⟩ := hR.shape
  obtain ⟨pt, ct, rfl⟩ := hX.shape
  obtain ⟨mn, hmn⟩ : ∃ m, m = ns.length := ⟨_, rfl⟩
  obtain ⟨mo, hmo⟩ : ∃ m, m = O.length := ⟨_, rfl⟩
  obtain ⟨mr, hmr⟩ : ∃ m, m = R.length := ⟨_, rfl⟩
  obtain ⟨mt, hmt⟩ : ∃ m, m = T.length := ⟨_, rfl⟩
  have h8 : (8 : Int) ≤ p := hp.1
  rw [← hmn, ← hmo, ← hmr, ← hmt] at HIF
  rw [← hmn] at hF
  rw [← hmn, ← hmo, ← hmr, ← hmt]
  generalize formH ns O R T = f at *
  clear hO hR hX fN fO fR fT hT hU hmn hmo hmr hmt hp hnw
  cases f with
  | false =>
    clear hF
    go_enter Tryz.func9, Tryz.ntmps9
    go_wp2_with (first
      | (go_at_call 15; ((with_reducible refine (HIP.out _).mono ?_); rintro e w1 ⟨rfl, rfl⟩))
      | (go_at_call 16; ((with_reducible refine (HIF.out _ (by (repeat' (first | (with_reducible exact Below.refl _ _) | (with_reducible assumption) | (with_reducible refine Below.alloc ?_ ?_ _) | (with_reducible refine below_drewN ?_ _) | (with_reducible refine below_drew ?_) | (with_reducible refine below_ext ?_ ?_ _ _) | (with_reducible refine Below.setCell ?_ ?_ _) | (simp; done) | (simp; omega) | omega)))).mono ?_); rintro e w1 ⟨rfl, hb1⟩; obtain ⟨osA, dA, rfl⟩ := ext_of_below hb1; clear hb1)))
    go_returns
    exact ⟨rfl, by (repeat' (first | (with_reducible exact Below.refl _ _) | (with_reducible assumption) | (with_reducible refine Below.alloc ?_ ?_ _) | (with_reducible refine below_drewN ?_ _) | (with_reducible refine below_drew ?_) | (with_reducible refine below_ext ?_ ?_ _ _) | (with_reducible refine Below.setCell ?_ ?_ _) | (simp; done) | (simp; omega) | omega))⟩
  | true =>
    have h1 : (1 : Int) < (mn : Int) := by
      rcases hF with h | h
      · cases h
      · omega
    clear hF
    go_enter Tryz.func9, Tryz.ntmps9
    go_wp2_with (first
      | (go_at_call 15; ((with_reducible refine (HIP.out _).mono ?_); rintro e w1 ⟨rfl, rfl⟩))
      | (go_at_call 16; ((with_reducible refine (HIF.out _ (by (repeat' (first | (with_reducible exact Below.refl _ _) | (with_reducible assumption) | (with_reducible refine Below.alloc ?_ ?_ _) | (with_reducible refine below_drewN ?_ _) | (with_reducible refine below_drew ?_) | (with_reducible refine below_ext ?_ ?_ _ _) | (with_reducible refine Below.setCell ?_ ?_ _) | (simp; done) | (simp; omega) | omega)))).mono ?_); rintro e w1 ⟨rfl, hb1⟩; obtain ⟨osA, dA, rfl⟩ := ext_of_below hb1; clear hb1)))
    go_returns
    exact ⟨rfl, by (repeat' (first | (with_reducible exact Below.refl _ _) | (with_reducible assumption) | (with_reducible refine Below.alloc ?_ ?_ _) | (with_reducible refine below_drewN ?_ _) | (with_reducible refine below_drew ?_) | (with_reducible refine below_ext ?_ ?_ _ _) | (with_reducible refine Below.setCell ?_ ?_ _) | (simp; done) | (simp; omega) | omega))⟩
theorem formH_some {ns : List ByteArray} {O R : List (List V)} {T : List V} (h : formH ns O R T = true) : 0 < ns.length := by
  unfold formH at h
  simp only [Bool.and_eq_true, decide_eq_true_eq] at h
  exact h.1
open Classical in
/-- Decide under the policies of numbers -/
theorem dec_any (p : Int) (hp : 8 ≤ p ∧ p ≤ 11) (n : Nat) (w : World) (ns : List ByteArray) (O R : List (List V)) (T : List V) (nv ov rv tv : Value) (hN : SRdS w nv ns) (hO : WSl n w O ov) (hR : WSl n w R rv) (hX : VSl n w T tv) (fN : ns.length ≤ 1048576) (fO : Few O) (fR : Few R) (fT : T.length ≤ 1048576) (hnw : n ≤ w.heap.size) (hT : Tens w) (hU : Tabs w) :
    Calls Tryz.prog 9 #[.int .i64 p, nv, ov, rv, tv] w fun e w' => NumR (decN p ns O R T) w e w' := by
  by_cases h : formH ns O R T = true ∧ ns.length = 1
  · rw [show decN p ns O R T = outN p (valsN R T) from if_pos h]
    exact decide_form p hp n w ns O R T nv ov rv tv hN hO hR hX fN fO fR fT hnw hT hU h.1 h.2
  · rw [show decN p ns O R T = (none, 2) from if_neg h]
    refine (decide_err p hp n w ns O R T nv ov rv tv hN hO hR hX fN fO fR fT hnw hT hU ?_).mono fun e w' he => ?_
    · cases hf : formH ns O R T with
      | false => exact .inl rfl
      | true =>
        have h0 := formH_some hf
        have h1 : ns.length ≠ 1 := fun g => h ⟨hf, g⟩
        exact .inr (by omega)
    · exact ⟨ZV, he.1, he.2, none, 0, none, 0, rfl⟩
end Go.Proofs.YtjkallelniggpaaGreatDoor
namespace Go.Proofs.YtjkallelniggpaaGreatDoor
open Go.RowKit Word Txt
attribute [local go_sem] setCell_drewN cell?_ext frozen?_ext shape?_ext setCell_ext lt_1' ne_1' en_1' le_1' lt_2' ne_2' en_2' le_2' lt_3' ne_3' en_3' le_3' lt_4' ne_4' en_4' le_4' lt_5' ne_5' en_5' le_5' lt_6' ne_6' en_6' le_6' lt_7' ne_7' en_7' le_7' lt_8' ne_8' en_8' le_8' lt_9' ne_9' en_9' le_9' lt_10' ne_10' en_10' le_10' lt_11' ne_11' en_11' le_11' lt_12' ne_12' en_12' le_12'

/-- the statement's argument: names, order, rows, other -/
abbrev RowsV (nv ov rv tv : Value) : Value := .agg #[nv, ov, rv, tv]
set_option maxRecDepth 100000 in
theorem ldec_any (p : Int) (hp : 8 ≤ p ∧ p ≤ 11) (n : Nat) (w : World) (ns : List ByteArray) (O R : List (List V)) (T : List V) (nv ov rv tv : Value) (hN : SRdS w nv ns) (hO : WSl n w O ov) (hR : WSl n w R rv) (hX : VSl n w T tv) (fN : ns.length ≤ 1048576) (fO : Few O) (fR : Few R) (fT : T.length ≤ 1048576) (hnw : n ≤ w.heap.size) (hT : Tens w) (hU : Tabs w) :
    Calls Tryz.prog 5 #[.int .i64 p, RowsV nv ov rv tv] w fun e w' => NumR (decN p ns O R T) w e w' := by
  have HD := Lib.hid (fun w' (hb : Below w.heap.size w w') => dec_any p hp n w' ns O R T nv ov rv tv (hN.below hb) (hO.below (hb.mono hnw)) (hR.below (hb.mono hnw)) (hX.below (hb.mono hnw)) fN fO fR fT (Nat.le_trans hnw hb.size) (hT.below hb) (hU.below hb))
  obtain ⟨pn, cn, rfl, -⟩ := hN
  obtain ⟨po, co, rfl⟩ := hO.shape
  obtain ⟨pr, cr, rfl⟩ := hR.shape
  obtain ⟨pt, ct, rfl⟩ := hX.shape
  obtain ⟨mn, hmn⟩ : ∃ m, m = ns.length := ⟨_, rfl⟩
  obtain ⟨mo, hmo⟩ : ∃ m, m = O.length := ⟨_, rfl⟩
  obtain ⟨mr, hmr⟩ : ∃ m, m = R.length := ⟨_, rfl⟩
  obtain ⟨mt, hmt⟩ : ∃ m, m = T.length := ⟨_, rfl⟩
  rw [← hmn, ← hmo, ← hmr, ← hmt] at HD ⊢
  obtain ⟨q, hq⟩ : ∃ q, q = decN p ns O R T := ⟨_, rfl⟩
  rw [← hq] at HD ⊢
  obtain ⟨qo, qe⟩ := q
  clear hO hR hX fN fO fR fT hT hU hmn hmo hmr hmt hp hnw hq
  cases qo with
  | none =>
    go_enter Tryz.func5, Tryz.ntmps5
    go_wp2_with (go_at_call 9; (with_reducible refine (HD.out _ (by (repeat' (first | (with_reducible exact Below.refl _ _) | (with_reducible assumption) | (with_reducible refine Below.alloc ?_ ?_ _) | (with_reducible refine below_drewN ?_ _) | (with_reducible refine below_drew ?_) | (with_reducible refine below_ext ?_ ?_ _ _) | (with_reducible refine Below.setCell ?_ ?_ _) | (simp; done) | (simp; omega) | omega)))).mono ?_); rintro e w1 ⟨x, rfl, hb1, hx⟩; obtain ⟨ql, dl, qn, dn, rfl⟩ := (show ∃ pl cl pn cn, x = ZC pl cl pn cn from hx); obtain ⟨osA, dA, rfl⟩ := ext_of_below hb1; clear hb1 hx)
    go_returns
    exact (show ∃ x, _ from ⟨_, rfl, by (repeat' (first | (with_reducible exact Below.refl _ _) | (with_reducible assumption) | (with_reducible refine Below.alloc ?_ ?_ _) | (with_reducible refine below_drewN ?_ _) | (with_reducible refine below_drew ?_) | (with_reducible refine below_ext ?_ ?_ _ _) | (with_reducible refine Below.setCell ?_ ?_ _) | (simp; done) | (simp; omega) | omega)), ⟨ql, dl, qn, dn, rfl⟩⟩)
  | some a =>
    obtain ⟨an, ac, az⟩ := a
    go_enter Tryz.func5, Tryz.ntmps5
    go_wp2_with (go_at_call 9; (with_reducible refine (HD.out _ (by (repeat' (first | (with_reducible exact Below.refl _ _) | (with_reducible assumption) | (with_reducible refine Below.alloc ?_ ?_ _) | (with_reducible refine below_drewN ?_ _) | (with_reducible refine below_drew ?_) | (with_reducible refine below_ext ?_ ?_ _ _) | (with_reducible refine Below.setCell ?_ ?_ _) | (simp; done) | (simp; omega) | omega)))).mono ?_); rintro e w1 ⟨x, rfl, hb1, hx⟩; obtain ⟨ql, dl, qn, dn, rfl⟩ := (show ∃ pl cl pn cn, x = NC (an, ac, az) pl cl pn cn from hx); obtain ⟨osA, dA, rfl⟩ := ext_of_below hb1; clear hb1 hx)
    go_returns
    exact (show ∃ x, _ from ⟨_, rfl, by (repeat' (first | (with_reducible exact Below.refl _ _) | (with_reducible assumption) | (with_reducible refine Below.alloc ?_ ?_ _) | (with_reducible refine below_drewN ?_ _) | (with_reducible refine below_drew ?_) | (with_reducible refine below_ext ?_ ?_ _ _) | (with_reducible refine Below.setCell ?_ ?_ _) | (simp; done) | (simp; omega) | omega)), ⟨ql, dl, qn, dn, rfl⟩⟩)
set_option maxRecDepth 100000 in
theorem numbers_err (w : World) (pn : Option Addr) (nn cn : Nat) (po : Option Addr) (no co : Nat) (pr : Option Addr) (nr cr : Nat) (pt : Option Addr) (nt ct : Nat) (hT : Tens w) (hU : Tabs w)
    (hd : ∀ p : Int, 8 ≤ p → p ≤ 11 → ∀ w', Below w.heap.size w w' → Calls Tryz.prog 5 #[.int .i64 p, RowsV (.slice pn nn cn) (.slice po no co) (.slice pr nr cr) (.slice pt nt ct)] w' fun e w'' => NumR (none, 2) w' e w'') :
    Calls Tryz.prog 3 #[RowsV (.slice pn nn cn) (.slice po no co) (.slice pr nr cr) (.slice pt nt ct)] w fun e w' => e = .returned (.bool true) ∧ Below w.heap.size w w' := by
  have HK := Lib.hid (fun w' (hb : Below w.heap.size w w') => hknown_any w' (hT.below hb) (hU.below hb))
  have HD9 := Lib.hid (fun w' hb => hd 9 (by decide) (by decide) w' hb)
  have HD10 := Lib.hid (fun w' hb => hd 10 (by decide) (by decide) w' hb)
  have HD8 := Lib.hid (fun w' hb => hd 8 (by decide) (by decide) w' hb)
  have HD11 := Lib.hid (fun w' hb => hd 11 (by decide) (by decide) w' hb)
  clear hd hT hU
  go_enter Tryz.func3, Tryz.ntmps3
  go_wp2_with (first
    | (go_at_call 4; ((with_reducible refine (HK.out _ (by (repeat' (first | (with_reducible exact Below.refl _ _) | (with_reducible assumption) | (with_reducible refine Below.alloc ?_ ?_ _) | (with_reducible refine below_drewN ?_ _) | (with_reducible refine below_drew ?_) | (with_reducible refine below_ext ?_ ?_ _ _) | (with_reducible refine Below.setCell ?_ ?_ _) | (simp; done) | (simp; omega) | omega)))).mono ?_); rintro e w1 ⟨rfl, hb1⟩; obtain ⟨osK, dK, rfl⟩ := ext_of_below hb1; clear hb1))
    | (go_at_call 5; (with_reducible refine (HD9.out _ (by (repeat' (first | (with_reducible exact Below.refl _ _) | (with_reducible assumption) | (with_reducible refine Below.alloc ?_ ?_ _) | (with_reducible refine below_drewN ?_ _) | (with_reducible refine below_drew ?_) | (with_reducible refine below_ext ?_ ?_ _ _) | (with_reducible refine Below.setCell ?_ ?_ _) | (simp; done) | (simp; omega) | omega)))).mono ?_); rintro e w1 ⟨x, rfl, hb1, hx⟩; obtain ⟨qlA, dlA, qnA, dnA, rfl⟩ := (show ∃ pl cl pn cn, x = ZC pl cl pn cn from hx); obtain ⟨osA, dA, rfl⟩ := ext_of_below hb1; clear hb1 hx)
    | (go_at_call 5; (with_reducible refine (HD10.out _ (by (repeat' (first | (with_reducible exact Below.refl _ _) | (with_reducible assumption) | (with_reducible refine Below.alloc ?_ ?_ _) | (with_reducible refine below_drewN ?_ _) | (with_reducible refine below_drew ?_) | (with_reducible refine below_ext ?_ ?_ _ _) | (with_reducible refine Below.setCell ?_ ?_ _) | (simp; done) | (simp; omega) | omega)))).mono ?_); rintro e w1 ⟨x, rfl, hb1, hx⟩; obtain ⟨qlB, dlB, qnB, dnB, rfl⟩ := (show ∃ pl cl pn cn, x = ZC pl cl pn cn from hx); obtain ⟨osB, dB, rfl⟩ := ext_of_below hb1; clear hb1 hx)
    | (go_at_call 5; (with_reducible refine (HD8.out _ (by (repeat' (first | (with_reducible exact Below.refl _ _) | (with_reducible assumption) | (with_reducible refine Below.alloc ?_ ?_ _) | (with_reducible refine below_drewN ?_ _) | (with_reducible refine below_drew ?_) | (with_reducible refine below_ext ?_ ?_ _ _) | (with_reducible refine Below.setCell ?_ ?_ _) | (simp; done) | (simp; omega) | omega)))).mono ?_); rintro e w1 ⟨x, rfl, hb1, hx⟩; obtain ⟨qlC, dlC, qnC, dnC, rfl⟩ := (show ∃ pl cl pn cn, x = ZC pl cl pn cn from hx); obtain ⟨osC, dC, rfl⟩ := ext_of_below hb1; clear hb1 hx)
    | (go_at_call 5; (with_reducible refine (HD11.out _ (by (repeat' (first | (with_reducible exact Below.refl _ _) | (with_reducible assumption) | (with_reducible refine Below.alloc ?_ ?_ _) | (with_reducible refine below_drewN ?_ _) | (with_reducible refine below_drew ?_) | (with_reducible refine below_ext ?_ ?_ _ _) | (with_reducible refine Below.setCell ?_ ?_ _) | (simp; done) | (simp; omega) | omega)))).mono ?_); rintro e w1 ⟨x, rfl, hb1, hx⟩; obtain ⟨qlD, dlD, qnD, dnD, rfl⟩ := (show ∃ pl cl pn cn, x = ZC pl cl pn cn from hx); obtain ⟨osD, dD, rfl⟩ := ext_of_below hb1; clear hb1 hx))
  go_returns
  exact ⟨rfl, by (repeat' (first | (with_reducible exact Below.refl _ _) | (with_reducible assumption) | (with_reducible refine Below.alloc ?_ ?_ _) | (with_reducible refine below_drewN ?_ _) | (with_reducible refine below_drew ?_) | (with_reducible refine below_ext ?_ ?_ _ _) | (with_reducible refine Below.setCell ?_ ?_ _) | (simp; done) | (simp; omega) | omega))⟩
theorem same_k (k : Nat) (hk : k ≤ 60) (pl : Option Addr) (cl : Nat) (pn : Option Addr) (cn : Nat) (W : World) : Calls Tryz.prog 6 #[NC (false, k, 0) pl cl pn cn, NumC (k : Int)] W fun e w' => e = .returned (.bool true) ∧ Below W.heap.size W w' := by
  have hf : formN (false, k, 0) = true := by
    show formB false k ((0 : Nat) : Int) = true
    exact form_mk (by omega) (by omega) (fun _ h => by cases h) (fun h => absurd rfl h)
  have := hsame_any (numW (false, k, 0)) (NumV k) W.heap.size W _ _ (numW_at hf _ _ pl cl pn cn) (numV_at k (by omega) _ W) (Nat.le_refl _) (numW_count _) (numV_count _)
  have e : (numW (false, k, 0)).eqb (NumV k) = true := by
    show (NumV k).eqb (NumV k) = true
    exact eqb_refl _
  rw [e] at this
  exact this
end Go.Proofs.YtjkallelniggpaaGreatDoor
