/-
  Decide under the policies of numbers, and where two rows match under Unique.
-/
import Derived.Test.YtjkallelniggpaaGreatDoorBs
namespace Go.Proofs.YtjkallelniggpaaGreatDoor
open Go.RowKit Word Txt
attribute [local go_sem] setCell_drewN cell?_ext frozen?_ext shape?_ext setCell_ext lt_1' ne_1' en_1' le_1' lt_2' ne_2' en_2' le_2' lt_3' ne_3' en_3' le_3' lt_4' ne_4' en_4' le_4' lt_5' ne_5' en_5' le_5' lt_6' ne_6' en_6' le_6' lt_7' ne_7' en_7' le_7' lt_8' ne_8' en_8' le_8' lt_9' ne_9' en_9' le_9' lt_10' ne_10' en_10' le_10' lt_11' ne_11' en_11' le_11' lt_12' ne_12' en_12' le_12'

theorem VSl.more {n n' : Nat} {w : World} {l : List V} {lv : Value} (h : VSl n w l lv) (hn : n ≤ n') : VSl n' w l lv := by
  rcases h with h | ⟨g, o, cap, e, h1, h2, h3⟩
  · exact .inl h
  · exact .inr ⟨g, o, cap, e, Nat.lt_of_lt_of_le h1 hn, h2, h3.more hn⟩
def heads (R : List (List V)) : List V := R.filterMap List.head?
theorem heads_one {R : List (List V)} (h : ∀ l ∈ R, l.length = 1) : R = (heads R).map fun v => [v] := by
  induction R with
  | nil => rfl
  | cons l r ih =>
    have h1 := h l (by simp)
    obtain ⟨v, rfl⟩ := List.length_eq_one_iff.1 h1
    unfold heads at ih ⊢
    rw [List.filterMap_cons]
    simp only [List.head?_cons, List.map_cons]
    rw [← ih fun l hl => h l (by simp [hl])]
theorem okB_all {l : List V} (h : okB l = true) : ∀ v ∈ l, v.code = 0 := fun v hv => by
  have := List.all_eq_true.1 h v hv
  simpa using this
theorem formH_open {ns : List ByteArray} {O R : List (List V)} {T : List V} (h : formH ns O R T = true) : ns.length = O.length ∧ (∀ l ∈ R, l.length = ns.length ∧ okB l = true) ∧ R.length ≤ 60 ∧ (T.length = 0 ∨ T.length = ns.length) ∧ okB T = true := by
  unfold formH sizedB at h
  simp only [Bool.and_eq_true, Bool.or_eq_true, decide_eq_true_eq] at h
  obtain ⟨-, h2, ⟨-, h3, -, h4⟩, -, h5, h6⟩ := h
  refine ⟨h2, fun l hl => ?_, h3, h5, h6⟩
  have := List.all_eq_true.1 h4 l hl
  simp only [Bool.and_eq_true, decide_eq_true_eq] at this
  rw [h2]
  exact this
/-- the values that count -/
def valsN (R : List (List V)) (T : List V) : List V := if R = [] then T else heads R
open Classical in
/-- what Decide answers under the policies of numbers -/
noncomputable def decN (p : Int) (ns : List ByteArray) (O R : List (List V)) (T : List V) : Option NN × Int := if formH ns O R T = true ∧ ns.length = 1 then outN p (valsN R T) else (none, 2)
theorem foldN_form {p : Int} : ∀ {l : List NN} {a : NN}, formN a = true → (∀ b ∈ l, formN b = true) → (foldN p a l).2 = 0 → formN (foldN p a l).1 = true
  | [], a, h, _, _ => h
  | b :: r, a, h, hl, h0 => by
    unfold foldN at h0 ⊢
    by_cases he : (mrgN p a b).2 = 0
    · rw [if_pos he] at h0 ⊢
      exact foldN_form (mrg_form h (hl b (by simp)) he) (fun c hc => hl c (by simp [hc])) h0
    · rw [if_neg he] at h0
      exact absurd h0 he
theorem outN_form {p : Int} {vs : List V} {a : NN} (hc : ∀ v ∈ vs, v.code = 0) (hl : vs.length ≤ 60) (h : (outN p vs).1 = some a) : formN a = true ∧ (outN p vs).2 = 0 := by
  unfold outN at h ⊢
  by_cases h11 : p = 11
  · rw [if_pos h11] at h ⊢
    injection h with h
    subst h
    refine ⟨?_, rfl⟩
    show formB false vs.length ((0 : Nat) : Int) = true
    exact form_mk (by omega) (by omega) (fun _ h => by cases h) (fun h => absurd rfl h)
  · rw [if_neg h11] at h ⊢
    cases vs with
    | nil => cases h
    | cons v0 r =>
      simp only at h ⊢
      by_cases hall : ((v0 :: r).all fun v => v.kind == 2) = true
      · rw [if_pos hall] at h ⊢
        simp only at h ⊢
        by_cases h0 : (foldN p (numV v0) (r.map numV)).2 = 0
        · rw [if_pos h0] at h
          injection h with h
          have hk : ∀ v ∈ v0 :: r, v.kind = 2 := fun v hv => by have := List.all_eq_true.1 hall v hv; simpa using this
          refine ⟨?_, h0⟩
          rw [← h]
          refine foldN_form (num_of (hc v0 (by simp)) (hk v0 (by simp))).2 (fun b hb => ?_) h0
          rw [List.mem_map] at hb
          obtain ⟨v, hv, rfl⟩ := hb
          exact (num_of (hc v (by simp [hv])) (hk v (by simp [hv]))).2
        · rw [if_neg h0] at h; cases h
      · rw [if_neg hall] at h; cases h
/-- null's cells -/
abbrev ZC (pl : Option Addr) (cl : Nat) (pn : Option Addr) (cn : Nat) : Value := .agg #[.int .i64 0, .bool false, .bool false, .int .u64 0, .int .u64 0, .int .i64 0, .string ⟨#[]⟩, .int .i64 0, .slice pl 0 cl, .slice pn 0 cn]
def NumY (o : Option NN) (x : Value) : Prop := match o with
  | some a => ∃ pl cl pn cn, x = NC a pl cl pn cn
  | none => ∃ pl cl pn cn, x = ZC pl cl pn cn
def NumR (o : Option NN × Int) (w : World) (e : Ending) (w' : World) : Prop := ∃ x, e = .returned (.tuple #[x, .int .i64 o.2]) ∧ Below w.heap.size w w' ∧ NumY o.1 x
def zeroW : V := .mk 0 false false 0 0 ⟨#[]⟩ 0 [] []
theorem zeroW_at (n : Nat) (w : World) : zeroW.At n w ZV := by
  unfold zeroW V.At
  exact ⟨.slice none 0 0, .slice none 0 0, rfl, ⟨by decide, by decide, by simp, by simp⟩, .inl ⟨rfl, none, 0, rfl⟩, .inl ⟨rfl, none, 0, rfl⟩, by simp⟩
theorem zeroW_code : zeroW.code = 0 := by
  apply code_form
  · unfold zeroW V.count countL; omega
  · unfold zeroW V.depth depthL; omega
  · unfold zeroW V.form
    rw [Bool.and_eq_true, Bool.and_eq_true]
    refine ⟨by unfold bareB; simp; rfl, ?_, by unfold formL; rfl⟩
    unfold soundB
    simp
theorem numW_at {a : NN} (h : formN a = true) (n : Nat) (w : World) (pl : Option Addr) (cl : Nat) (pn : Option Addr) (cn : Nat) : (numW a).At n w (NC a pl cl pn cn) := by
  obtain ⟨S, -, -, hc, -⟩ := form_open h
  unfold numW V.At
  exact ⟨.slice pl 0 cl, .slice pn 0 cn, rfl, ⟨lt34_top2 hc, by show (0 : Nat) ≤ 1048576; omega, by simp, by simp⟩, .inl ⟨rfl, pl, cl, rfl⟩, .inl ⟨rfl, pn, cn, rfl⟩, by simp⟩
theorem few_map (vs : List V) (h : vs.length ≤ 1048576) : Few (vs.map fun v => [v]) := ⟨by rw [List.length_map]; exact h, fun l hl => by
  rw [List.mem_map] at hl
  obtain ⟨v, -, rfl⟩ := hl
  simp⟩
set_option maxRecDepth 100000 in
set_option maxHeartbeats 16000000 in
theorem decide_form (p : Int) (hp : 8 ≤ p ∧ p ≤ 11) (n : Nat) (w : World) (ns : List ByteArray) (O R : List (List V)) (T : List V) (nv ov rv tv : Value) (hN : SRdS w nv ns) (hO : WSl n w O ov) (hR : WSl n w R rv) (hX : VSl n w T tv) (fN : ns.length ≤ 1048576) (fO : Few O) (fR : Few R) (fT : T.length ≤ 1048576) (hnw : n ≤ w.heap.size) (hT : Tens w) (hU : Tabs w) (hF : formH ns O R T = true) (h1 : ns.length = 1) :
    Calls Tryz.prog 9 #[.int .i64 p, nv, ov, rv, tv] w fun e w' => NumR (outN p (valsN R T)) w e w' := by
  obtain ⟨e1, hRows, hR60, hTl, hTok⟩ := formH_open hF
  have hRH : R = (heads R).map fun v => [v] := heads_one fun l hl => by rw [(hRows l hl).1, h1]
  have hHc : ∀ v ∈ heads R, v.code = 0 := fun v hv => by
    have h9 := hRows [v] (by rw [hRH]; exact List.mem_map.2 ⟨v, hv, rfl⟩)
    exact okB_all h9.2 v (by simp)
  have hvc : ∀ v ∈ valsN R T, v.code = 0 := fun v hv => by
    unfold valsN at hv
    split at hv
    · exact okB_all hTok v hv
    · exact hHc v hv
  have hvl : (valsN R T).length ≤ 60 := by
    unfold valsN
    split
    · omega
    · have : R.length = (heads R).length := by
        have := congrArg List.length hRH
        rwa [List.length_map] at this
      omega
  have HOF := Lib.hid (fun a (h : (outN p (valsN R T)).1 = some a) => outN_form hvc hvl h)
  have HIF := Lib.hid (show ∀ w1, Below w.heap.size w w1 → Calls Tryz.prog 16 #[nv, ov, rv, tv] w1 fun e w' => e = .returned (.bool true) ∧ Below w1.heap.size w1 w' from fun w1 hb => by
    have := inForm_any n w1 ns O R T nv ov rv tv (hN.below hb) (hO.below (hb.mono hnw)) (hR.below (hb.mono hnw)) (hX.below (hb.mono hnw)) fN fO fR fT (Nat.le_trans hnw hb.size) (hT.below hb) (hU.below hb)
    rw [hF] at this; exact this)
  have HIP := Lib.hid (show ∀ w1, Calls Tryz.prog 15 #[.int .i64 p] w1 fun e w' => e = .returned (.bool true) ∧ w' = w1 from fun w1 => by
    have := isPolicy_any p w1
    rw [show polB p = true by unfold polB; rw [decide_eq_true (by omega), decide_eq_true (by omega)]; rfl] at this
    exact this)
  have HCZ := Lib.hid (show ∀ w1, Below w.heap.size w w1 → Calls Tryz.prog 18 #[ZV] w1 fun e w' => e = .returned (.int .i64 0) ∧ Below w1.heap.size w1 w' from fun w1 hb => by
    have := vcheck_any zeroW w1.heap.size w1 ZV (zeroW_at _ _) (Nat.le_refl _) (hT.below hb) (hU.below hb)
    rw [zeroW_code] at this; exact this)
  have HCN := Lib.hid (show ∀ a, formN a = true → ∀ pl cl pn cn w1, Below w.heap.size w w1 → Calls Tryz.prog 18 #[NC a pl cl pn cn] w1 fun e w' => e = .returned (.int .i64 0) ∧ Below w1.heap.size w1 w' from fun a ha pl cl pn cn w1 hb => by
    have := vcheck_any (numW a) w1.heap.size w1 _ (numW_at ha _ _ pl cl pn cn) (Nat.le_refl _) (hT.below hb) (hU.below hb)
    rw [numW_code ha] at this; exact this)
  have HCL := Lib.hid (fun k an x3 x4 az pl cl pn cn w => clone_flat k an x3 x4 az pl cl pn cn w)
  have HD1 := Lib.hid (show R = [] → ∀ w1 G, Below w.heap.size w w1 → w1.cell? ⟨G, 0, none⟩ = some tv → T.length = 1 → Calls Tryz.prog 17 #[.agg #[nv, ov, .slice (some ⟨G, 0, none⟩) 1 1], .int .i64 p] w1 fun e w' => NumQ (outN p (valsN R T)) w1 e w' from fun hR0 w1 G hb hc hT1 => by
    obtain ⟨t, ht⟩ := List.length_eq_one_iff.1 hT1
    have hv : valsN R T = [t] := by unfold valsN; rw [if_pos hR0, ht]
    rw [hv] at hvc ⊢
    have hG := World.block_lt_of_cell? w1 _ hc
    have hX1 : VSl w1.heap.size w1 [t] tv := by rw [← ht]; exact (hX.below (hb.mono hnw)).more (Nat.le_trans hnw hb.size)
    obtain ⟨pn, cn, hnv, -⟩ := hN
    obtain ⟨po, co, hov⟩ := hO.shape
    refine decide_num p hp w1.heap.size w1 [t] nv ov _ ⟨_, _, _, hnv⟩ ⟨_, _, _, hov⟩ (.inr ⟨G, 0, 1, rfl, Nat.le_refl _, hG, hG, fun i hi => ?_⟩) (few_map [t] (by simp)) hvc (Nat.le_refl _) (hT.below hb)
    have hi0 : i = 0 := by simp at hi; exact hi
    subst hi0
    exact ⟨tv, hc, hX1⟩)
  have HD2 := Lib.hid (show (R = [] → T = []) → ∀ w1, Below w.heap.size w w1 → Calls Tryz.prog 17 #[.agg #[nv, ov, rv], .int .i64 p] w1 fun e w' => NumQ (outN p (valsN R T)) w1 e w' from fun hRT w1 hb => by
    have hv : valsN R T = heads R := by
      unfold valsN
      split
      · rename_i h9
        rw [hRT h9, h9]; rfl
      · rfl
    rw [hv] at hvc hvl ⊢
    obtain ⟨pn, cn, hnv, -⟩ := hN
    obtain ⟨po, co, hov⟩ := hO.shape
    refine decide_num p hp n w1 (heads R) nv ov rv ⟨_, _, _, hnv⟩ ⟨_, _, _, hov⟩ ?_ (few_map _ (by omega)) hvc (Nat.le_trans hnw hb.size) (hT.below hb)
    rw [← hRH]
    exact hR.below (hb.mono hnw))
  obtain ⟨pn, cn, hnv, -⟩ := hN
  obtain ⟨po, co, hov⟩ := hO.shape
  obtain ⟨pr, cr, hrv⟩ := hR.shape
  obtain ⟨pt, ct, htv⟩ := hX.shape
  have h8 : (8 : Int) ≤ p := hp.1
  obtain ⟨r, hr⟩ : ∃ r, r = outN p (valsN R T) := ⟨_, rfl⟩
  rw [← hr] at HD1 HD2 HOF ⊢
  obtain ⟨ro, re⟩ := r
  rw [h1] at hnv
  obtain ⟨mo, hmo⟩ : ∃ m, m = O.length := ⟨_, rfl⟩
  rw [← hmo] at hov
  have HTL := Lib.hid hTl
  have H1 := Lib.hid h1
  clear hO fN fO fR fT hT hU hF e1 hRows hTok hRH hHc hvc hvl hr hmo hp hTl h1 hnw hX hR
  by_cases hR0 : R = []
  · have hr0 : R.length = 0 := by rw [hR0]; rfl
    rw [hr0] at hrv
    by_cases hT0 : T = []
    · have ht0 : T.length = 0 := by rw [hT0]; rfl
      rw [ht0] at htv
      have HD := Lib.hid (HD2.out (fun _ => hT0))
      clear HD1 HD2 hR60 hr0 ht0 hR0 hT0
      subst hnv hov hrv htv
      cases ro with
      | none =>
        by_cases he : re = 0
        · subst he
          go_enter Tryz.func9, Tryz.ntmps9
          go_wp2_with (first
            | (go_at_call 15; ((with_reducible refine (HIP.out _).mono ?_); rintro e w1 ⟨rfl, rfl⟩))
            | (go_at_call 16; ((with_reducible refine (HIF.out _ (by (repeat' (first | (with_reducible exact Below.refl _ _) | (with_reducible assumption) | (with_reducible refine Below.alloc ?_ ?_ _) | (with_reducible refine below_drewN ?_ _) | (with_reducible refine below_drew ?_) | (with_reducible refine below_ext ?_ ?_ _ _) | (with_reducible refine Below.setCell ?_ ?_ _) | (simp; done) | (simp; omega) | omega)))).mono ?_); rintro e w1 ⟨rfl, hb1⟩; obtain ⟨osA, dA, rfl⟩ := ext_of_below hb1; clear hb1))
            | (go_at_call 17; ((with_reducible refine (HD.out _ (by (repeat' (first | (with_reducible exact Below.refl _ _) | (with_reducible assumption) | (with_reducible refine Below.alloc ?_ ?_ _) | (with_reducible refine below_drewN ?_ _) | (with_reducible refine below_drew ?_) | (with_reducible refine below_ext ?_ ?_ _ _) | (with_reducible refine Below.setCell ?_ ?_ _) | (simp; done) | (simp; omega) | omega)))).mono ?_); rintro e w1 ⟨x, rfl, hb1, hx⟩; obtain rfl := (show x = ZV from hx); obtain ⟨osC, dC, rfl⟩ := ext_of_below hb1; clear hb1 hx))
            | (go_at_call 18; ((with_reducible refine (HCZ.out _ (by (repeat' (first | (with_reducible exact Below.refl _ _) | (with_reducible assumption) | (with_reducible refine Below.alloc ?_ ?_ _) | (with_reducible refine below_drewN ?_ _) | (with_reducible refine below_drew ?_) | (with_reducible refine below_ext ?_ ?_ _ _) | (with_reducible refine Below.setCell ?_ ?_ _) | (simp; done) | (simp; omega) | omega)))).mono ?_); rintro e w1 ⟨rfl, hb1⟩; obtain ⟨osD, dD, rfl⟩ := ext_of_below hb1; clear hb1))
            | (go_at_call 19; ((with_reducible refine (HCL.out _ _ _ _ _ _ _ _ _ _).mono ?_); rintro e w1 ⟨⟨el, en, rfl⟩, hb1⟩; obtain ⟨osE, dE, rfl⟩ := ext_of_below hb1; clear hb1)))
          go_returns
          exact (show ∃ x, _ from ⟨_, rfl, by (repeat' (first | (with_reducible exact Below.refl _ _) | (with_reducible assumption) | (with_reducible refine Below.alloc ?_ ?_ _) | (with_reducible refine below_drewN ?_ _) | (with_reducible refine below_drew ?_) | (with_reducible refine below_ext ?_ ?_ _ _) | (with_reducible refine Below.setCell ?_ ?_ _) | (simp; done) | (simp; omega) | omega)), ⟨el, 0, en, 0, rfl⟩⟩)
        · have he2 : (re == 0) = false := beq_eq_false_iff_ne.2 he
          have he3 : (re != 0) = true := by rw [bne_iff_ne]; exact he
          go_enter Tryz.func9, Tryz.ntmps9
          go_wp2_with (first
            | (go_at_call 15; ((with_reducible refine (HIP.out _).mono ?_); rintro e w1 ⟨rfl, rfl⟩))
            | (go_at_call 16; ((with_reducible refine (HIF.out _ (by (repeat' (first | (with_reducible exact Below.refl _ _) | (with_reducible assumption) | (with_reducible refine Below.alloc ?_ ?_ _) | (with_reducible refine below_drewN ?_ _) | (with_reducible refine below_drew ?_) | (with_reducible refine below_ext ?_ ?_ _ _) | (with_reducible refine Below.setCell ?_ ?_ _) | (simp; done) | (simp; omega) | omega)))).mono ?_); rintro e w1 ⟨rfl, hb1⟩; obtain ⟨osA, dA, rfl⟩ := ext_of_below hb1; clear hb1))
            | (go_at_call 17; ((with_reducible refine (HD.out _ (by (repeat' (first | (with_reducible exact Below.refl _ _) | (with_reducible assumption) | (with_reducible refine Below.alloc ?_ ?_ _) | (with_reducible refine below_drewN ?_ _) | (with_reducible refine below_drew ?_) | (with_reducible refine below_ext ?_ ?_ _ _) | (with_reducible refine Below.setCell ?_ ?_ _) | (simp; done) | (simp; omega) | omega)))).mono ?_); rintro e w1 ⟨x, rfl, hb1, hx⟩; obtain rfl := (show x = ZV from hx); obtain ⟨osC, dC, rfl⟩ := ext_of_below hb1; clear hb1 hx)))
          go_returns
          exact (show ∃ x, _ from ⟨_, rfl, by (repeat' (first | (with_reducible exact Below.refl _ _) | (with_reducible assumption) | (with_reducible refine Below.alloc ?_ ?_ _) | (with_reducible refine below_drewN ?_ _) | (with_reducible refine below_drew ?_) | (with_reducible refine below_ext ?_ ?_ _ _) | (with_reducible refine Below.setCell ?_ ?_ _) | (simp; done) | (simp; omega) | omega)), ⟨none, 0, none, 0, rfl⟩⟩)
      | some a =>
        obtain ⟨ha, he⟩ := HOF.out a rfl
        obtain rfl : re = 0 := he
        have HCN2 := Lib.hid (HCN.out a ha)
        obtain ⟨an, ac, az⟩ := a
        clear ha HCN
        go_enter Tryz.func9, Tryz.ntmps9
        go_wp2_with (first
          | (go_at_call 15; ((with_reducible refine (HIP.out _).mono ?_); rintro e w1 ⟨rfl, rfl⟩))
          | (go_at_call 16; ((with_reducible refine (HIF.out _ (by (repeat' (first | (with_reducible exact Below.refl _ _) | (with_reducible assumption) | (with_reducible refine Below.alloc ?_ ?_ _) | (with_reducible refine below_drewN ?_ _) | (with_reducible refine below_drew ?_) | (with_reducible refine below_ext ?_ ?_ _ _) | (with_reducible refine Below.setCell ?_ ?_ _) | (simp; done) | (simp; omega) | omega)))).mono ?_); rintro e w1 ⟨rfl, hb1⟩; obtain ⟨osA, dA, rfl⟩ := ext_of_below hb1; clear hb1))
          | (go_at_call 17; ((with_reducible refine (HD.out _ (by (repeat' (first | (with_reducible exact Below.refl _ _) | (with_reducible assumption) | (with_reducible refine Below.alloc ?_ ?_ _) | (with_reducible refine below_drewN ?_ _) | (with_reducible refine below_drew ?_) | (with_reducible refine below_ext ?_ ?_ _ _) | (with_reducible refine Below.setCell ?_ ?_ _) | (simp; done) | (simp; omega) | omega)))).mono ?_); rintro e w1 ⟨x, rfl, hb1, hx⟩; obtain ⟨ql, dl, qn, dn, rfl⟩ := (show ∃ pl cl pn cn, x = NC (an, ac, az) pl cl pn cn from hx); obtain ⟨osC, dC, rfl⟩ := ext_of_below hb1; clear hb1 hx))
          | (go_at_call 18; ((with_reducible refine (HCN2.out _ _ _ _ _ (by (repeat' (first | (with_reducible exact Below.refl _ _) | (with_reducible assumption) | (with_reducible refine Below.alloc ?_ ?_ _) | (with_reducible refine below_drewN ?_ _) | (with_reducible refine below_drew ?_) | (with_reducible refine below_ext ?_ ?_ _ _) | (with_reducible refine Below.setCell ?_ ?_ _) | (simp; done) | (simp; omega) | omega)))).mono ?_); rintro e w1 ⟨rfl, hb1⟩; obtain ⟨osD, dD, rfl⟩ := ext_of_below hb1; clear hb1))
          | (go_at_call 19; ((with_reducible refine (HCL.out _ _ _ _ _ _ _ _ _ _).mono ?_); rintro e w1 ⟨⟨el, en, rfl⟩, hb1⟩; obtain ⟨osE, dE, rfl⟩ := ext_of_below hb1; clear hb1)))
        go_returns
        exact (show ∃ x, _ from ⟨_, rfl, by (repeat' (first | (with_reducible exact Below.refl _ _) | (with_reducible assumption) | (with_reducible refine Below.alloc ?_ ?_ _) | (with_reducible refine below_drewN ?_ _) | (with_reducible refine below_drew ?_) | (with_reducible refine below_ext ?_ ?_ _ _) | (with_reducible refine Below.setCell ?_ ?_ _) | (simp; done) | (simp; omega) | omega)), ⟨el, 0, en, 0, rfl⟩⟩)
    · have ht1 : T.length = 1 := by
        rcases HTL.out with h | h
        · exact absurd (List.length_eq_zero_iff.1 h) hT0
        · rw [h]; exact H1.out
      rw [ht1] at htv
      have HD := Lib.hid (fun w1 G hb hc => HD1.out hR0 w1 G hb hc ht1)
      clear HD1 HD2 hR60 hr0 ht1 hR0 hT0
      subst hnv hov hrv htv
      cases ro with
      | none =>
        by_cases he : re = 0
        · subst he
          go_enter Tryz.func9, Tryz.ntmps9
          go_wp2_with (first
            | (go_at_call 15; ((with_reducible refine (HIP.out _).mono ?_); rintro e w1 ⟨rfl, rfl⟩))
            | (go_at_call 16; ((with_reducible refine (HIF.out _ (by (repeat' (first | (with_reducible exact Below.refl _ _) | (with_reducible assumption) | (with_reducible refine Below.alloc ?_ ?_ _) | (with_reducible refine below_drewN ?_ _) | (with_reducible refine below_drew ?_) | (with_reducible refine below_ext ?_ ?_ _ _) | (with_reducible refine Below.setCell ?_ ?_ _) | (simp; done) | (simp; omega) | omega)))).mono ?_); rintro e w1 ⟨rfl, hb1⟩; obtain ⟨osA, dA, rfl⟩ := ext_of_below hb1; clear hb1))
            | (go_at_call 17; ((with_reducible refine (HD.out _ _ (by (repeat' (first | (with_reducible exact Below.refl _ _) | (with_reducible assumption) | (with_reducible refine Below.alloc ?_ ?_ _) | (with_reducible refine below_drewN ?_ _) | (with_reducible refine below_drew ?_) | (with_reducible refine below_ext ?_ ?_ _ _) | (with_reducible refine Below.setCell ?_ ?_ _) | (simp; done) | (simp; omega) | omega))) (by first | (simp [go_sem]; done) | (simp [go_sem]; rfl))).mono ?_); rintro e w1 ⟨x, rfl, hb1, hx⟩; obtain rfl := (show x = ZV from hx); obtain ⟨osC, dC, rfl⟩ := ext_of_below hb1; clear hb1 hx))
            | (go_at_call 18; ((with_reducible refine (HCZ.out _ (by (repeat' (first | (with_reducible exact Below.refl _ _) | (with_reducible assumption) | (with_reducible refine Below.alloc ?_ ?_ _) | (with_reducible refine below_drewN ?_ _) | (with_reducible refine below_drew ?_) | (with_reducible refine below_ext ?_ ?_ _ _) | (with_reducible refine Below.setCell ?_ ?_ _) | (simp; done) | (simp; omega) | omega)))).mono ?_); rintro e w1 ⟨rfl, hb1⟩; obtain ⟨osD, dD, rfl⟩ := ext_of_below hb1; clear hb1))
            | (go_at_call 19; ((with_reducible refine (HCL.out _ _ _ _ _ _ _ _ _ _).mono ?_); rintro e w1 ⟨⟨el, en, rfl⟩, hb1⟩; obtain ⟨osE, dE, rfl⟩ := ext_of_below hb1; clear hb1)))
          go_returns
          exact (show ∃ x, _ from ⟨_, rfl, by (repeat' (first | (with_reducible exact Below.refl _ _) | (with_reducible assumption) | (with_reducible refine Below.alloc ?_ ?_ _) | (with_reducible refine below_drewN ?_ _) | (with_reducible refine below_drew ?_) | (with_reducible refine below_ext ?_ ?_ _ _) | (with_reducible refine Below.setCell ?_ ?_ _) | (simp; done) | (simp; omega) | omega)), ⟨el, 0, en, 0, rfl⟩⟩)
        · have he2 : (re == 0) = false := beq_eq_false_iff_ne.2 he
          have he3 : (re != 0) = true := by rw [bne_iff_ne]; exact he
          go_enter Tryz.func9, Tryz.ntmps9
          go_wp2_with (first
            | (go_at_call 15; ((with_reducible refine (HIP.out _).mono ?_); rintro e w1 ⟨rfl, rfl⟩))
            | (go_at_call 16; ((with_reducible refine (HIF.out _ (by (repeat' (first | (with_reducible exact Below.refl _ _) | (with_reducible assumption) | (with_reducible refine Below.alloc ?_ ?_ _) | (with_reducible refine below_drewN ?_ _) | (with_reducible refine below_drew ?_) | (with_reducible refine below_ext ?_ ?_ _ _) | (with_reducible refine Below.setCell ?_ ?_ _) | (simp; done) | (simp; omega) | omega)))).mono ?_); rintro e w1 ⟨rfl, hb1⟩; obtain ⟨osA, dA, rfl⟩ := ext_of_below hb1; clear hb1))
            | (go_at_call 17; ((with_reducible refine (HD.out _ _ (by (repeat' (first | (with_reducible exact Below.refl _ _) | (with_reducible assumption) | (with_reducible refine Below.alloc ?_ ?_ _) | (with_reducible refine below_drewN ?_ _) | (with_reducible refine below_drew ?_) | (with_reducible refine below_ext ?_ ?_ _ _) | (with_reducible refine Below.setCell ?_ ?_ _) | (simp; done) | (simp; omega) | omega))) (by first | (simp [go_sem]; done) | (simp [go_sem]; rfl))).mono ?_); rintro e w1 ⟨x, rfl, hb1, hx⟩; obtain rfl := (show x = ZV from hx); obtain ⟨osC, dC, rfl⟩ := ext_of_below hb1; clear hb1 hx)))
          go_returns
          exact (show ∃ x, _ from ⟨_, rfl, by (repeat' (first | (with_reducible exact Below.refl _ _) | (with_reducible assumption) | (with_reducible refine Below.alloc ?_ ?_ _) | (with_reducible refine below_drewN ?_ _) | (with_reducible refine below_drew ?_) | (with_reducible refine below_ext ?_ ?_ _ _) | (with_reducible refine Below.setCell ?_ ?_ _) | (simp; done) | (simp; omega) | omega)), ⟨none, 0, none, 0, rfl⟩⟩)
      | some a =>
        obtain ⟨ha, he⟩ := HOF.out a rfl
        obtain rfl : re = 0 := he
        have HCN2 := Lib.hid (HCN.out a ha)
        obtain ⟨an, ac, az⟩ := a
        clear ha HCN
        go_enter Tryz.func9, Tryz.ntmps9
        go_wp2_with (first
          | (go_at_call 15; ((with_reducible refine (HIP.out _).mono ?_); rintro e w1 ⟨rfl, rfl⟩))
          | (go_at_call 16; ((with_reducible refine (HIF.out _ (by (repeat' (first | (with_reducible exact Below.refl _ _) | (with_reducible assumption) | (with_reducible refine Below.alloc ?_ ?_ _) | (with_reducible refine below_drewN ?_ _) | (with_reducible refine below_drew ?_) | (with_reducible refine below_ext ?_ ?_ _ _) | (with_reducible refine Below.setCell ?_ ?_ _) | (simp; done) | (simp; omega) | omega)))).mono ?_); rintro e w1 ⟨rfl, hb1⟩; obtain ⟨osA, dA, rfl⟩ := ext_of_below hb1; clear hb1))
          | (go_at_call 17; ((with_reducible refine (HD.out _ _ (by (repeat' (first | (with_reducible exact Below.refl _ _) | (with_reducible assumption) | (with_reducible refine Below.alloc ?_ ?_ _) | (with_reducible refine below_drewN ?_ _) | (with_reducible refine below_drew ?_) | (with_reducible refine below_ext ?_ ?_ _ _) | (with_reducible refine Below.setCell ?_ ?_ _) | (simp; done) | (simp; omega) | omega))) (by first | (simp [go_sem]; done) | (simp [go_sem]; rfl))).mono ?_); rintro e w1 ⟨x, rfl, hb1, hx⟩; obtain ⟨ql, dl, qn, dn, rfl⟩ := (show ∃ pl cl pn cn, x = NC (an, ac, az) pl cl pn cn from hx); obtain ⟨osC, dC, rfl⟩ := ext_of_below hb1; clear hb1 hx))
          | (go_at_call 18; ((with_reducible refine (HCN2.out _ _ _ _ _ (by (repeat' (first | (with_reducible exact Below.refl _ _) | (with_reducible assumption) | (with_reducible refine Below.alloc ?_ ?_ _) | (with_reducible refine below_drewN ?_ _) | (with_reducible refine below_drew ?_) | (with_reducible refine below_ext ?_ ?_ _ _) | (with_reducible refine Below.setCell ?_ ?_ _) | (simp; done) | (simp; omega) | omega)))).mono ?_); rintro e w1 ⟨rfl, hb1⟩; obtain ⟨osD, dD, rfl⟩ := ext_of_below hb1; clear hb1))
          | (go_at_call 19; ((with_reducible refine (HCL.out _ _ _ _ _ _ _ _ _ _).mono ?_); rintro e w1 ⟨⟨el, en, rfl⟩, hb1⟩; obtain ⟨osE, dE, rfl⟩ := ext_of_below hb1; clear hb1)))
        go_returns
        exact (show ∃ x, _ from ⟨_, rfl, by (repeat' (first | (with_reducible exact Below.refl _ _) | (with_reducible assumption) | (with_reducible refine Below.alloc ?_ ?_ _) | (with_reducible refine below_drewN ?_ _) | (with_reducible refine below_drew ?_) | (with_reducible refine below_ext ?_ ?_ _ _) | (with_reducible refine Below.setCell ?_ ?_ _) | (simp; done) | (simp; omega) | omega)), ⟨el, 0, en, 0, rfl⟩⟩)
  · have hr1 : R.length ≠ 0 := fun h => hR0 (List.length_eq_zero_iff.1 h)
    have HD := Lib.hid (HD2.out (fun h => absurd h hR0))
    obtain ⟨mr, hmr⟩ : ∃ m, m = R.length := ⟨_, rfl⟩
    rw [← hmr] at hrv hr1 hR60
    obtain ⟨mt, hmt⟩ : ∃ m, m = T.length := ⟨_, rfl⟩
    rw [← hmt] at htv
    have hr2 : ((mr : Int) == 0) = false := beq_eq_false_iff_ne.2 (by omega)
    have hr3 : ¬ (mr : Int) = 0 := by omega
    clear HD1 HD2 hR0 hmr hmt
    subst hnv hov hrv htv
    cases ro with
    | none =>
      by_cases he : re = 0
      · subst he
        go_enter Tryz.func9, Tryz.ntmps9
        go_wp2_with (first
          | (go_at_call 15; ((with_reducible refine (HIP.out _).mono ?_); rintro e w1 ⟨rfl, rfl⟩))
          | (go_at_call 16; ((with_reducible refine (HIF.out _ (by (repeat' (first | (with_reducible exact Below.refl _ _) | (with_reducible assumption) | (with_reducible refine Below.alloc ?_ ?_ _) | (with_reducible refine below_drewN ?_ _) | (with_reducible refine below_drew ?_) | (with_reducible refine below_ext ?_ ?_ _ _) | (with_reducible refine Below.setCell ?_ ?_ _) | (simp; done) | (simp; omega) | omega)))).mono ?_); rintro e w1 ⟨rfl, hb1⟩; obtain ⟨osA, dA, rfl⟩ := ext_of_below hb1; clear hb1))
          | (go_at_call 17; ((with_reducible refine (HD.out _ (by (repeat' (first | (with_reducible exact Below.refl _ _) | (with_reducible assumption) | (with_reducible refine Below.alloc ?_ ?_ _) | (with_reducible refine below_drewN ?_ _) | (with_reducible refine below_drew ?_) | (with_reducible refine below_ext ?_ ?_ _ _) | (with_reducible refine Below.setCell ?_ ?_ _) | (simp; done) | (simp; omega) | omega)))).mono ?_); rintro e w1 ⟨x, rfl, hb1, hx⟩; obtain rfl := (show x = ZV from hx); obtain ⟨osC, dC, rfl⟩ := ext_of_below hb1; clear hb1 hx))
          | (go_at_call 18; ((with_reducible refine (HCZ.out _ (by (repeat' (first | (with_reducible exact Below.refl _ _) | (with_reducible assumption) | (with_reducible refine Below.alloc ?_ ?_ _) | (with_reducible refine below_drewN ?_ _) | (with_reducible refine below_drew ?_) | (with_reducible refine below_ext ?_ ?_ _ _) | (with_reducible refine Below.setCell ?_ ?_ _) | (simp; done) | (simp; omega) | omega)))).mono ?_); rintro e w1 ⟨rfl, hb1⟩; obtain ⟨osD, dD, rfl⟩ := ext_of_below hb1; clear hb1))
          | (go_at_call 19; ((with_reducible refine (HCL.out _ _ _ _ _ _ _ _ _ _).mono ?_); rintro e w1 ⟨⟨el, en, rfl⟩, hb1⟩; obtain ⟨osE, dE, rfl⟩ := ext_of_below hb1; clear hb1)))
        go_returns
        exact (show ∃ x, _ from ⟨_, rfl, by (repeat' (first | (with_reducible exact Below.refl _ _) | (with_reducible assumption) | (with_reducible refine Below.alloc ?_ ?_ _) | (with_reducible refine below_drewN ?_ _) | (with_reducible refine below_drew ?_) | (with_reducible refine below_ext ?_ ?_ _ _) | (with_reducible refine Below.setCell ?_ ?_ _) | (simp; done) | (simp; omega) | omega)), ⟨el, 0, en, 0, rfl⟩⟩)
      · have he2 : (re == 0) = false := beq_eq_false_iff_ne.2 he
        have he3 : (re != 0) = true := by rw [bne_iff_ne]; exact he
        go_enter Tryz.func9, Tryz.ntmps9
        go_wp2_with (first
          | (go_at_call 15; ((with_reducible refine (HIP.out _).mono ?_); rintro e w1 ⟨rfl, rfl⟩))
          | (go_at_call 16; ((with_reducible refine (HIF.out _ (by (repeat' (first | (with_reducible exact Below.refl _ _) | (with_reducible assumption) | (with_reducible refine Below.alloc ?_ ?_ _) | (with_reducible refine below_drewN ?_ _) | (with_reducible refine below_drew ?_) | (with_reducible refine below_ext ?_ ?_ _ _) | (with_reducible refine Below.setCell ?_ ?_ _) | (simp; done) | (simp; omega) | omega)))).mono ?_); rintro e w1 ⟨rfl, hb1⟩; obtain ⟨osA, dA, rfl⟩ := ext_of_below hb1; clear hb1))
          | (go_at_call 17; ((with_reducible refine (HD.out _ (by (repeat' (first | (with_reducible exact Below.refl _ _) | (with_reducible assumption) | (with_reducible refine Below.alloc ?_ ?_ _) | (with_reducible refine below_drewN ?_ _) | (with_reducible refine below_drew ?_) | (with_reducible refine below_ext ?_ ?_ _ _) | (with_reducible refine Below.setCell ?_ ?_ _) | (simp; done) | (simp; omega) | omega)))).mono ?_); rintro e w1 ⟨x, rfl, hb1, hx⟩; obtain rfl := (show x = ZV from hx); obtain ⟨osC, dC, rfl⟩ := ext_of_below hb1; clear hb1 hx)))
        go_returns
        exact (show ∃ x, _ from ⟨_, rfl, by (repeat' (first | (with_reducible exact Below.refl _ _) | (with_reducible assumption) | (with_reducible refine Below.alloc ?_ ?_ _) | (with_reducible refine below_drewN ?_ _) | (with_reducible refine below_drew ?_) | (with_reducible refine below_ext ?_ ?_ _ _) | (with_reducible refine Below.setCell ?_ ?_ _) | (simp; done) | (simp; omega) | omega)), ⟨none, 0, none, 0, rfl⟩⟩)
    | some a =>
      obtain ⟨ha, he⟩ := HOF.out a rfl
      obtain rfl : re = 0 := he
      have HCN2 := Lib.hid (HCN.out a ha)
      obtain ⟨an, ac, az⟩ := a
      clear ha HCN
      go_enter Tryz.func9, Tryz.ntmps9
      go_wp2_with (first
        | (go_at_call 15; ((with_reducible refine (HIP.out _).mono ?_); rintro e w1 ⟨rfl, rfl⟩))
        | (go_at_call 16; ((with_reducible refine (HIF.out _ (by (repeat' (first | (with_reducible exact Below.refl _ _) | (with_reducible assumption) | (with_reducible refine Below.alloc ?_ ?_ _) | (with_reducible refine below_drewN ?_ _) | (with_reducible refine below_drew ?_) | (with_reducible refine below_ext ?_ ?_ _ _) | (with_reducible refine Below.setCell ?_ ?_ _) | (simp; done) | (simp; omega) | omega)))).mono ?_); rintro e w1 ⟨rfl, hb1⟩; obtain ⟨osA, dA, rfl⟩ := ext_of_below hb1; clear hb1))
        | (go_at_call 17; ((with_reducible refine (HD.out _ (by (repeat' (first | (with_reducible exact Below.refl _ _) | (with_reducible assumption) | (with_reducible refine Below.alloc ?_ ?_ _) | (with_reducible refine below_drewN ?_ _) | (with_reducible refine below_drew ?_) | (with_reducible refine below_ext ?_ ?_ _ _) | (with_reducible refine Below.setCell ?_ ?_ _) | (simp; done) | (simp; omega) | omega)))).mono ?_); rintro e w1 ⟨x, rfl, hb1, hx⟩; obtain ⟨ql, dl, qn, dn, rfl⟩ := (show ∃ pl cl pn cn, x = NC (an, ac, az) pl cl pn cn from hx); obtain ⟨osC, dC, rfl⟩ := ext_of_below hb1; clear hb1 hx))
        | (go_at_call 18; ((with_reducible refine (HCN2.out _ _ _ _ _ (by (repeat' (first | (with_reducible exact Below.refl _ _) | (with_reducible assumption) | (with_reducible refine Below.alloc ?_ ?_ _) | (with_reducible refine below_drewN ?_ _) | (with_reducible refine below_drew ?_) | (with_reducible refine below_ext ?_ ?_ _ _) | (with_reducible refine Below.setCell ?_ ?_ _) | (simp; done) | (simp; omega) | omega)))).mono ?_); rintro e w1 ⟨rfl, hb1⟩; obtain ⟨osD, dD, rfl⟩ := ext_of_below hb1; clear hb1))
        | (go_at_call 19; ((with_reducible refine (HCL.out _ _ _ _ _ _ _ _ _ _).mono ?_); rintro e w1 ⟨⟨el, en, rfl⟩, hb1⟩; obtain ⟨osE, dE, rfl⟩ := ext_of_below hb1; clear hb1)))
      go_returns
      exact (show ∃ x, _ from ⟨_, rfl, by (repeat' (first | (with_reducible exact Below.refl _ _) | (with_reducible assumption) | (with_reducible refine Below.alloc ?_ ?_ _) | (with_reducible refine below_drewN ?_ _) | (with_reducible refine below_drew ?_) | (with_reducible refine below_ext ?_ ?_ _ _) | (with_reducible refine Below.setCell ?_ ?_ _) | (simp; done) | (simp; omega) | omega)), ⟨el, 0, en, 0, rfl⟩⟩)
end Go.Proofs.YtjkallelniggpaaGreatDoor
