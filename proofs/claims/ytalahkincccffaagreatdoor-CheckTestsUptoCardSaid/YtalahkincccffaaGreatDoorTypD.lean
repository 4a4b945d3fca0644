/-
  The type of a list of parts, of a call of a function.
-/
import Derived.Test.YtalahkincccffaaGreatDoorTypB
namespace Go.Proofs.YtalahkincccffaaGreatDoor
open Go.RowKit Word Txt
attribute [local go_sem] setCell_drewN cell?_ext frozen?_ext shape?_ext setCell_ext lt_1' ne_1' en_1' le_1' lt_2' ne_2' en_2' le_2' lt_3' ne_3' en_3' le_3' lt_4' ne_4' en_4' le_4' lt_5' ne_5' en_5' le_5' lt_6' ne_6' en_6' le_6' lt_7' ne_7' en_7' le_7' lt_8' ne_8' en_8' le_8' lt_9' ne_9' en_9' le_9' lt_10' ne_10' en_10' le_10' lt_11' ne_11' en_11' le_11' lt_12' ne_12' en_12' le_12'

theorem rl_ty {n : Nat} {w w' : World} {p : Option Addr} {k c : Nat} {ts : List Ty} (h : RL 2 tpE n w (.slice p k c) ts) (hb : Below n w w') {i : Nat} (hi : i < ts.length) : ∃ g o x y, p = some ⟨g, o, none⟩ ∧ g < n ∧ ts[i] = (x, y) ∧ w'.cell? ⟨g, o + i * 2, none⟩ = some (.int .i64 x) ∧ w'.cell? ⟨g, o + i * 2 + 1, none⟩ = some (.int .i64 y) := by
  obtain ⟨p', c', e, h2⟩ := h
  injection e with e1 e2 e3
  subst e1
  obtain ⟨g, o, rfl, hg, hc⟩ := h2 (by omega)
  exact ⟨g, o, ts[i].1, ts[i].2, rfl, hg, rfl, (hb.cell (p := ⟨g, _, none⟩) hg).trans (hc i hi 0 _ rfl), (hb.cell (p := ⟨g, _, none⟩) hg).trans (hc i hi 1 _ rfl)⟩
theorem eqfM_len : ∀ {a b : List Ty}, a.length ≠ b.length → eqfM a b = false
  | [], [], h => absurd rfl h
  | [], _ :: _, _ => rfl
  | _ :: _, [], _ => rfl
  | _ :: r, _ :: s, h => by
    unfold eqfM
    rw [eqfM_len (a := r) (b := s) (by simpa using h), Bool.and_false]
set_option maxRecDepth 100000 in
set_option maxHeartbeats 4000000 in
theorem eqfT_any (a b : List Ty) (n : Nat) (w : World) (x y : Value) (hx : RL 2 tpE n w x a) (hy : RL 2 tpE n w y b) (hl : a.length ≤ 1000) (hn : n ≤ w.heap.size) (hG : TyG w) :
    Calls Tryz.prog 77 #[x, y, .func (.func 57) #[] #[]] w fun e w' => e = .returned (.bool (eqfM a b)) ∧ Below w.heap.size w w' := by
  obtain ⟨px, cx, rfl, -⟩ := id hx
  obtain ⟨py, cy, rfl, -⟩ := id hy
  by_cases hlen : a.length = b.length
  · have HX := Lib.hid (fun w' (hb : Below w.heap.size w w') i (hi : i < a.length) => rl_ty hx (hb.mono hn) hi)
    have HY := Lib.hid (fun w' (hb : Below w.heap.size w w') i (hi : i < b.length) => rl_ty hy (hb.mono hn) hi)
    have HM := Lib.hid (fun s t w' (hb : Below w.heap.size w w') => meets_any s t w' (hG.below hb))
    obtain ⟨len, hln⟩ : ∃ len, a.length = len := ⟨_, rfl⟩
    have HLN := Lib.hid hln
    have HLM := Lib.hid (show b.length = len by rw [← hlen, hln])
    rw [hln] at hl ⊢
    rw [← hlen, hln]
    obtain ⟨R, hR⟩ : ∃ R, R = eqfM a b := ⟨_, rfl⟩
    have HR := Lib.hid hR
    rw [← hR]
    clear hx hy hlen hln hG hR
    go_enter Tryz.func77, Tryz.ntmps77
    go_wp2
    go_loopw [17] (fun i wr => ∃ m : Nat, m ≤ len ∧ i = .int .i64 m ∧ Hid (Below w.heap.size w wr) ∧ Hid (eqfM (a.drop m) (b.drop m) = R)) (fun i _ => len - (intOf i).toNat)
    case atStart => exact ⟨0, by omega, rfl, Lib.hid (Below.refl _ _), Lib.hid HR.out.symm⟩
    case round =>
      obtain ⟨m, hm, rfl, hbw, hro⟩ := hrel
      have hsw := hbw.out.size
      by_cases hml : m < len
      · have hi : (m : Int) < len := by omega
        have h1 : m < a.length := by have := HLN.out; omega
        have h2 : m < b.length := by have := HLM.out; omega
        obtain ⟨g, o, x1, x2, rfl, hg, hax, c0, c1⟩ := HX.out wr hbw.out m h1
        obtain ⟨g', o', y1, y2, rfl, hg', hby, d0, d1⟩ := HY.out wr hbw.out m h2
        have hgr : g < wr.heap.size := by omega
        have hgr' : g' < wr.heap.size := by omega
        have hg1 : g < wr.heap.size + 1 := by omega
        have hg2 : g' < wr.heap.size + 1 := by omega
        have HRO := Lib.hid (show R = (meetB (x1, x2) (y1, y2) && eqfM (a.drop (m + 1)) (b.drop (m + 1))) by rw [← hro.out, List.drop_eq_getElem_cons h1, List.drop_eq_getElem_cons h2, hax, hby]; rfl)
        have HE := Lib.hid (show ∀ w', Below wr.heap.size wr w' → Calls Tryz.prog 57 #[.agg #[.int .i64 x1, .int .i64 x2], .agg #[.int .i64 y1, .int .i64 y2]] w' fun e w'' => e = .returned (.bool (meetB (x1, x2) (y1, y2))) ∧ Below w'.heap.size w' w'' from fun w' hb => HM.out (x1, x2) (y1, y2) w' (hbw.out.trans (hb.mono hsw)))
        generalize meetB (x1, x2) (y1, y2) = u at HRO HE
        clear hax hby hro HX HY HM
        cases u with
        | false =>
          have HF := Lib.hid (show R = false by rw [HRO.out]; rfl)
          go_wp2_with (first | (go_at_call 57; ((with_reducible refine (HE.out _ (by (repeat' (first | (with_reducible first | exact Below.refl _ _ | assumption | refine Below.alloc ?_ ?_ _ | refine below_drewN ?_ _ | refine below_drew ?_ | refine below_ext ?_ ?_ _ _ | refine Below.setCell ?_ ?_ _) | (simp; done) | (simp; omega) | omega)))).mono ?_); rintro e w1 ⟨rfl, hb1⟩; obtain ⟨osA, dA, rfl⟩ := ext_of_below hb1; clear hb1)))
          go_ret
          exact ⟨by rw [HF.out]; rfl, hbw.out.trans (show Below w.heap.size wr _ by (repeat' (first | (with_reducible first | exact Below.refl _ _ | assumption | refine Below.alloc ?_ ?_ _ | refine below_drewN ?_ _ | refine below_drew ?_ | refine below_ext ?_ ?_ _ _ | refine Below.setCell ?_ ?_ _) | (simp; done) | (simp; omega) | omega)))⟩
        | true =>
          have HF := Lib.hid (show eqfM (a.drop (m + 1)) (b.drop (m + 1)) = R by rw [HRO.out]; rfl)
          go_wp2_with (first | (go_at_call 57; ((with_reducible refine (HE.out _ (by (repeat' (first | (with_reducible first | exact Below.refl _ _ | assumption | refine Below.alloc ?_ ?_ _ | refine below_drewN ?_ _ | refine below_drew ?_ | refine below_ext ?_ ?_ _ _ | refine Below.setCell ?_ ?_ _) | (simp; done) | (simp; omega) | omega)))).mono ?_); rintro e w1 ⟨rfl, hb1⟩; obtain ⟨osA, dA, rfl⟩ := ext_of_below hb1; clear hb1)))
          go_roundw
          case rel => exact ⟨m + 1, by omega, by go_num, Lib.hid (hbw.out.trans (show Below w.heap.size wr _ by (repeat' (first | (with_reducible first | exact Below.refl _ _ | assumption | refine Below.alloc ?_ ?_ _ | refine below_drewN ?_ _ | refine below_drew ?_ | refine below_ext ?_ ?_ _ _ | refine Below.setCell ?_ ?_ _) | (simp; done) | (simp; omega) | omega)))), HF⟩
          case measure => simp [intOf]; omega
      · obtain rfl : m = len := by omega
        have hi : ¬ (m : Int) < m := by omega
        have HF := Lib.hid (show R = true by rw [← hro.out, List.drop_eq_nil_of_le (by rw [HLN.out]; exact Nat.le_refl _), List.drop_eq_nil_of_le (by rw [HLM.out]; exact Nat.le_refl _)]; rfl)
        go_wp2
        go_ret
        exact ⟨by rw [HF.out]; rfl, hbw.out.trans (show Below w.heap.size wr _ by (repeat' (first | (with_reducible first | exact Below.refl _ _ | assumption | refine Below.alloc ?_ ?_ _ | refine below_drewN ?_ _ | refine below_drew ?_ | refine below_ext ?_ ?_ _ _ | refine Below.setCell ?_ ?_ _) | (simp; done) | (simp; omega) | omega)))⟩
  · have hq : ((a.length : Int) == (b.length : Int)) = false := beq_eq_false_iff_ne.2 (by omega)
    have hne : ¬ (a.length : Int) = (b.length : Int) := by omega
    rw [eqfM_len hlen]
    generalize a.length = la at hq hne ⊢
    generalize b.length = lb at hq hne ⊢
    clear hx hy hG hlen
    go_enter Tryz.func77, Tryz.ntmps77
    go_wp2
    go_ret
    exact ⟨rfl, by (repeat' (first | (with_reducible first | exact Below.refl _ _ | assumption | refine Below.alloc ?_ ?_ _ | refine below_drewN ?_ _ | refine below_drew ?_ | refine below_ext ?_ ?_ _ _ | refine Below.setCell ?_ ?_ _) | (simp; done) | (simp; omega) | omega))⟩
theorem lclos_any (a b : Ty) (B g o m c : Nat) (w : World) (hB : B < w.heap.size) (hc : w.cell? ⟨B, 0, none⟩ = some (.slice (some ⟨g, o, none⟩) (m + 1) c)) (hg : g < w.heap.size) (c0 : w.cell? ⟨g, o, none⟩ = some (.int .i64 b.1)) (c1 : w.cell? ⟨g, o + 1, none⟩ = some (.int .i64 b.2)) :
    Calls Tryz.prog 81 #[TyV a, .pointer (some ⟨B, 0, none⟩)] w fun e w' => e = .returned (.bool (!decide (a = b))) ∧ Below w.heap.size w w' := by
  have hmg : Tryz.prog.eqGuardType Tryz.prog.depth 26 = false := by kernel_rfl
  have e1 := fun w => ty_eq a b w
  obtain ⟨r, hr⟩ : ∃ r, r = decide (a = b) := ⟨_, rfl⟩
  rw [← hr] at e1 ⊢
  clear hr
  obtain ⟨a1, a2⟩ := a
  obtain ⟨b1, b2⟩ := b
  simp only at e1 c0 c1 ⊢
  have hg1 : g < w.heap.size + 1 := by omega
  have hB1 : B < w.heap.size + 1 := by omega
  have hm0 : (0 : Int) < ((m + 1 : Nat) : Int) := by omega
  cases r
  all_goals
    go_enter Tryz.func81, Tryz.ntmps81
    go_wp2
    go_region
    go_wp2
    go_ret
    exact ⟨rfl, by (repeat' (first | (with_reducible first | exact Below.refl _ _ | assumption | refine Below.alloc ?_ ?_ _ | refine below_drewN ?_ _ | refine below_drew ?_ | refine below_ext ?_ ?_ _ _ | refine Below.setCell ?_ ?_ _) | (simp; done) | (simp; omega) | omega))⟩
def idxT (p : Ty → Bool) (l : List Ty) : Int := match l.findIdx? p with
  | some i => (i : Int)
  | none => -1
theorem idxT_some {p : Ty → Bool} {l : List Ty} {m : Nat} (h : m < l.length) (hp : p l[m] = true) (hn : ∀ i (hi : i < l.length), i < m → p l[i] = false) : idxT p l = (m : Int) := by
  unfold idxT
  have : l.findIdx? p = some m := by
    rw [List.findIdx?_eq_some_iff_getElem]
    exact ⟨h, hp, fun j hj => by rw [hn j (by omega) hj]; simp⟩
  rw [this]
theorem idxT_none {p : Ty → Bool} {l : List Ty} (hn : ∀ i (hi : i < l.length), p l[i] = false) : idxT p l = -1 := by
  unfold idxT
  have : l.findIdx? p = none := by
    rw [List.findIdx?_eq_none_iff]
    intro x hx
    obtain ⟨i, hi, rfl⟩ := List.getElem_of_mem hx
    exact hn i hi
  rw [this]
theorem idxT_any (p : Ty → Bool) (l : List Ty) : decide ((0 : Int) ≤ idxT p l) = l.any p := by
  unfold idxT
  cases h : l.findIdx? p with
  | none =>
    rw [List.findIdx?_eq_none_iff] at h
    have : l.any p = false := by
      rw [List.any_eq_false]
      intro x hx
      rw [h x hx]; simp
    rw [this]
    exact decide_eq_false (by show ¬ (0 : Int) ≤ -1; omega)
  | some m =>
    rw [List.findIdx?_eq_some_iff_getElem] at h
    obtain ⟨h1, h2, -⟩ := h
    have : l.any p = true := List.any_eq_true.2 ⟨l[m], List.getElem_mem h1, h2⟩
    rw [this]
    exact decide_eq_true (by show (0 : Int) ≤ (m : Int); omega)
set_option maxHeartbeats 4000000 in
set_option maxRecDepth 100000 in
theorem idxF_any (g : Nat) (lb : Array Value) (eg : ∀ (args : Array Value) (w : World), (callFunc g args).run Tryz.prog w = .ok (.enter g args) w) (p : Ty → Bool) (n : Nat) (w : World) (l : List Ty) (lv : Value) (hx : RL 2 tpE n w lv l) (hl : l.length ≤ 1000) (hnw : n ≤ w.heap.size)
    (hp : ∀ (x : Ty) w', Below w.heap.size w w' → Calls Tryz.prog g (#[TyV x] ++ lb) w' fun e w'' => e = .returned (.bool (p x)) ∧ Below w'.heap.size w' w'') :
    Calls Tryz.prog 91 #[lv, .func (.func g) #[] lb] w fun e w' => e = .returned (.int .i64 (idxT p l)) ∧ Below w.heap.size w w' := by
  obtain ⟨px, cx, rfl, -⟩ := id hx
  have HP := Lib.hid hp
  obtain ⟨len, hln⟩ : ∃ len, l.length = len := ⟨_, rfl⟩
  have HLN := Lib.hid hln
  rw [hln] at hl ⊢
  have HA := Lib.hid (fun w' (hb : Below w.heap.size w w') i (hi : i < l.length) => rl_ty hx (hb.mono hnw) hi)
  clear hx hp hln
  go_enter Tryz.func91, Tryz.ntmps91
  go_wp2
  go_loopw [8] (fun i wr => ∃ m : Nat, m ≤ len ∧ i = .int .i64 m ∧ Hid (Below w.heap.size w wr) ∧ Hid (∀ i (h : i < l.length), i < m → p l[i] = false)) (fun i _ => len - (intOf i).toNat)
  case atStart => exact ⟨0, by omega, rfl, Lib.hid (Below.refl _ _), Lib.hid (fun i _ h => by omega)⟩
  case round =>
    obtain ⟨m, hm, rfl, hbw, hs0⟩ := hrel
    have hsw := hbw.out.size
    by_cases hml : m < len
    · have hi : (m : Int) < len := by omega
      have h1 : m < l.length := by have := HLN.out; omega
      obtain ⟨gg, o, x1, x2, rfl, hg, hax, c0, c1⟩ := HA.out wr hbw.out m h1
      have hgr : gg < wr.heap.size := by omega
      have HE := Lib.hid (show ∀ w', Below wr.heap.size wr w' → Calls Tryz.prog g (#[.agg #[.int .i64 x1, .int .i64 x2]] ++ lb) w' fun e w'' => e = .returned (.bool (p (x1, x2))) ∧ Below w'.heap.size w' w'' from fun w' hb => HP.out (x1, x2) w' (hbw.out.trans (hb.mono hsw)))
      obtain ⟨u, hu⟩ : ∃ u, u = p (x1, x2) := ⟨_, rfl⟩
      rw [← hu] at HE
      have HU := Lib.hid (show u = p l[m] by rw [hu, hax])
      clear hu hax HA
      cases u
      · have HN := Lib.hid (show ∀ i (h : i < l.length), i < m + 1 → p l[i] = false from fun i hi h => by
          by_cases e : i = m
          · subst e; exact HU.out.symm
          · exact hs0.out i hi (by omega))
        go_wp2_with (go_at_fn g; ((with_reducible refine (HE.out _ (by (repeat' (first | (with_reducible first | exact Below.refl _ _ | assumption | refine Below.alloc ?_ ?_ _ | refine below_drewN ?_ _ | refine below_drew ?_ | refine below_ext ?_ ?_ _ _ | refine Below.setCell ?_ ?_ _) | (simp; done) | (simp; omega) | omega)))).mono ?_); rintro e w1 ⟨rfl, hb1⟩; have HB1 := Lib.hid ((hbw.out.trans (show Below w.heap.size wr _ by (repeat' (first | (with_reducible first | exact Below.refl _ _ | assumption | refine Below.alloc ?_ ?_ _ | refine below_drewN ?_ _ | refine below_drew ?_ | refine below_ext ?_ ?_ _ _ | refine Below.setCell ?_ ?_ _) | (simp; done) | (simp; omega) | omega)))).trans (hb1.mono (by first | exact hsw | (simp; omega)))); clear hb1))
        go_roundw
        case rel => exact ⟨m + 1, by omega, by go_num, HB1, HN⟩
        case measure => simp [intOf]; omega
      · have HR := Lib.hid (show idxT p l = (m : Int) from idxT_some h1 HU.out.symm hs0.out)
        go_wp2_with (go_at_fn g; ((with_reducible refine (HE.out _ (by (repeat' (first | (with_reducible first | exact Below.refl _ _ | assumption | refine Below.alloc ?_ ?_ _ | refine below_drewN ?_ _ | refine below_drew ?_ | refine below_ext ?_ ?_ _ _ | refine Below.setCell ?_ ?_ _) | (simp; done) | (simp; omega) | omega)))).mono ?_); rintro e w1 ⟨rfl, hb1⟩; have HB1 := Lib.hid ((hbw.out.trans (show Below w.heap.size wr _ by (repeat' (first | (with_reducible first | exact Below.refl _ _ | assumption | refine Below.alloc ?_ ?_ _ | refine below_drewN ?_ _ | refine below_drew ?_ | refine below_ext ?_ ?_ _ _ | refine Below.setCell ?_ ?_ _) | (simp; done) | (simp; omega) | omega)))).trans (hb1.mono (by first | exact hsw | (simp; omega)))); clear hb1))
        go_ret
        exact ⟨by rw [HR.out]; rfl, HB1.out⟩
    · obtain rfl : m = len := by omega
      have hi : ¬ (m : Int) < m := by omega
      have HR := Lib.hid (show idxT p l = -1 from idxT_none fun i hi => hs0.out i hi (by rw [HLN.out] at hi; exact hi))
      go_wp2
      go_ret
      exact ⟨by rw [HR.out]; rfl, hbw.out⟩
theorem contT_any (g : Nat) (lb : Array Value) (eg : ∀ (args : Array Value) (w : World), (callFunc g args).run Tryz.prog w = .ok (.enter g args) w) (p : Ty → Bool) (n : Nat) (w : World) (l : List Ty) (lv : Value) (hx : RL 2 tpE n w lv l) (hl : l.length ≤ 1000) (hnw : n ≤ w.heap.size)
    (hp : ∀ (x : Ty) w', Below w.heap.size w w' → Calls Tryz.prog g (#[TyV x] ++ lb) w' fun e w'' => e = .returned (.bool (p x)) ∧ Below w'.heap.size w' w'') :
    Calls Tryz.prog 80 #[lv, .func (.func g) #[] lb] w fun e w' => e = .returned (.bool (l.any p)) ∧ Below w.heap.size w w' := by
  have HI := Lib.hid (idxF_any g lb eg p n w l lv hx hl hnw hp)
  have HR := Lib.hid (idxT_any p l)
  obtain ⟨r, hr⟩ : ∃ r, r = idxT p l := ⟨_, rfl⟩
  rw [← hr] at HI HR
  obtain ⟨b, hb⟩ : ∃ b, b = decide ((0 : Int) ≤ r) := ⟨_, rfl⟩
  rw [← hb] at HR
  rw [← HR.out]
  have HB := Lib.hid hb
  clear hx hp hr hb
  go_enter Tryz.func80, Tryz.ntmps80
  go_wp2_with (go_at_call 91; ((with_reducible refine HI.out.mono ?_); rintro e w1 ⟨rfl, hb1⟩; have HB1 := Lib.hid hb1; clear hb1))
  go_ret
  exact ⟨by rw [HB.out]; rfl, HB1.out⟩
theorem clos_enter : ∀ (args : Array Value) (w : World), (callFunc 81 args).run Tryz.prog w = .ok (.enter 81 args) w := enters_of Tryz.func81 (by kernel_rfl) rfl
set_option maxRecDepth 100000 in
set_option maxHeartbeats 4000000 in
theorem listOf_any (ts : List Ty) (n : Nat) (w : World) (v : Value) (hv : RL 2 tpE n w v ts) (hn : n ≤ w.heap.size) (hl : ts.length ≤ 1000) (hG : TyG w) :
    Calls Tryz.prog 58 #[v] w fun en w' => en = .returned (TyV (lstM ts)) ∧ Below w.heap.size w w' := by
  have hg := hG.sz
  have g0 := hG.l0
  have g1 := hG.l1
  have hl0 : 4 < w.heap.size := hg.2.2.1
  have hl1 : 4 < w.heap.size + 1 := by omega
  have hl2 : 4 < w.heap.size + 1 + 1 := by omega
  have hl3 : 4 < w.heap.size + 1 + 1 + 1 := by omega
  obtain ⟨p, c, rfl, h2⟩ := id hv
  cases ts with
  | nil =>
    clear h2 hv hG
    go_enter Tryz.func58, Tryz.ntmps58
    go_wp2
    go_returns
    exact ⟨rfl, by (repeat' (first | (with_reducible first | exact Below.refl _ _ | assumption | refine Below.alloc ?_ ?_ _ | refine below_drewN ?_ _ | refine below_drew ?_ | refine below_ext ?_ ?_ _ _ | refine Below.setCell ?_ ?_ _) | (simp; done) | (simp; omega) | omega))⟩
  | cons a r =>
    obtain ⟨g, o, rfl, hgn, hc⟩ := h2 (by simp)
    obtain ⟨a1, a2⟩ := a
    have hgw : g < w.heap.size := Nat.lt_of_lt_of_le hgn hn
    have c0 : w.cell? ⟨g, o, none⟩ = some (.int .i64 a1) := hc 0 (by simp) 0 _ rfl
    have c1 : w.cell? ⟨g, o + 1, none⟩ = some (.int .i64 a2) := hc 0 (by simp) 1 _ rfl
    obtain ⟨m, hm⟩ : ∃ m, m = r.length := ⟨_, rfl⟩
    have hlen : ((a1, a2) :: r).length = m + 1 := by rw [hm]; rfl
    have HC := Lib.hid (fun w' (hb : Below w.heap.size w w') (hlt : w.heap.size < w'.heap.size) (h0 : w'.cell? ⟨w.heap.size, 0, none⟩ = some (.slice (some ⟨g, o, none⟩) (m + 1) c)) => contT_any 81 #[.pointer (some ⟨w.heap.size, 0, none⟩)] clos_enter (fun t => !decide (t = (a1, a2))) n w' ((a1, a2) :: r) (.slice (some ⟨g, o, none⟩) (m + 1) c) (by rw [← hlen]; exact hv.keep (hb.mono hn)) hl (Nat.le_trans hn hb.size) (fun x w2 hb2 => lclos_any x (a1, a2) w.heap.size g o m c w2 (Nat.lt_of_lt_of_le hlt hb2.size) ((hb2.cell (p := ⟨w.heap.size, _, none⟩) hlt).trans h0) (Nat.lt_of_lt_of_le hgw (Nat.le_trans hb.size hb2.size)) (((hb.trans (hb2.mono hb.size)).cell (p := ⟨g, _, none⟩) hgw).trans c0) (((hb.trans (hb2.mono hb.size)).cell (p := ⟨g, _, none⟩) hgw).trans c1)))
    obtain ⟨q, hq⟩ : ∃ q, q = (((a1, a2) :: r).any fun t => !decide (t = (a1, a2))) := ⟨_, rfl⟩
    rw [← hq] at HC
    have hq2 : (r.all fun t => decide (t = (a1, a2))) = !q := by
      rw [hq, List.any_cons]
      simp [List.all_eq_not_any_not]
    have HF := Lib.hid (fun w => kform_any 5 a1 w)
    have hres : lstM ((a1, a2) :: r) = if q = false ∧ tform 5 a1 = true then (5, a1) else (5, 0) := by
      show (if (r.all fun t => decide (t = (a1, a2))) = true ∧ tform 5 a1 = true then (5, a1) else (5, 0)) = _
      rw [hq2]
      cases q <;> simp
    rw [hres, hlen]
    obtain ⟨f, hf⟩ : ∃ f, f = tform 5 a1 := ⟨_, rfl⟩
    rw [← hf] at HF ⊢
    have hm0 : (0 : Int) < ((m + 1 : Nat) : Int) := by omega
    have hm1 : (0 : Int) < (m : Int) + 1 := by omega
    have hgw1 : g < w.heap.size + 1 := by omega
    have hgw2 : g < w.heap.size + 1 + 1 := by omega
    have hgw3 : g < w.heap.size + 1 + 1 + 1 := by omega
    have hmq : (((m + 1 : Nat) : Int) == 0) = false := beq_eq_false_iff_ne.2 (by omega)
    clear h2 hv hc hlen hm hl hq hq2 hres hf hG
    cases q with
    | true =>
      rw [if_neg (by simp)]
      go_enter Tryz.func58, Tryz.ntmps58
      go_wp2_with (first
        | (go_at_call 80; (with_reducible refine (HC.out _ (by (repeat' (first | (with_reducible first | exact Below.refl _ _ | assumption | refine Below.alloc ?_ ?_ _ | refine below_drewN ?_ _ | refine below_drew ?_ | refine below_ext ?_ ?_ _ _ | refine Below.setCell ?_ ?_ _) | (simp; done) | (simp; omega) | omega))) (by first | (simp; done) | (simp; omega)) (by simp [go_sem])).mono ?_); rintro e w1 ⟨rfl, hb1⟩; obtain ⟨osA, dA, rfl⟩ := ext_of_below hb1; clear hb1))
      go_returns
      exact ⟨rfl, by (repeat' (first | (with_reducible first | exact Below.refl _ _ | assumption | refine Below.alloc ?_ ?_ _ | refine below_drewN ?_ _ | refine below_drew ?_ | refine below_ext ?_ ?_ _ _ | refine Below.setCell ?_ ?_ _) | (simp; done) | (simp; omega) | omega))⟩
    | false =>
      cases f with
      | true =>
        rw [if_pos ⟨rfl, rfl⟩]
        go_enter Tryz.func58, Tryz.ntmps58
        go_wp2_with (first
          | (go_at_call 80; (with_reducible refine (HC.out _ (by (repeat' (first | (with_reducible first | exact Below.refl _ _ | assumption | refine Below.alloc ?_ ?_ _ | refine below_drewN ?_ _ | refine below_drew ?_ | refine below_ext ?_ ?_ _ _ | refine Below.setCell ?_ ?_ _) | (simp; done) | (simp; omega) | omega))) (by first | (simp; done) | (simp; omega)) (by simp [go_sem])).mono ?_); rintro e w1 ⟨rfl, hb1⟩; obtain ⟨osA, dA, rfl⟩ := ext_of_below hb1; clear hb1)
          | (go_at_call 16; ((with_reducible refine (HF.out _).mono ?_); rintro e w1 ⟨rfl, hb1⟩; obtain ⟨osF, dF, rfl⟩ := ext_of_below hb1; clear hb1)))
        go_returns
        exact ⟨rfl, by (repeat' (first | (with_reducible first | exact Below.refl _ _ | assumption | refine Below.alloc ?_ ?_ _ | refine below_drewN ?_ _ | refine below_drew ?_ | refine below_ext ?_ ?_ _ _ | refine Below.setCell ?_ ?_ _) | (simp; done) | (simp; omega) | omega))⟩
      | false =>
        rw [if_neg (by simp)]
        go_enter Tryz.func58, Tryz.ntmps58
        go_wp2_with (first
          | (go_at_call 80; (with_reducible refine (HC.out _ (by (repeat' (first | (with_reducible first | exact Below.refl _ _ | assumption | refine Below.alloc ?_ ?_ _ | refine below_drewN ?_ _ | refine below_drew ?_ | refine below_ext ?_ ?_ _ _ | refine Below.setCell ?_ ?_ _) | (simp; done) | (simp; omega) | omega))) (by first | (simp; done) | (simp; omega)) (by simp [go_sem])).mono ?_); rintro e w1 ⟨rfl, hb1⟩; obtain ⟨osA, dA, rfl⟩ := ext_of_below hb1; clear hb1)
          | (go_at_call 16; (with_reducible refine (HF.out _).mono ?_); rintro e w1 ⟨rfl, hb1⟩; obtain ⟨osF, dF, rfl⟩ := ext_of_below hb1; have hl4 : 4 < w.heap.size + 1 + 1 + osA.size + 1 := (by omega); have hl5 : 4 < w.heap.size + 1 + 1 + osA.size := (by omega); clear hb1))
        go_returns
        exact ⟨rfl, by (repeat' (first | (with_reducible first | exact Below.refl _ _ | assumption | refine Below.alloc ?_ ?_ _ | refine below_drewN ?_ _ | refine below_drew ?_ | refine below_ext ?_ ?_ _ _ | refine Below.setCell ?_ ?_ _) | (simp; done) | (simp; omega) | omega))⟩
theorem fnOf_len {s : ByteArray} {q : List Ty × Ty} (h : fnOf s = some q) : q.1.length ≤ 1000 := by
  rcases fn_split s with ⟨h1, -⟩ | ⟨r, hr, -, h1⟩
  · rw [h1] at h; cases h
  · rw [h1] at h
    injection h with h
    subst h
    have h2 : ∀ r ∈ fnTab, r.2.1.length ≤ 1000 := by decide
    exact h2 r hr
set_option maxRecDepth 100000 in
set_option maxHeartbeats 4000000 in
theorem callOf_any (s : ByteArray) (ts : List Ty) (n : Nat) (w : World) (v : Value) (hv : RL 2 tpE n w v ts) (hn : n ≤ w.heap.size) (hl : ts.length ≤ 1000) (hG : TyG w) :
    Calls Tryz.prog 54 #[.string s, v] w fun en w' => en = .returned (.tuple #[TyV (calM s ts).1, .int .i64 (calM s ts).2]) ∧ Below w.heap.size w w' := by
  have HF := Lib.hid (fun w' (hb : Below w.heap.size w w') => function_any s w' (hG.below hb))
  have hcal : calM s ts = match fnOf s with
    | none => ((0, 0), 8)
    | some q => if eqfM ts q.1 = true then (q.2, 0) else ((0, 0), 9) := rfl
  cases hfn : fnOf s with
  | none =>
    rw [hfn] at HF hcal
    have hcal2 : calM s ts = ((0, 0), 8) := hcal
    rw [hcal2]
    clear hcal hcal2 hfn hv hG
    go_enter Tryz.func54, Tryz.ntmps54
    go_wp2_with (go_at_call 76; (with_reducible refine (HF.out _ (by (repeat' (first | (with_reducible first | exact Below.refl _ _ | assumption | refine Below.alloc ?_ ?_ _ | refine below_drewN ?_ _ | refine below_drew ?_ | refine below_ext ?_ ?_ _ _ | refine Below.setCell ?_ ?_ _) | (simp; done) | (simp; omega) | omega)))).mono ?_); rintro e w1 ⟨rfl, hb1⟩; obtain ⟨osF, dF, rfl⟩ := ext_of_below hb1; clear hb1)
    go_returns
    exact ⟨rfl, by (repeat' (first | (with_reducible first | exact Below.refl _ _ | assumption | refine Below.alloc ?_ ?_ _ | refine below_drewN ?_ _ | refine below_drew ?_ | refine below_ext ?_ ?_ _ _ | refine Below.setCell ?_ ?_ _) | (simp; done) | (simp; omega) | omega))⟩
  | some q =>
    have hql := fnOf_len hfn
    rw [hfn] at HF hcal
    obtain ⟨qs, q1, q2⟩ := q
    have hcal2 : calM s ts = if eqfM ts qs = true then ((q1, q2), 0) else ((0, 0), 9) := hcal
    rw [hcal2]
    have HE := Lib.hid (fun w' x (hb : Below w.heap.size w w') (hx : RL 2 tpE w'.heap.size w' x qs) => eqfT_any ts qs w'.heap.size w' v x ((hv.keep (hb.mono hn)).more (Nat.le_trans hn hb.size)) hx hl (Nat.le_refl _) (hG.below hb))
    generalize eqfM ts qs = u at HE ⊢
    obtain ⟨p, c, rfl, -⟩ := hv
    generalize ts.length = len at HE ⊢
    clear hcal hcal2 hfn hG hl hql
    cases u
    all_goals
      go_enter Tryz.func54, Tryz.ntmps54
      go_wp2_with (first
        | (go_at_call 76; (with_reducible refine (HF.out _ (by (repeat' (first | (with_reducible first | exact Below.refl _ _ | assumption | refine Below.alloc ?_ ?_ _ | refine below_drewN ?_ _ | refine below_drew ?_ | refine below_ext ?_ ?_ _ _ | refine Below.setCell ?_ ?_ _) | (simp; done) | (simp; omega) | omega)))).mono ?_); rintro e w1 ⟨pv, rfl, hrl, hfr, hb1⟩; obtain ⟨osF, dF, rfl⟩ := ext_of_below hb1; have HRL := Lib.hid hrl; clear hb1 hrl hfr)
        | (go_at_call 77; (with_reducible refine (HE.out _ _ (by (repeat' (first | (with_reducible first | exact Below.refl _ _ | assumption | refine Below.alloc ?_ ?_ _ | refine below_drewN ?_ _ | refine below_drew ?_ | refine below_ext ?_ ?_ _ _ | refine Below.setCell ?_ ?_ _) | (simp; done) | (simp; omega) | omega))) (HRL.out.up (by (repeat' (first | (with_reducible first | exact Below.refl _ _ | assumption | refine Below.alloc ?_ ?_ _ | refine below_drewN ?_ _ | refine below_drew ?_ | refine below_ext ?_ ?_ _ _ | refine Below.setCell ?_ ?_ _) | (simp; done) | (simp; omega) | omega))))).mono ?_); rintro e w1 ⟨rfl, hb1⟩; obtain ⟨osE, dE, rfl⟩ := ext_of_below hb1; clear hb1))
      go_returns
      exact ⟨by simp, by (repeat' (first | (with_reducible first | exact Below.refl _ _ | assumption | refine Below.alloc ?_ ?_ _ | refine below_drewN ?_ _ | refine below_drew ?_ | refine below_ext ?_ ?_ _ _ | refine Below.setCell ?_ ?_ _) | (simp; done) | (simp; omega) | omega))⟩
end Go.Proofs.YtalahkincccffaaGreatDoor
