/-
  What rows come to under the policies of numbers: a table's call.
-/
import Derived.Test.YtdgdeognahmpmaaGreatDoorHitH
import Derived.Test.YtdgdeognahmpmaaGreatDoorDForms
namespace Go.Proofs.YtdgdeognahmpmaaGreatDoor
open Go.RowKit Word Txt
attribute [local go_sem] setCell_drewN cell?_ext frozen?_ext shape?_ext setCell_ext lt_1' ne_1' en_1' le_1' lt_2' ne_2' en_2' le_2' lt_3' ne_3' en_3' le_3' lt_4' ne_4' en_4' le_4' lt_5' ne_5' en_5' le_5' lt_6' ne_6' en_6' le_6' lt_7' ne_7' en_7' le_7' lt_8' ne_8' en_8' le_8' lt_9' ne_9' en_9' le_9' lt_10' ne_10' en_10' le_10' lt_11' ne_11' en_11' le_11' lt_12' ne_12' en_12' le_12'

/-- what single values come to: a number or null; an error -/
def outN (p : Int) (vs : List V) : Option NN × Int :=
  if p = 11 then (some (false, vs.length, 0), 0)
  else match vs with
    | [] => (none, 0)
    | v0 :: r => if ((v0 :: r).all fun v => v.kind == 2) = true then (if (foldN p (numV v0) (r.map numV)).2 = 0 then some (foldN p (numV v0) (r.map numV)).1 else none, (foldN p (numV v0) (r.map numV)).2) else (none, 0)
def NumX (o : Option NN) (x : Value) : Prop := match o with
  | some a => ∃ pl cl pn cn, x = NC a pl cl pn cn
  | none => x = ZV
def NumQ (o : Option NN × Int) (w : World) (e : Ending) (w' : World) : Prop := ∃ x, e = .returned (.tuple #[x, .int .i64 o.2]) ∧ Below w.heap.size w w' ∧ NumX o.1 x
theorem FoldQ.num {r : NN × Int} {w : World} {e : Ending} {w' : World} (h : FoldQ r w e w') : NumQ (if r.2 = 0 then some r.1 else none, r.2) w e w' := by
  obtain ⟨x, h1, h2, h3, h4⟩ := h
  refine ⟨x, h1, h2, ?_⟩
  by_cases h0 : r.2 = 0
  · rw [if_pos h0]
    exact h3 h0
  · rw [if_neg h0]
    exact h4 h0
set_option maxRecDepth 100000 in
set_option maxHeartbeats 8000000 in
theorem fold_null (p : Int) (n : Nat) (w : World) (vs : List V) (pn : Option Addr) (nn cn : Nat) (po : Option Addr) (no co : Nat) (rv : Value) (hR : WSl n w (vs.map fun v => [v]) rv) (fR : Few (vs.map fun v => [v])) (hnw : n ≤ w.heap.size)
    (hall : ¬ (vs.all fun v => v.kind == 2) = true) :
    Calls Tryz.prog 69 #[.agg #[.slice pn nn cn, .slice po no co, rv], .int .i64 p] w fun e w' => e = .returned (.tuple #[ZV, .int .i64 0]) ∧ Below w.heap.size w w' := by
  have HAL := Lib.hid (show ∀ w1, Below w.heap.size w w1 → Calls Tryz.prog 49 #[rv, .func (.func 103) #[] #[]] w1 fun e w' => e = .returned (.bool false) ∧ Below w1.heap.size w1 w' from fun w1 hb => by
    have := allW_any 103 #[] (enters_of Tryz.func103 (by kernel_rfl) rfl) (fun l => match l with | v :: _ => v.kind == 2 | [] => false) n w1 _ rv (hR.below (hb.mono hnw)) fR.1 (Nat.le_trans hnw hb.size) (fun l hl w' x hb' ha => by
      rw [List.mem_map] at hl
      obtain ⟨v, -, rfl⟩ := hl
      have := k2_any n w' v x ha
      simpa using this)
    rw [List.all_map] at this
    refine this.mono fun e w' ⟨h1, h2⟩ => ⟨?_, h2⟩
    rw [h1]
    exact congrArg (fun b => Ending.returned (.bool b)) (Bool.eq_false_iff.2 hall))
  obtain ⟨pr, cr, hrv⟩ := hR.shape
  subst hrv
  obtain ⟨m, hm⟩ : ∃ m, m = (vs.map fun v => [v]).length := ⟨_, rfl⟩
  rw [← hm] at HAL ⊢
  clear hR fR hall hm
  go_enter Tryz.func69, Tryz.ntmps69
  go_wp2_with (go_at_call 49; ((with_reducible refine (HAL.out _ (by (repeat' (first | (with_reducible exact Below.refl _ _) | (with_reducible assumption) | (with_reducible refine Below.alloc ?_ ?_ _) | (with_reducible refine below_drewN ?_ _) | (with_reducible refine below_drew ?_) | (with_reducible refine below_ext ?_ ?_ _ _) | (with_reducible refine Below.setCell ?_ ?_ _) | (simp; done) | (simp; omega) | omega)))).mono ?_); rintro e w1 ⟨rfl, hb1⟩; obtain ⟨osA, dA, rfl⟩ := ext_of_below hb1; clear hb1))
  go_returns
  exact ⟨rfl, by (repeat' (first | (with_reducible exact Below.refl _ _) | (with_reducible assumption) | (with_reducible refine Below.alloc ?_ ?_ _) | (with_reducible refine below_drewN ?_ _) | (with_reducible refine below_drew ?_) | (with_reducible refine below_ext ?_ ?_ _ _) | (with_reducible refine Below.setCell ?_ ?_ _) | (simp; done) | (simp; omega) | omega))⟩
theorem fold_any (p : Int) (hp : p = 8 ∨ p = 9 ∨ p = 10) (n : Nat) (w : World) (vs : List V) (hvs : vs ≠ []) (pn : Option Addr) (nn cn : Nat) (po : Option Addr) (no co : Nat) (rv : Value) (hR : WSl n w (vs.map fun v => [v]) rv) (fR : Few (vs.map fun v => [v])) (hc : ∀ v ∈ vs, v.code = 0) (hnw : n ≤ w.heap.size) (hT : Tens w) :
    Calls Tryz.prog 69 #[.agg #[.slice pn nn cn, .slice po no co, rv], .int .i64 p] w fun e w' => NumQ (outN p vs) w e w' := by
  cases vs with
  | nil => exact absurd rfl hvs
  | cons v0 r =>
    by_cases hall : ((v0 :: r).all fun v => v.kind == 2) = true
    · have e : outN p (v0 :: r) = (if (foldN p (numV v0) (r.map numV)).2 = 0 then some (foldN p (numV v0) (r.map numV)).1 else none, (foldN p (numV v0) (r.map numV)).2) := by
        unfold outN
        rw [if_neg (by omega)]
        exact if_pos hall
      rw [e]
      exact (fold_num p hp n w v0 r pn nn cn po no co rv hR fR hc hnw hT hall).mono fun e w' h => h.num
    · have e : outN p (v0 :: r) = (none, 0) := by
        unfold outN
        rw [if_neg (by omega)]
        exact if_neg hall
      rw [e]
      exact (fold_null p n w (v0 :: r) pn nn cn po no co rv hR fR hnw hall).mono fun e w' ⟨h1, h2⟩ => ⟨ZV, h1, h2, rfl⟩
set_option maxRecDepth 100000 in
set_option maxHeartbeats 8000000 in
theorem decide_num (p : Int) (hp : 8 ≤ p ∧ p ≤ 11) (n : Nat) (w : World) (vs : List V) (nv ov rv : Value) (hN : ∃ a b c, nv = .slice a b c) (hO : ∃ a b c, ov = .slice a b c) (hR : WSl n w (vs.map fun v => [v]) rv) (fR : Few (vs.map fun v => [v])) (hc : ∀ v ∈ vs, v.code = 0) (hnw : n ≤ w.heap.size) (hT : Tens w) :
    Calls Tryz.prog 39 #[.agg #[nv, ov, rv], .int .i64 p] w fun e w' => NumQ (outN p vs) w e w' := by
  obtain ⟨pn, nn, cn, rfl⟩ := hN
  obtain ⟨po, no, co, rfl⟩ := hO
  have hlm : (vs.map fun v => [v]).length = vs.length := List.length_map _
  by_cases h11 : p = 11
  · subst h11
    have hl9 := fR.1
    have HO := Lib.hid (fun w => dof_any (vs.length : Int) (by rw [hlm] at hl9; simp [Lit.wf, IntKind.min, IntKind.max, IntKind.signed, IntKind.bits]; omega) w)
    obtain ⟨pr, cr, rfl⟩ := hR.shape
    rw [hlm] at hl9 ⊢
    have e : outN 11 vs = (some (false, vs.length, 0), 0) := if_pos rfl
    rw [e]
    obtain ⟨m, hm⟩ : ∃ m, m = vs.length := ⟨_, rfl⟩
    rw [← hm] at HO ⊢
    have HO2 := Lib.hid (show ∀ w, Calls Tryz.prog 67 #[.int .i64 (m : Int)] w fun e w' => e = .returned (D false m 0) ∧ Below w.heap.size w w' from fun w => (HO.out w).mono fun e w' ⟨h1, h2⟩ => ⟨by rw [h1]; simp, h2⟩)
    have HX := Lib.hid (show ∃ pl cl pn cn, (Value.agg #[.int .i64 2, .bool false, .bool false, .int .u64 (Word.hi m : Int), .int .u64 (Word.lo m : Int), .int .i64 0, .string ⟨#[]⟩, .int .i64 0, .slice none 0 0, .slice none 0 0]) = NC (false, m, 0) pl cl pn cn from ⟨none, 0, none, 0, rfl⟩)
    clear hR fR hc hlm hm HO e hT
    go_enter Tryz.func39, Tryz.ntmps39
    go_wp2_with (go_at_call 67; ((with_reducible refine (HO2.out _).mono ?_); rintro e w1 ⟨rfl, hb1⟩; obtain ⟨osA, dA, rfl⟩ := ext_of_below hb1; clear hb1))
    go_returns
    exact (show ∃ x, _ from ⟨_, rfl, by (repeat' (first | (with_reducible exact Below.refl _ _) | (with_reducible assumption) | (with_reducible refine Below.alloc ?_ ?_ _) | (with_reducible refine below_drewN ?_ _) | (with_reducible refine below_drew ?_) | (with_reducible refine below_ext ?_ ?_ _ _) | (with_reducible refine Below.setCell ?_ ?_ _) | (simp; done) | (simp; omega) | omega)), HX.out⟩)
  · have hp3 : p = 8 ∨ p = 9 ∨ p = 10 := by omega
    by_cases hvs : vs = []
    · have e : outN p vs = (none, 0) := by
        unfold outN
        rw [if_neg h11, hvs]
      rw [e]
      obtain ⟨pr, cr, rfl⟩ := hR.shape
      rw [hlm, hvs, List.length_nil]
      clear hR fR hc hlm e hT hvs hp h11
      rcases hp3 with rfl | rfl | rfl
      all_goals
        go_enter Tryz.func39, Tryz.ntmps39
        go_wp2
        go_returns
        exact (show ∃ x, _ from ⟨_, rfl, by (repeat' (first | (with_reducible exact Below.refl _ _) | (with_reducible assumption) | (with_reducible refine Below.alloc ?_ ?_ _) | (with_reducible refine below_drewN ?_ _) | (with_reducible refine below_drew ?_) | (with_reducible refine below_ext ?_ ?_ _ _) | (with_reducible refine Below.setCell ?_ ?_ _) | (simp; done) | (simp; omega) | omega)), rfl⟩)
    · have HF := Lib.hid (show ∀ w1, Below w.heap.size w w1 → _ from fun w1 hb => fold_any p hp3 n w1 vs hvs pn nn cn po no co rv (hR.below (hb.mono hnw)) fR hc (Nat.le_trans hnw hb.size) (hT.below hb))
      obtain ⟨pr, cr, rfl⟩ := hR.shape
      have hpos : (vs.length : Int) ≠ 0 := by
        have : vs.length ≠ 0 := fun h => hvs (List.length_eq_zero_iff.1 h)
        omega
      rw [hlm] at HF ⊢
      obtain ⟨m, hm⟩ : ∃ m, m = vs.length := ⟨_, rfl⟩
      rw [← hm] at HF hpos ⊢
      have hpos2 : ((m : Int) == 0) = false := beq_eq_false_iff_ne.2 hpos
      obtain ⟨r, hr⟩ : ∃ r, r = outN p vs := ⟨_, rfl⟩
      rw [← hr] at HF ⊢
      obtain ⟨ro, re⟩ := r
      clear hR fR hc hlm hm hr hT hvs hp h11
      rcases hp3 with rfl | rfl | rfl
      all_goals
        cases ro with
        | none =>
          go_enter Tryz.func39, Tryz.ntmps39
          go_wp2_with (go_at_call 69; ((with_reducible refine (HF.out _ (by (repeat' (first | (with_reducible exact Below.refl _ _) | (with_reducible assumption) | (with_reducible refine Below.alloc ?_ ?_ _) | (with_reducible refine below_drewN ?_ _) | (with_reducible refine below_drew ?_) | (with_reducible refine below_ext ?_ ?_ _ _) | (with_reducible refine Below.setCell ?_ ?_ _) | (simp; done) | (simp; omega) | omega)))).mono ?_); rintro e w1 ⟨x, rfl, hb1, hx⟩; obtain rfl := (show x = ZV from hx); obtain ⟨osA, dA, rfl⟩ := ext_of_below hb1; clear hb1 hx))
          go_returns
          exact (show ∃ x, _ from ⟨_, rfl, by (repeat' (first | (with_reducible exact Below.refl _ _) | (with_reducible assumption) | (with_reducible refine Below.alloc ?_ ?_ _) | (with_reducible refine below_drewN ?_ _) | (with_reducible refine below_drew ?_) | (with_reducible refine below_ext ?_ ?_ _ _) | (with_reducible refine Below.setCell ?_ ?_ _) | (simp; done) | (simp; omega) | omega)), rfl⟩)
        | some a =>
          obtain ⟨an, ac, az⟩ := a
          go_enter Tryz.func39, Tryz.ntmps39
          go_wp2_with (go_at_call 69; ((with_reducible refine (HF.out _ (by (repeat' (first | (with_reducible exact Below.refl _ _) | (with_reducible assumption) | (with_reducible refine Below.alloc ?_ ?_ _) | (with_reducible refine below_drewN ?_ _) | (with_reducible refine below_drew ?_) | (with_reducible refine below_ext ?_ ?_ _ _) | (with_reducible refine Below.setCell ?_ ?_ _) | (simp; done) | (simp; omega) | omega)))).mono ?_); rintro e w1 ⟨x, rfl, hb1, hx⟩; obtain ⟨pl, cl, pn2, cn2, rfl⟩ := (show ∃ pl cl pn cn, x = NC (an, ac, az) pl cl pn cn from hx); have HNX := Lib.hid hx; obtain ⟨osA, dA, rfl⟩ := ext_of_below hb1; clear hb1 hx))
          go_returns
          exact (show ∃ x, _ from ⟨_, rfl, by (repeat' (first | (with_reducible exact Below.refl _ _) | (with_reducible assumption) | (with_reducible refine Below.alloc ?_ ?_ _) | (with_reducible refine below_drewN ?_ _) | (with_reducible refine below_drew ?_) | (with_reducible refine below_ext ?_ ?_ _ _) | (with_reducible refine Below.setCell ?_ ?_ _) | (simp; done) | (simp; omega) | omega)), HNX.out⟩)
end Go.Proofs.YtdgdeognahmpmaaGreatDoor
