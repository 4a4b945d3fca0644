/-
  A value without text and parts, cloned.
  What rows come to under the policies of numbers: a table's call.
-/
import Derived.Test.YtjkallelniggpaaGreatDoorHitG
import Derived.Deep.Upon
import Derived.Test.YtjkallelniggpaaGreatDoorDForms
namespace Go.Proofs.YtjkallelniggpaaGreatDoor
open Go.RowKit Word Txt
attribute [local go_sem] setCell_drewN cell?_ext frozen?_ext shape?_ext setCell_ext lt_1' ne_1' en_1' le_1' lt_2' ne_2' en_2' le_2' lt_3' ne_3' en_3' le_3' lt_4' ne_4' en_4' le_4' lt_5' ne_5' en_5' le_5' lt_6' ne_6' en_6' le_6' lt_7' ne_7' en_7' le_7' lt_8' ne_8' en_8' le_8' lt_9' ne_9' en_9' le_9' lt_10' ne_10' en_10' le_10' lt_11' ne_11' en_11' le_11' lt_12' ne_12' en_12' le_12'

theorem src_none {P : Program} {tx e' : TypeId} {size : Nat} (hk : P.underlying tx = some (.slice e')) (w : World) (p : Option Addr) (c : Nat) : Src P size tx (.slice p 0 c) 0 [] w := by
  cases p with
  | none => exact Src.ofNil w hk c
  | some a => exact Src.ofSlice w hk a 0 c [] (by simp) (fun j u hu => by simp at hu) (fun u hu => by cases hu)
theorem wpList_append_nil {P : Program} {ops : Array Oper} {rest : List Oper} {o : Oper} {a : Act} {w : World} {Q : Exit → Act → World → Prop} (hgd : o.guard = none) (s x : Operand) (t : TypeId)
    (ho : o.op = .call { callee := .builtin .append, args := #[s, x], argTypes := #[t, t] }) (e : TypeId) (i : TypeInfo) (ht : P.underlying t = some (.slice e)) (hi : P.info? e = some i)
    (base : Option Addr) (hs : a.eval s = .slice base 0 0) (p : Option Addr) (c : Nat) (hx : a.eval x = .slice p 0 c)
    (h : wpList P ops Q rest (a.put o.dst (.slice base 0 0)) w) : wpList P ops Q (o :: rest) a w := by
  refine wpList_plain hgd fun K hK => ?_
  have hr := run_append_nothing (P := P) w t t o.type e i ht hi base 0 0 (Nat.le_refl _) (.slice p 0 c) (src_none ht w p c)
  unfold Oper.wp execOp
  simp only [ho, resolve, invoke, builtin, Sem.run_bind, Sem.run_pure, Result.andThen_ok, List.map_toArray, List.map_cons, List.map_nil, hs, hx, hr]
  exact hK _ _ h
theorem infoValH : (Tryz.prog.info? 34).map (fun i => i.size) = some 10 := by kernel_rfl
theorem infoStrH : (Tryz.prog.info? 9).map (fun i => i.size) = some 1 := by kernel_rfl
theorem cloneS_nil (w : World) : Calls Tryz.prog 34 #[.string ⟨#[]⟩] w fun e w' => e = .returned (.string ⟨#[]⟩) ∧ w' = w := by
  have HI := Lib.hid (show Calls Tryz.prog 61 #[.string ⟨#[]⟩] w fun e w' => e = .returned (.string ⟨#[]⟩) ∧ w' = w by
    go_enter Tryz.func61, Tryz.ntmps61
    go_wp2
    go_ret
    exact ⟨rfl, rfl⟩)
  go_enter Tryz.func34, Tryz.ntmps34
  go_wp2_with (go_at_call 61; ((with_reducible refine HI.out.mono ?_); rintro e w1 ⟨rfl, rfl⟩))
  go_ret
  exact ⟨rfl, rfl⟩
set_option maxRecDepth 100000 in
theorem cloneV_nil (p : Option Addr) (c : Nat) (w : World) : Calls Tryz.prog 35 #[.slice p 0 c] w fun e w' => (∃ q, e = .returned (.slice q 0 0)) ∧ Below w.heap.size w w' := by
  obtain ⟨i0, hi0, -⟩ : ∃ i, Tryz.prog.info? 34 = some i ∧ i.size = 10 := by
    have := infoValH
    cases h : Tryz.prog.info? 34 with
    | none => rw [h] at this; cases this
    | some i => rw [h] at this; exact ⟨i, rfl, by simpa using this⟩
  cases p with
  | none =>
    have he : ∀ w : World, (binOp .eql 24 (.slice none 0 c) (.slice none 0 0)).run Tryz.prog w = .ok (.bool true) w := fun _ => rfl
    go_enter Tryz.func35, Tryz.ntmps35
    go_wp2
    go_ret
    exact ⟨⟨none, rfl⟩, Below.refl _ _⟩
  | some a =>
    have he : ∀ w : World, (binOp .eql 24 (.slice (some a) 0 c) (.slice none 0 0)).run Tryz.prog w = .ok (.bool false) w := fun _ => rfl
    go_enter Tryz.func35, Tryz.ntmps35
    go_wp2_with (at_builtin; refine wpList_append_nil rfl _ _ 24 rfl 34 i0 Tryz.underlying24 hi0 _ rfl _ _ rfl ?_)
    go_ret
    exact ⟨⟨_, rfl⟩, by (repeat' (first | (with_reducible exact Below.refl _ _) | (with_reducible assumption) | (with_reducible refine Below.alloc ?_ ?_ _) | (with_reducible refine below_drewN ?_ _) | (with_reducible refine below_drew ?_) | (with_reducible refine below_ext ?_ ?_ _ _) | (with_reducible refine Below.setCell ?_ ?_ _) | (simp; done) | (simp; omega) | omega))⟩
set_option maxRecDepth 100000 in
theorem cloneN_nil (p : Option Addr) (c : Nat) (w : World) : Calls Tryz.prog 36 #[.slice p 0 c] w fun e w' => (∃ q, e = .returned (.slice q 0 0)) ∧ Below w.heap.size w w' := by
  obtain ⟨i0, hi0, -⟩ : ∃ i, Tryz.prog.info? 9 = some i ∧ i.size = 1 := by
    have := infoStrH
    cases h : Tryz.prog.info? 9 with
    | none => rw [h] at this; cases this
    | some i => rw [h] at this; exact ⟨i, rfl, by simpa using this⟩
  cases p with
  | none =>
    have he : ∀ w : World, (binOp .eql 22 (.slice none 0 c) (.slice none 0 0)).run Tryz.prog w = .ok (.bool true) w := fun _ => rfl
    go_enter Tryz.func36, Tryz.ntmps36
    go_wp2
    go_ret
    exact ⟨⟨none, rfl⟩, Below.refl _ _⟩
  | some a =>
    have he : ∀ w : World, (binOp .eql 22 (.slice (some a) 0 c) (.slice none 0 0)).run Tryz.prog w = .ok (.bool false) w := fun _ => rfl
    go_enter Tryz.func36, Tryz.ntmps36
    go_wp2_with (at_builtin; refine wpList_append_nil rfl _ _ 22 rfl 9 i0 Tryz.underlying22 hi0 _ rfl _ _ rfl ?_)
    go_ret
    exact ⟨⟨_, rfl⟩, by (repeat' (first | (with_reducible exact Below.refl _ _) | (with_reducible assumption) | (with_reducible refine Below.alloc ?_ ?_ _) | (with_reducible refine below_drewN ?_ _) | (with_reducible refine below_drew ?_) | (with_reducible refine below_ext ?_ ?_ _ _) | (with_reducible refine Below.setCell ?_ ?_ _) | (simp; done) | (simp; omega) | omega))⟩
set_option maxRecDepth 100000 in
set_option maxHeartbeats 8000000 in
theorem clone_flat (k : Int) (an : Bool) (x3 x4 az : Int) (pl : Option Addr) (cl : Nat) (pn : Option Addr) (cn : Nat) (w : World) : Calls Tryz.prog 19 #[.agg #[.int .i64 k, .bool false, .bool an, .int .u64 x3, .int .u64 x4, .int .i64 az, .string ⟨#[]⟩, .int .i64 0, .slice pl 0 cl, .slice pn 0 cn]] w fun e w' =>
    (∃ ql qn, e = .returned (.agg #[.int .i64 k, .bool false, .bool an, .int .u64 x3, .int .u64 x4, .int .i64 az, .string ⟨#[]⟩, .int .i64 0, .slice ql 0 0, .slice qn 0 0])) ∧ Below w.heap.size w w' := by
  have HS := Lib.hid cloneS_nil
  have HV := Lib.hid (fun p c w => cloneV_nil p c w)
  have HN := Lib.hid (fun p c w => cloneN_nil p c w)
  go_enter Tryz.func19, Tryz.ntmps19
  go_wp2_with (go_at_call 34; ((with_reducible refine (HS.out _).mono ?_); rintro e w1 ⟨rfl, rfl⟩))
  go_region_with (first
    | (go_at_call 35; ((with_reducible refine (HV.out _ _ _).mono ?_); rintro e w1 ⟨⟨ql, rfl⟩, hb1⟩; obtain ⟨osA, dA, rfl⟩ := ext_of_below hb1; clear hb1))
    | (go_at_call 36; ((with_reducible refine (HN.out _ _ _).mono ?_); rintro e w1 ⟨⟨qn, rfl⟩, hb1⟩; obtain ⟨osB, dB, rfl⟩ := ext_of_below hb1; clear hb1)))
  all_goals
    go_wp2
    refine wp_loop_rounds 1 ?_
    rw [rounds_succ]
    go_wp2
    refine wp_loop_rounds 1 ?_
    rw [rounds_succ]
    go_wp2
    go_returns
    exact ⟨⟨ql, qn, rfl⟩, by (repeat' (first | (with_reducible exact Below.refl _ _) | (with_reducible assumption) | (with_reducible refine Below.alloc ?_ ?_ _) | (with_reducible refine below_drewN ?_ _) | (with_reducible refine below_drew ?_) | (with_reducible refine below_ext ?_ ?_ _ _) | (with_reducible refine Below.setCell ?_ ?_ _) | (simp; done) | (simp; omega) | omega))⟩
end Go.Proofs.YtjkallelniggpaaGreatDoor
namespace Go.Proofs.YtjkallelniggpaaGreatDoor
open Go.RowKit Word Txt
attribute [local go_sem] setCell_drewN cell?_ext frozen?_ext shape?_ext setCell_ext lt_1' ne_1' en_1' le_1' lt_2' ne_2' en_2' le_2' lt_3' ne_3' en_3' le_3' lt_4' ne_4' en_4' le_4' lt_5' ne_5' en_5' le_5' lt_6' ne_6' en_6' le_6' lt_7' ne_7' en_7' le_7' lt_8' ne_8' en_8' le_8' lt_9' ne_9' en_9' le_9' lt_10' ne_10' en_10' le_10' lt_11' ne_11' en_11' le_11' lt_12' ne_12' en_12' le_12'

/-- what single values come to: a number or null; an error -/
def outN (p : Int) (vs : List V) : Option NN × Int :=
  if p = 11 then (some (false, vs.length, 0), 0)
  else match vs with
    | [] => (none, 0)
    | v0 :: r => if ((v0 :: r).all fun v => v.kind == 2) = true then (if (foldN p (numV v0) (r.map numV)).2 = 0 then some (foldN p (numV v0) (r.map numV)).1 else none, (foldN p (numV v0) (r.map numV)).2) else (none, 0)
def NumX (o : Option NN) (x : Value) : Prop := match o with
  | some a => ∃ pl cl pn cn, x = NC a pl cl pn cn
  | none => x = ZV
def NumQ (o : Option NN × Int) (w : World) (e : Ending) (w' : World) : Prop := ∃ x, e = .returned (.tuple #[x, .int .i64 o.2]) ∧ Below w.heap.size w w' ∧ NumX o.1 x
theorem FoldQ.num {r : NN × Int} {w : World} {e : Ending} {w' : World} (h : FoldQ r w e w') : NumQ (if r.2 = 0 then some r.1 else none, r.2) w e w' := by
  obtain ⟨x, h1, h2, h3, h4⟩ := h
  refine ⟨x, h1, h2, ?_⟩
  by_cases h0 : r.2 = 0
  · rw [if_pos h0]
    exact h3 h0
  · rw [if_neg h0]
    exact h4 h0
set_option maxRecDepth 100000 in
set_option maxHeartbeats 8000000 in
theorem fold_null (p : Int) (n : Nat) (w : World) (vs : List V) (pn : Option Addr) (nn cn : Nat) (po : Option Addr) (no co : Nat) (rv : Value) (hR : WSl n w (vs.map fun v => [v]) rv) (fR : Few (vs.map fun v => [v])) (hnw : n ≤ w.heap.size)
    (hall : ¬ (vs.all fun v => v.kind == 2) = true) :
    Calls Tryz.prog 30 #[.agg #[.slice pn nn cn, .slice po no co, rv], .int .i64 p] w fun e w' => e = .returned (.tuple #[ZV, .int .i64 0]) ∧ Below w.heap.size w w' := by
  have HAL := Lib.hid (show ∀ w1, Below w.heap.size w w1 → Calls Tryz.prog 45 #[rv, .func (.func 56) #[] #[]] w1 fun e w' => e = .returned (.bool false) ∧ Below w1.heap.size w1 w' from fun w1 hb => by
    have := allW_any 56 #[] (enters_of Tryz.func56 (by kernel_rfl) rfl) (fun l => match l with | v :: _ => v.kind == 2 | [] => false) n w1 _ rv (hR.below (hb.mono hnw)) fR.1 (Nat.le_trans hnw hb.size) (fun l hl w' x hb' ha => by
      rw [List.mem_map] at hl
      obtain ⟨v, -, rfl⟩ := hl
      have := k2_any n w' v x ha
      simpa using this)
    rw [List.all_map] at this
    refine this.mono fun e w' ⟨h1, h2⟩ => ⟨?_, h2⟩
    rw [h1]
    exact congrArg (fun b => Ending.returned (.bool b)) (Bool.eq_false_iff.2 hall))
  obtain ⟨pr, cr, hrv⟩ := hR.shape
  subst hrv
  obtain ⟨m, hm⟩ : ∃ m, m = (vs.map fun v => [v]).length := ⟨_, rfl⟩
  rw [← hm] at HAL ⊢
  clear hR fR hall hm
  go_enter Tryz.func30, Tryz.ntmps30
  go_wp2_with (go_at_call 45; ((with_reducible refine (HAL.out _ (by (repeat' (first | (with_reducible exact Below.refl _ _) | (with_reducible assumption) | (with_reducible refine Below.alloc ?_ ?_ _) | (with_reducible refine below_drewN ?_ _) | (with_reducible refine below_drew ?_) | (with_reducible refine below_ext ?_ ?_ _ _) | (with_reducible refine Below.setCell ?_ ?_ _) | (simp; done) | (simp; omega) | omega)))).mono ?_); rintro e w1 ⟨rfl, hb1⟩; obtain ⟨osA, dA, rfl⟩ := ext_of_below hb1; clear hb1))
  go_returns
  exact ⟨rfl, by (repeat' (first | (with_reducible exact Below.refl _ _) | (with_reducible assumption) | (with_reducible refine Below.alloc ?_ ?_ _) | (with_reducible refine below_drewN ?_ _) | (with_reducible refine below_drew ?_) | (with_reducible refine below_ext ?_ ?_ _ _) | (with_reducible refine Below.setCell ?_ ?_ _) | (simp; done) | (simp; omega) | omega))⟩
theorem fold_any (p : Int) (hp : p = 8 ∨ p = 9 ∨ p = 10) (n : Nat) (w : World) (vs : List V) (hvs : vs ≠ []) (pn : Option Addr) (nn cn : Nat) (po : Option Addr) (no co : Nat) (rv : Value) (hR : WSl n w (vs.map fun v => [v]) rv) (fR : Few (vs.map fun v => [v])) (hc : ∀ v ∈ vs, v.code = 0) (hnw : n ≤ w.heap.size) (hT : Tens w) :
    Calls Tryz.prog 30 #[.agg #[.slice pn nn cn, .slice po no co, rv], .int .i64 p] w fun e w' => NumQ (outN p vs) w e w' := by
  cases vs with
  | nil => exact absurd rfl hvs
  | cons v0 r =>
    by_cases hall : ((v0 :: r).all fun v => v.kind == 2) = true
    · have e : outN p (v0 :: r) = (if (foldN p (numV v0) (r.map numV)).2 = 0 then some (foldN p (numV v0) (r.map numV)).1 else none, (foldN p (numV v0) (r.map numV)).2) := by
        unfold outN
        rw [if_neg (by omega)]
        exact if_pos hall
      rw [e]
      exact (fold_num p hp n w v0 r pn nn cn po no co rv hR fR hc hnw hT hall).mono fun e w' h => h.num
    · have e : outN p (v0 :: r) = (none, 0) := by
        unfold outN
        rw [if_neg (by omega)]
        exact if_neg hall
      rw [e]
      exact (fold_null p n w (v0 :: r) pn nn cn po no co rv hR fR hnw hall).mono fun e w' ⟨h1, h2⟩ => ⟨ZV, h1, h2, rfl⟩
set_option maxRecDepth 100000 in
set_option maxHeartbeats 8000000 in
theorem decide_num (p : Int) (hp : 8 ≤ p ∧ p ≤ 11) (n : Nat) (w : World) (vs : List V) (nv ov rv : Value) (hN : ∃ a b c, nv = .slice a b c) (hO : ∃ a b c, ov = .slice a b c) (hR : WSl n w (vs.map fun v => [v]) rv) (fR : Few (vs.map fun v => [v])) (hc : ∀ v ∈ vs, v.code = 0) (hnw : n ≤ w.heap.size) (hT : Tens w) :
    Calls Tryz.prog 17 #[.agg #[nv, ov, rv], .int .i64 p] w fun e w' => NumQ (outN p vs) w e w' := by
  obtain ⟨pn, nn, cn, rfl⟩ := hN
  obtain ⟨po, no, co, rfl⟩ := hO
  have hlm : (vs.map fun v => [v]).length = vs.length := List.length_map _
  by_cases h11 : p = 11
  · subst h11
    have hl9 := fR.1
    have HO := Lib.hid (fun w => dof_any (vs.length : Int) (by rw [hlm] at hl9; simp [Lit.wf, IntKind.min, IntKind.max, IntKind.signed, IntKind.bits]; omega) w)
    obtain ⟨pr, cr, rfl⟩ := hR.shape
    rw [hlm] at hl9 ⊢
    have e : outN 11 vs = (some (false, vs.length, 0), 0) := if_pos rfl
    rw [e]
    obtain ⟨m, hm⟩ : ∃ m, m = vs.length := ⟨_, rfl⟩
    rw [← hm] at HO ⊢
    have HO2 := Lib.hid (show ∀ w, Calls Tryz.prog 28 #[.int .i64 (m : Int)] w fun e w' => e = .returned (D false m 0) ∧ Below w.heap.size w w' from fun w => (HO.out w).mono fun e w' ⟨h1, h2⟩ => ⟨by rw [h1]; simp, h2⟩)
    have HX := Lib.hid (show ∃ pl cl pn cn, (Value.agg #[.int .i64 2, .bool false, .bool false, .int .u64 (Word.hi m : Int), .int .u64 (Word.lo m : Int), .int .i64 0, .string ⟨#[]⟩, .int .i64 0, .slice none 0 0, .slice none 0 0]) = NC (false, m, 0) pl cl pn cn from ⟨none, 0, none, 0, rfl⟩)
    clear hR fR hc hlm hm HO e hT
    go_enter Tryz.func17, Tryz.ntmps17
    go_wp2_with (go_at_call 28; ((with_reducible refine (HO2.out _).mono ?_); rintro e w1 ⟨rfl, hb1⟩; obtain ⟨osA, dA, rfl⟩ := ext_of_below hb1; clear hb1))
    go_returns
    exact (show ∃ x, _ from ⟨_, rfl, by (repeat' (first | (with_reducible exact Below.refl _ _) | (with_reducible assumption) | (with_reducible refine Below.alloc ?_ ?_ _) | (with_reducible refine below_drewN ?_ _) | (with_reducible refine below_drew ?_) | (with_reducible refine below_ext ?_ ?_ _ _) | (with_reducible refine Below.setCell ?_ ?_ _) | (simp; done) | (simp; omega) | omega)), HX.out⟩)
  · have hp3 : p = 8 ∨ p = 9 ∨ p = 10 := by omega
    by_cases hvs : vs = []
    · have e : outN p vs = (none, 0) := by
        unfold outN
        rw [if_neg h11, hvs]
      rw [e]
      obtain ⟨pr, cr, rfl⟩ := hR.shape
      rw [hlm, hvs, List.length_nil]
      clear hR fR hc hlm e hT hvs hp h11
      rcases hp3 with rfl | rfl | rfl
      all_goals
        go_enter Tryz.func17, Tryz.ntmps17
        go_wp2
        go_returns
        exact (show ∃ x, _ from ⟨_, rfl, by (repeat' (first | (with_reducible exact Below.refl _ _) | (with_reducible assumption) | (with_reducible refine Below.alloc ?_ ?_ _) | (with_reducible refine below_drewN ?_ _) | (with_reducible refine below_drew ?_) | (with_reducible refine below_ext ?_ ?_ _ _) | (with_reducible refine Below.setCell ?_ ?_ _) | (simp; done) | (simp; omega) | omega)), rfl⟩)
    · have HF := Lib.hid (show ∀ w1, Below w.heap.size w w1 → _ from fun w1 hb => fold_any p hp3 n w1 vs hvs pn nn cn po no co rv (hR.below (hb.mono hnw)) fR hc (Nat.le_trans hnw hb.size) (hT.below hb))
      obtain ⟨pr, cr, rfl⟩ := hR.shape
      have hpos : (vs.length : Int) ≠ 0 := by
        have : vs.length ≠ 0 := fun h => hvs (List.length_eq_zero_iff.1 h)
        omega
      rw [hlm] at HF ⊢
      obtain ⟨m, hm⟩ : ∃ m, m = vs.length := ⟨_, rfl⟩
      rw [← hm] at HF hpos ⊢
      have hpos2 : ((m : Int) == 0) = false := beq_eq_false_iff_ne.2 hpos
      obtain ⟨r, hr⟩ : ∃ r, r = outN p vs := ⟨_, rfl⟩
      rw [← hr] at HF ⊢
      obtain ⟨ro, re⟩ := r
      clear hR fR hc hlm hm hr hT hvs hp h11
      rcases hp3 with rfl | rfl | rfl
      all_goals
        cases ro with
        | none =>
          go_enter Tryz.func17, Tryz.ntmps17
          go_wp2_with (go_at_call 30; ((with_reducible refine (HF.out _ (by (repeat' (first | (with_reducible exact Below.refl _ _) | (with_reducible assumption) | (with_reducible refine Below.alloc ?_ ?_ _) | (with_reducible refine below_drewN ?_ _) | (with_reducible refine below_drew ?_) | (with_reducible refine below_ext ?_ ?_ _ _) | (with_reducible refine Below.setCell ?_ ?_ _) | (simp; done) | (simp; omega) | omega)))).mono ?_); rintro e w1 ⟨x, rfl, hb1, hx⟩; obtain rfl := (show x = ZV from hx); obtain ⟨osA, dA, rfl⟩ := ext_of_below hb1; clear hb1 hx))
          go_returns
          exact (show ∃ x, _ from ⟨_, rfl, by (repeat' (first | (with_reducible exact Below.refl _ _) | (with_reducible assumption) | (with_reducible refine Below.alloc ?_ ?_ _) | (with_reducible refine below_drewN ?_ _) | (with_reducible refine below_drew ?_) | (with_reducible refine below_ext ?_ ?_ _ _) | (with_reducible refine Below.setCell ?_ ?_ _) | (simp; done) | (simp; omega) | omega)), rfl⟩)
        | some a =>
          obtain ⟨an, ac, az⟩ := a
          go_enter Tryz.func17, Tryz.ntmps17
          go_wp2_with (go_at_call 30; ((with_reducible refine (HF.out _ (by (repeat' (first | (with_reducible exact Below.refl _ _) | (with_reducible assumption) | (with_reducible refine Below.alloc ?_ ?_ _) | (with_reducible refine below_drewN ?_ _) | (with_reducible refine below_drew ?_) | (with_reducible refine below_ext ?_ ?_ _ _) | (with_reducible refine Below.setCell ?_ ?_ _) | (simp; done) | (simp; omega) | omega)))).mono ?_); rintro e w1 ⟨x, rfl, hb1, hx⟩; obtain ⟨pl, cl, pn2, cn2, rfl⟩ := (show ∃ pl cl pn cn, x = NC (an, ac, az) pl cl pn cn from hx); have HNX := Lib.hid hx; obtain ⟨osA, dA, rfl⟩ := ext_of_below hb1; clear hb1 hx))
          go_returns
          exact (show ∃ x, _ from ⟨_, rfl, by (repeat' (first | (with_reducible exact Below.refl _ _) | (with_reducible assumption) | (with_reducible refine Below.alloc ?_ ?_ _) | (with_reducible refine below_drewN ?_ _) | (with_reducible refine below_drew ?_) | (with_reducible refine below_ext ?_ ?_ _ _) | (with_reducible refine Below.setCell ?_ ?_ _) | (simp; done) | (simp; omega) | omega)), HNX.out⟩)
end Go.Proofs.YtjkallelniggpaaGreatDoor
