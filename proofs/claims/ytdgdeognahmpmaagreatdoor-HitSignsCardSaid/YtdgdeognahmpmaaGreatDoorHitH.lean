/-
  A value without text and parts, cloned.
-/
import Derived.Test.YtdgdeognahmpmaaGreatDoorHitG
import Derived.Deep.Upon
namespace Go.Proofs.YtdgdeognahmpmaaGreatDoor
open Go.RowKit Word Txt
attribute [local go_sem] setCell_drewN cell?_ext frozen?_ext shape?_ext setCell_ext lt_1' ne_1' en_1' le_1' lt_2' ne_2' en_2' le_2' lt_3' ne_3' en_3' le_3' lt_4' ne_4' en_4' le_4' lt_5' ne_5' en_5' le_5' lt_6' ne_6' en_6' le_6' lt_7' ne_7' en_7' le_7' lt_8' ne_8' en_8' le_8' lt_9' ne_9' en_9' le_9' lt_10' ne_10' en_10' le_10' lt_11' ne_11' en_11' le_11' lt_12' ne_12' en_12' le_12'

theorem src_none {P : Program} {tx e' : TypeId} {size : Nat} (hk : P.underlying tx = some (.slice e')) (w : World) (p : Option Addr) (c : Nat) : Src P size tx (.slice p 0 c) 0 [] w := by
  cases p with
  | none => exact Src.ofNil w hk c
  | some a => exact Src.ofSlice w hk a 0 c [] (by simp) (fun j u hu => by simp at hu) (fun u hu => by cases hu)
theorem wpList_append_nil {P : Program} {ops : Array Oper} {rest : List Oper} {o : Oper} {a : Act} {w : World} {Q : Exit → Act → World → Prop} (hgd : o.guard = none) (s x : Operand) (t : TypeId)
    (ho : o.op = .call { callee := .builtin .append, args := #[s, x], argTypes := #[t, t] }) (e : TypeId) (i : TypeInfo) (ht : P.underlying t = some (.slice e)) (hi : P.info? e = some i)
    (base : Option Addr) (hs : a.eval s = .slice base 0 0) (p : Option Addr) (c : Nat) (hx : a.eval x = .slice p 0 c)
    (h : wpList P ops Q rest (a.put o.dst (.slice base 0 0)) w) : wpList P ops Q (o :: rest) a w := by
  refine wpList_plain hgd fun K hK => ?_
  have hr := run_append_nothing (P := P) w t t o.type e i ht hi base 0 0 (Nat.le_refl _) (.slice p 0 c) (src_none ht w p c)
  unfold Oper.wp execOp
  simp only [ho, resolve, invoke, builtin, Sem.run_bind, Sem.run_pure, Result.andThen_ok, List.map_toArray, List.map_cons, List.map_nil, hs, hx, hr]
  exact hK _ _ h
theorem infoValH : (Tryz.prog.info? 34).map (fun i => i.size) = some 10 := by kernel_rfl
theorem infoStrH : (Tryz.prog.info? 9).map (fun i => i.size) = some 1 := by kernel_rfl
theorem cloneS_nil (w : World) : Calls Tryz.prog 71 #[.string ⟨#[]⟩] w fun e w' => e = .returned (.string ⟨#[]⟩) ∧ w' = w := by
  have HI := Lib.hid (show Calls Tryz.prog 105 #[.string ⟨#[]⟩] w fun e w' => e = .returned (.string ⟨#[]⟩) ∧ w' = w by
    go_enter Tryz.func105, Tryz.ntmps105
    go_wp2
    go_ret
    exact ⟨rfl, rfl⟩)
  go_enter Tryz.func71, Tryz.ntmps71
  go_wp2_with (go_at_call 105; ((with_reducible refine HI.out.mono ?_); rintro e w1 ⟨rfl, rfl⟩))
  go_ret
  exact ⟨rfl, rfl⟩
set_option maxRecDepth 100000 in
theorem cloneV_nil (p : Option Addr) (c : Nat) (w : World) : Calls Tryz.prog 72 #[.slice p 0 c] w fun e w' => (∃ q, e = .returned (.slice q 0 0)) ∧ Below w.heap.size w w' := by
  obtain ⟨i0, hi0, -⟩ : ∃ i, Tryz.prog.info? 34 = some i ∧ i.size = 10 := by
    have := infoValH
    cases h : Tryz.prog.info? 34 with
    | none => rw [h] at this; cases this
    | some i => rw [h] at this; exact ⟨i, rfl, by simpa using this⟩
  cases p with
  | none =>
    have he : ∀ w : World, (binOp .eql 24 (.slice none 0 c) (.slice none 0 0)).run Tryz.prog w = .ok (.bool true) w := fun _ => rfl
    go_enter Tryz.func72, Tryz.ntmps72
    go_wp2
    go_ret
    exact ⟨⟨none, rfl⟩, Below.refl _ _⟩
  | some a =>
    have he : ∀ w : World, (binOp .eql 24 (.slice (some a) 0 c) (.slice none 0 0)).run Tryz.prog w = .ok (.bool false) w := fun _ => rfl
    go_enter Tryz.func72, Tryz.ntmps72
    go_wp2_with (at_builtin; refine wpList_append_nil rfl _ _ 24 rfl 34 i0 Tryz.underlying24 hi0 _ rfl _ _ rfl ?_)
    go_ret
    exact ⟨⟨_, rfl⟩, by (repeat' (first | (with_reducible exact Below.refl _ _) | (with_reducible assumption) | (with_reducible refine Below.alloc ?_ ?_ _) | (with_reducible refine below_drewN ?_ _) | (with_reducible refine below_drew ?_) | (with_reducible refine below_ext ?_ ?_ _ _) | (with_reducible refine Below.setCell ?_ ?_ _) | (simp; done) | (simp; omega) | omega))⟩
set_option maxRecDepth 100000 in
theorem cloneN_nil (p : Option Addr) (c : Nat) (w : World) : Calls Tryz.prog 73 #[.slice p 0 c] w fun e w' => (∃ q, e = .returned (.slice q 0 0)) ∧ Below w.heap.size w w' := by
  obtain ⟨i0, hi0, -⟩ : ∃ i, Tryz.prog.info? 9 = some i ∧ i.size = 1 := by
    have := infoStrH
    cases h : Tryz.prog.info? 9 with
    | none => rw [h] at this; cases this
    | some i => rw [h] at this; exact ⟨i, rfl, by simpa using this⟩
  cases p with
  | none =>
    have he : ∀ w : World, (binOp .eql 22 (.slice none 0 c) (.slice none 0 0)).run Tryz.prog w = .ok (.bool true) w := fun _ => rfl
    go_enter Tryz.func73, Tryz.ntmps73
    go_wp2
    go_ret
    exact ⟨⟨none, rfl⟩, Below.refl _ _⟩
  | some a =>
    have he : ∀ w : World, (binOp .eql 22 (.slice (some a) 0 c) (.slice none 0 0)).run Tryz.prog w = .ok (.bool false) w := fun _ => rfl
    go_enter Tryz.func73, Tryz.ntmps73
    go_wp2_with (at_builtin; refine wpList_append_nil rfl _ _ 22 rfl 9 i0 Tryz.underlying22 hi0 _ rfl _ _ rfl ?_)
    go_ret
    exact ⟨⟨_, rfl⟩, by (repeat' (first | (with_reducible exact Below.refl _ _) | (with_reducible assumption) | (with_reducible refine Below.alloc ?_ ?_ _) | (with_reducible refine below_drewN ?_ _) | (with_reducible refine below_drew ?_) | (with_reducible refine below_ext ?_ ?_ _ _) | (with_reducible refine Below.setCell ?_ ?_ _) | (simp; done) | (simp; omega) | omega))⟩
set_option maxRecDepth 100000 in
set_option maxHeartbeats 8000000 in
theorem clone_flat (k : Int) (an : Bool) (x3 x4 az : Int) (pl : Option Addr) (cl : Nat) (pn : Option Addr) (cn : Nat) (w : World) : Calls Tryz.prog 40 #[.agg #[.int .i64 k, .bool false, .bool an, .int .u64 x3, .int .u64 x4, .int .i64 az, .string ⟨#[]⟩, .int .i64 0, .slice pl 0 cl, .slice pn 0 cn]] w fun e w' =>
    (∃ ql qn, e = .returned (.agg #[.int .i64 k, .bool false, .bool an, .int .u64 x3, .int .u64 x4, .int .i64 az, .string ⟨#[]⟩, .int .i64 0, .slice ql 0 0, .slice qn 0 0])) ∧ Below w.heap.size w w' := by
  have HS := Lib.hid cloneS_nil
  have HV := Lib.hid (fun p c w => cloneV_nil p c w)
  have HN := Lib.hid (fun p c w => cloneN_nil p c w)
  go_enter Tryz.func40, Tryz.ntmps40
  go_wp2_with (go_at_call 71; ((with_reducible refine (HS.out _).mono ?_); rintro e w1 ⟨rfl, rfl⟩))
  go_region_with (first
    | (go_at_call 72; ((with_reducible refine (HV.out _ _ _).mono ?_); rintro e w1 ⟨⟨ql, rfl⟩, hb1⟩; obtain ⟨osA, dA, rfl⟩ := ext_of_below hb1; clear hb1))
    | (go_at_call 73; ((with_reducible refine (HN.out _ _ _).mono ?_); rintro e w1 ⟨⟨qn, rfl⟩, hb1⟩; obtain ⟨osB, dB, rfl⟩ := ext_of_below hb1; clear hb1)))
  all_goals
    go_wp2
    refine wp_loop_rounds 1 ?_
    rw [rounds_succ]
    go_wp2
    refine wp_loop_rounds 1 ?_
    rw [rounds_succ]
    go_wp2
    go_returns
    exact ⟨⟨ql, qn, rfl⟩, by (repeat' (first | (with_reducible exact Below.refl _ _) | (with_reducible assumption) | (with_reducible refine Below.alloc ?_ ?_ _) | (with_reducible refine below_drewN ?_ _) | (with_reducible refine below_drew ?_) | (with_reducible refine below_ext ?_ ?_ _ _) | (with_reducible refine Below.setCell ?_ ?_ _) | (simp; done) | (simp; omega) | omega))⟩
end Go.Proofs.YtdgdeognahmpmaaGreatDoor
