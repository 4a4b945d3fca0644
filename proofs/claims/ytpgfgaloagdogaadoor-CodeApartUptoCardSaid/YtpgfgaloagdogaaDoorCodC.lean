/-
  The map of states that the call makes: what it holds.
-/
import Derived.Test.YtpgfgaloagdogaaDoorCodB
import Derived.Maps.OwnSet
import Derived.Maps.OwnOps
import Derived.Maps.Views
import Derived.Laws.StructEq
namespace Go.Proofs.YtpgfgaloagdogaaDoor
open Go.RowKit Go.Maps Go.WideMaps Vm
attribute [local go_sem] setCell_drewN cell?_ext frozen?_ext shape?_ext setCell_ext lt_1' ne_1' en_1' le_1' lt_2' ne_2' en_2' le_2' lt_3' ne_3' en_3' le_3' lt_4' ne_4' en_4' le_4' lt_5' ne_5' en_5' le_5' lt_6' ne_6' en_6' le_6' lt_7' ne_7' en_7' le_7' lt_8' ne_8' en_8' le_8' lt_9' ne_9' en_9' le_9' lt_10' ne_10' en_10' le_10' lt_11' ne_11' en_11' le_11' lt_12' ne_12' en_12' le_12'

/-- a state as a value -/
abbrev StV (s : St) : Value := .agg #[.int .i64 s.1, .int .i64 s.2]
def stDat (s : St) : DataW Unit := .agg [.lit (.int .i64 s.1), .lit (.int .i64 s.2)]
theorem stV_inj {s u : St} (h : StV s = StV u) : s = u := by
  injection h with h
  simp at h
  exact Prod.ext h.1 h.2
theorem stDat_inj {s u : St} (h : stDat s = stDat u) : s = u := by
  unfold stDat at h
  simp at h
  exact Prod.ext h.1 h.2
open Classical in
/-- how a state in a map reads -/
noncomputable def stElem (v : Value) : Option (DataW Unit × List MemPlace) := if h : ∃ s : St, v = StV s then some (stDat h.choose, []) else none
theorem stElem_mk (s : St) : stElem (StV s) = some (stDat s, []) := by
  unfold stElem
  have h : ∃ u : St, StV s = StV u := ⟨s, rfl⟩
  rw [dif_pos h, ← stV_inj h.choose_spec]
theorem stElem_inv {v : Value} {s : St} {ps : List MemPlace} (h : stElem v = some (stDat s, ps)) : v = StV s := by
  unfold stElem at h
  split at h
  · rename_i hx
    injection h with h
    injection h with h1 h2
    rw [hx.choose_spec, stDat_inj h1]
  · cases h
theorem mapLaw : Keyed Tryd.prog 3 := int_keyed Tryd.underlying3
theorem zeroSt (w : World) : (zeroValue 60).run Tryd.prog w = .ok (StV (0, 0)) w := by kernel_rfl
/-- the datum says this of its keys -/
def Tells (D : DataW Unit) (m : Nat → Option St) : Prop := IsMap D ∧ ∀ j : Nat, Maps.has D (.int .i64 (j : Int)) = (m j).isSome ∧ D.atKey (.int .i64 (j : Int)) (stDat (0, 0)) = stDat ((m j).getD (0, 0))
theorem tells_nil : Tells (.map []) (fun _ => none) := ⟨isMap_empty, fun _ => ⟨rfl, rfl⟩⟩
theorem key_int (z : Int) : WideAt.IsKeyLit (Lit.int .i64 z) := by first | trivial | exact ⟨_, rfl⟩ | simp [WideAt.IsKeyLit]
theorem Tells.put {D : DataW Unit} {m : Nat → Option St} (h : Tells D m) (k : Nat) (s : St) : Tells (D.put (.int .i64 (k : Int)) (stDat s)) (fun j => if j = k then some s else m j) := by
  refine ⟨h.1.put _ _, fun j => ?_⟩
  show Maps.has _ _ = (if j = k then some s else m j).isSome ∧ DataW.atKey _ _ _ = stDat ((if j = k then some s else m j).getD (0, 0))
  by_cases e : j = k
  · subst e
    rw [if_pos rfl]
    exact ⟨has_put_same h.1 (key_int _) _, atKey_put_same h.1 (key_int _) _ _⟩
  · rw [if_neg e]
    have hne : Lit.int .i64 (j : Int) ≠ Lit.int .i64 (k : Int) := fun h => by
      injection h with _ h
      exact e (by omega)
    rw [has_put_other hne, atKey_put_other hne]
    exact h.2 j
theorem Tells.congr {D : DataW Unit} {m m' : Nat → Option St} (h : Tells D m) (e : ∀ j, m j = m' j) : Tells D m' := ⟨h.1, fun j => by rw [← e j]; exact h.2 j⟩
/-- block b is a map of at most n entries that holds m -/
def MapIs (w : World) (b n : Nat) (m : Nat → Option St) : Prop := ∃ D : DataW Unit, w.ownsMap Tryd.prog 3 stElem b n D ∧ Tells D m
theorem MapIs.lt {w : World} {b n : Nat} {m : Nat → Option St} (h : MapIs w b n m) : b < w.heap.size := h.elim fun _ h => h.1.lt
theorem MapIs.kept {w w' : World} {b n : Nat} {m : Nat → Option St} (h : MapIs w b n m) {row : Option Nat} (hg : w.grownBy w' row) (hne : some b ≠ row) : MapIs w' b n m := h.elim fun D h => ⟨D, h.1.kept hg hne, h.2⟩
theorem MapIs.new {w w' : World} {b n : Nat} {m : Nat → Option St} (h : MapIs w b n m) (hb : Below w.heap.size w w') : MapIs w' b n m :=
  h.kept (row := none) ⟨hb.os, hb.tape, hb.output, hb.size, fun k hk _ => hb.block k hk⟩ (by simp)
section
variable (w : World) {ops : Array Oper} {rest : List Oper} {o : Oper} {a : Act} {Q : Exit → Act → World → Prop}
theorem wpList_look_st (hg : o.guard = none) (mo x : Operand) (hop : o.op = Op.lookup 77 mo x true) {b n : Nat} {m : Nat → Option St} (hm : a.eval mo = .map (some b)) (hown : MapIs w b n m) (j : Nat) {z : Int} (hz : z = (j : Int)) (hj : j ≤ 1000000) (hx : a.eval x = .int .i64 z)
    (hK : wpList Tryd.prog ops Q rest (a.put o.dst (.tuple #[StV ((m j).getD (0, 0)), .bool (m j).isSome])) w) : wpList Tryd.prog ops Q (o :: rest) a w := by
  subst hz
  obtain ⟨D, hD, ht⟩ := hown
  have hkey : keyOf Tryd.prog 3 (.int .i64 (j : Int)) = some (.int .i64 (j : Int)) := keyOf_int_mk Tryd.underlying3 (WalkArith.wf_i64 (by omega))
  refine wpList_lookup_own_ok w hg mo x _ hop 3 60 mapLaw Tryd.underlying77 stElem (zeroSt w) (stDat (0, 0)) [] (stElem_mk _) b n D hm hD _ _ hx hkey fun v ps hv => ?_
  rw [(ht.2 j).2] at hv
  rw [stElem_inv hv, (ht.2 j).1]
  exact hK
theorem wpList_put_st (hg : o.guard = none) (mo x v : Operand) (hop : o.op = Op.mapUpdate 77 mo x v) {b n : Nat} {m : Nat → Option St} (hm : a.eval mo = .map (some b)) (hown : MapIs w b n m) (hn : n ≤ 1000000) (j : Nat) {z : Int} (hz : z = (j : Int)) (hj : j ≤ 1000000) (hx : a.eval x = .int .i64 z) (s : St) (hv : a.eval v = StV s)
    (hK : ∀ w', MapIs w' b (n + 1) (fun i => if i = j then some s else m i) → w.grownBy w' (some b) → wpList Tryd.prog ops Q rest (a.put o.dst undef) w') : wpList Tryd.prog ops Q (o :: rest) a w := by
  subst hz
  obtain ⟨D, hD, ht⟩ := hown
  have hkey : keyOf Tryd.prog 3 (.int .i64 (j : Int)) = some (.int .i64 (j : Int)) := keyOf_int_mk Tryd.underlying3 (WalkArith.wf_i64 (by omega))
  exact wpList_mapUpdate_in w hg mo x v _ hop 3 60 mapLaw Tryd.underlying77 stElem b n D hm hD (by unfold maxLen; omega) _ _ _ hx hv hkey _ [] (stElem_mk s) fun w' h1 h2 => hK w' ⟨_, h1, ht.put j s⟩ h2.grown
theorem wpList_ins_st (hg : o.guard = none) (mo x v : Operand) (hop : o.op = Op.insert 77 mo x v) {b n : Nat} {m : Nat → Option St} (hm : a.eval mo = .map (some b)) (hown : MapIs w b n m) (hn : n ≤ 1000000) (j : Nat) {z : Int} (hz : z = (j : Int)) (hj : j ≤ 1000000) (hx : a.eval x = .int .i64 z) (s : St) (hv : a.eval v = StV s)
    (hK : ∀ w', MapIs w' b (n + 1) (fun i => if i = j then some s else m i) → w.grownBy w' (some b) → wpList Tryd.prog ops Q rest (a.put o.dst undef) w') : wpList Tryd.prog ops Q (o :: rest) a w := by
  subst hz
  obtain ⟨D, hD, ht⟩ := hown
  have hkey : keyOf Tryd.prog 3 (.int .i64 (j : Int)) = some (.int .i64 (j : Int)) := keyOf_int_mk Tryd.underlying3 (WalkArith.wf_i64 (by omega))
  refine wpList_plain hg fun K' hK' => ?_
  obtain ⟨w', hrun, r1, r2⟩ := hD.store mapLaw Tryd.underlying77 (by unfold maxLen; omega) hkey (stElem_mk s)
  unfold Oper.wp
  simp [execOp, hop, hm, hx, hv, hrun, Result.andThen]
  exact hK' _ _ (hK w' ⟨_, r1, ht.put j s⟩ r2.grown)
end
theorem st_eq (a b : St) (w : World) : (Op.equalIn 10000 60 (StV a) (StV b)).run Tryd.prog w = .ok (decide (a = b)) w := by
  have u2 := Tryd.underlying3
  have a2 := Tryd.isAgg3
  have z2 := Tryd.sizeOf3
  have hS : Tryd.prog.underlying 60 = some (.struct (Tryd.prog.fieldsOf 60)) := by kernel_rfl
  have hp : Tryd.prog.stoodInHeld 60 = false := by kernel_rfl
  have hd : decide (a = b) = (a.1 == b.1 && a.2 == b.2) := by
    rw [Bool.eq_iff_iff]; simp [Prod.ext_iff]
  rw [hd, show (10000 : Nat) = 9999 + 1 from rfl, run_equalIn_agg w 9999 60 _ _ hS hp]
  simp only [Program.fieldsOf, Tryd.underlying60]
  cases h1 : a.1 == b.1 <;> cases h2 : a.2 == b.2 <;> go_simp
end Go.Proofs.YtpgfgaloagdogaaDoor
