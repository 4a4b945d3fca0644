/-
  The question that the statements on code ask first: a choice of three, checked.
-/
import Derived.Test.YtpgfgaloagdogaaDoorNodA
import Derived.Test.YtpgfgaloagdogaaDoorOl
import Derived.Maps.OwnSet
import Derived.Maps.OwnOps
import Derived.Maps.Views
import Derived.StringKeys
import Derived.BigRegion
namespace Go.Proofs.YtpgfgaloagdogaaDoor
open Go.RowKit Go.Maps Go.WideMaps
attribute [local go_sem] setCell_drewN cell?_ext frozen?_ext shape?_ext setCell_ext lt_1' ne_1' en_1' le_1' lt_2' ne_2' en_2' le_2' lt_3' ne_3' en_3' le_3' lt_4' ne_4' en_4' le_4' lt_5' ne_5' en_5' le_5' lt_6' ne_6' en_6' le_6' lt_7' ne_7' en_7' le_7' lt_8' ne_8' en_8' le_8' lt_9' ne_9' en_9' le_9' lt_10' ne_10' en_10' le_10' lt_11' ne_11' en_11' le_11' lt_12' ne_12' en_12' le_12'

/-- a complete item: its place, its depth -/
def itK : El := { T := 85, S := 82, size := 2, bytes := 16, zero := .agg #[.int .i64 0, .int .i64 0] }
theorem itK_ok : itK.Ok Tryd.prog := ⟨Tryd.underlying82, by kernel_rfl, by rfl, by decide, by decide, by decide⟩
def itE (s : Nat × Nat) : List Value := [.int .i64 s.1, .int .i64 s.2]
theorem itE_cells : Cells itK itE := fun s => ⟨rfl, fun u hu => by
  unfold itE at hu
  simp at hu
  rcases hu with rfl | rfl <;> rfl⟩
/-- the four nodes in memory -/
abbrev opC : Nat → Int := fun j => if j = 0 then 2 else if j = 1 then 1 else if j = 2 then 3 else 21
abbrev kidC : Nat → Int := fun j => if j = 3 then 3 else 0
def ChC (w : World) (g : Nat) : Prop := g < w.heap.size ∧ ∀ j, j < 4 → w.cell? ⟨g, j * 8, none⟩ = some (.int .i64 (opC j)) ∧ w.cell? ⟨g, j * 8 + 1, none⟩ = some (.int .i64 (kidC j)) ∧ w.cell? ⟨g, j * 8 + 2, none⟩ = some (.string ⟨#[]⟩) ∧ w.cell? ⟨g, j * 8 + 3, none⟩ = some (.bool false) ∧
  w.cell? ⟨g, j * 8 + 4, none⟩ = some (.int .u64 0) ∧ w.cell? ⟨g, j * 8 + 5, none⟩ = some (.int .u64 0) ∧ w.cell? ⟨g, j * 8 + 6, none⟩ = some (.int .i64 0) ∧ w.cell? ⟨g, j * 8 + 7, none⟩ = some (.int .i64 0)
theorem ChC.new {w w' : World} {g : Nat} (h : ChC w g) (hb : Below w.heap.size w w') : ChC w' g := by
  have hc := fun j => hb.cell (p := ⟨g, j, none⟩) h.1
  refine ⟨Nat.lt_of_lt_of_le h.1 hb.size, fun j hj => ?_⟩
  obtain ⟨h0, h1, h2, h3, h4, h5, h6, h7⟩ := h.2 j hj
  exact ⟨(hc _).trans h0, (hc _).trans h1, (hc _).trans h2, (hc _).trans h3, (hc _).trans h4, (hc _).trans h5, (hc _).trans h6, (hc _).trans h7⟩
set_option maxRecDepth 100000 in
theorem choice_any (w : World) : Calls Tryd.prog 17 #[] w fun e w' => ∃ g, e = .returned (.slice (some ⟨g, 0, none⟩) 4 4) ∧ Below w.heap.size w w' ∧ ChC w' g := by
  go_enter Tryd.func17, Tryd.ntmps17
  go_wp2
  go_ret
  refine ⟨w.heap.size, rfl, by (repeat' (first | (with_reducible exact Below.refl _ _) | (with_reducible assumption) | (with_reducible refine Below.alloc ?_ ?_ _) | (with_reducible refine below_drewN ?_ _) | (with_reducible refine below_drew ?_) | (with_reducible refine below_ext ?_ ?_ _ _) | (with_reducible refine Below.setCell ?_ ?_ _) | (simp; done) | (simp; omega) | omega)), by simp, fun j hj => ?_⟩
  have hj2 : j = 0 ∨ j = 1 ∨ j = 2 ∨ j = 3 := by omega
  rcases hj2 with rfl | rfl | rfl | rfl <;> simp [opC, kidC]
theorem sKey : Keyed Tryd.prog 9 := string_keyed Tryd.underlying9
theorem zInt (w : World) : (zeroValue 3).run Tryd.prog w = .ok (.int .i64 0) w := by kernel_rfl
/-- a map in which the empty text was met k times, and nothing else -/
def EmM (w : World) (b k : Nat) : Prop := ∃ D : DataW Unit, w.ownsMap Tryd.prog 9 (plainElem Tryd.prog 3) b k D ∧ IsMap D ∧ D.atKey (.string []) (.lit (.int .i64 0)) = .lit (.int .i64 (k : Int))
theorem EmM.new {w w' : World} {b k : Nat} (h : EmM w b k) (hb : Below w.heap.size w w') : EmM w' b k :=
  h.elim fun D h => ⟨D, h.1.kept (row := none) ⟨hb.os, hb.tape, hb.output, hb.size, fun k hk _ => hb.block k hk⟩ (by simp), h.2⟩
theorem emptyKey : keyOf Tryd.prog 9 (.string ⟨#[]⟩) = some (.string []) := keyOf_string_mk Tryd.underlying9 (by decide)
theorem strKey (l : List UInt8) : WideAt.IsKeyLit (Lit.string l) := by first | trivial | exact ⟨_, rfl⟩ | simp [WideAt.IsKeyLit]
section
variable (w : World) {ops : Array Oper} {rest : List Oper} {o : Oper} {a : Act} {Q : Exit → Act → World → Prop}
theorem look_em {b k : Nat} (h : EmM w b k) : (Instr.lookup 96 (.map (some b)) (.string ⟨#[]⟩) false).run Tryd.prog w = .ok (.int .i64 (k : Int)) w := by
  obtain ⟨D, hD, hI, hat⟩ := h
  obtain ⟨c, hrun, hc, hwc⟩ := hD.lookup_int (t := 96) sKey Tryd.underlying96 Tryd.underlying3 (zInt w) emptyKey
  rw [hat] at hc
  have h3 : (k : Int) = c := (Lit.int.inj (DataW.lit.inj hc)).2
  rw [h3]
  exact hrun
theorem put_em (hg : o.guard = none) (mo x v : Operand) (hop : o.op = Op.mapUpdate 96 mo x v) {b k : Nat} (hm : a.eval mo = .map (some b)) (hown : EmM w b k) (hn : k ≤ 1000000) (hx : a.eval x = .string ⟨#[]⟩) {z : Int} (hz : z = (k : Int) + 1) (hv : a.eval v = .int .i64 z)
    (hK : ∀ w', EmM w' b (k + 1) → w.grownBy w' (some b) → wpList Tryd.prog ops Q rest (a.put o.dst undef) w') : wpList Tryd.prog ops Q (o :: rest) a w := by
  subst hz
  obtain ⟨D, hD, hI, hat⟩ := hown
  exact wpList_mapUpdate_in w hg mo x v _ hop 9 3 sKey Tryd.underlying96 _ b k D hm hD (by unfold maxLen; omega) _ _ _ hx hv emptyKey _ [] (plainElem_int Tryd.underlying3 (WalkArith.wf_i64 (by omega))) fun w' h1 h2 => hK w' ⟨_, h1, hI.put _ _, by rw [atKey_put_same hI (strKey _)]; rfl⟩ h2.grown
theorem lookw_em (hg : o.guard = none) (mo x : Operand) (hop : o.op = Op.lookup 96 mo x false) {b k : Nat} (hm : a.eval mo = .map (some b)) (hown : EmM w b k) (hx : a.eval x = .string ⟨#[]⟩)
    (hK : wpList Tryd.prog ops Q rest (a.put o.dst (.int .i64 (k : Int))) w) : wpList Tryd.prog ops Q (o :: rest) a w := by
  refine wpList_plain hg fun K' hK' => ?_
  have hrun := look_em w hown
  unfold Oper.wp
  simp [execOp, hop, hm, hx, hrun, Result.andThen]
  exact hK' _ _ hK
end
theorem run_mms (w : World) : (Instr.makeMap 96 none).run Tryd.prog w = .ok (.map (some w.heap.size)) (w.alloc (.map #[] 0)) := by
  simp [Instr.makeMap, go_sem]
theorem em_made (w : World) : EmM (w.alloc (.map #[] 0)) w.heap.size 0 := ⟨.map [], World.ownsMap_made _ _ _ _, isMap_empty, rfl⟩
theorem suited_nil (op : Int) (h : op ≠ 27) (v : Value) (p : Option Addr) (c : Nat) (w : World) : Calls Tryd.prog 49 #[v, .int .i64 op, .slice p 0 c] w fun e w' => e = .returned (.bool true) ∧ Below w.heap.size w w' := by
  have hmm := run_mms
  have n27 : (op != 27) = true := by unfold bne; rw [beq_eq_false_iff_ne.2 h]; rfl
  clear h
  go_enter Tryd.func49, Tryd.ntmps49
  go_wp2
  refine wp_loop_rounds 1 ?_
  rw [rounds_succ]
  go_wp2
  go_ret
  exact ⟨rfl, by (repeat' (first | (with_reducible exact Below.refl _ _) | (with_reducible assumption) | (with_reducible refine Below.alloc ?_ ?_ _) | (with_reducible refine below_drewN ?_ _) | (with_reducible refine below_drew ?_) | (with_reducible refine below_ext ?_ ?_ _ _) | (with_reducible refine Below.setCell ?_ ?_ _) | (simp; done) | (simp; omega) | omega))⟩
set_option maxRecDepth 100000 in
set_option maxHeartbeats 4000000 in
theorem suited_three {B g gd cd : Nat} {w : World} (h : ChC w g) (hd : OL itK itE B w (.slice (some ⟨gd, 0, none⟩) 3 cd) [(0, 1), (1, 1), (2, 1)]) :
    Calls Tryd.prog 49 #[.slice (some ⟨g, 0, none⟩) 4 4, .int .i64 21, .slice (some ⟨gd, 0, none⟩) 3 cd] w fun e w' => e = .returned (.bool true) ∧ Below w.heap.size w w' := by
  have hmm := run_mms
  have HE0 := Lib.hid (em_made w)
  have HB0 := Lib.hid ((Below.refl w.heap.size w).alloc (Nat.le_refl _) (.map #[] 0))
  have hgd : gd < w.heap.size := by
    obtain ⟨q, c, e, h1, -⟩ := OL.form hd
    obtain ⟨g', e2, -, h2⟩ := h1 (by simp)
    injection e with e
    rw [e2] at e
    injection e with e
    injection e with e _ _
    rw [e]; exact h2
  have HC := Lib.hid h
  have HI := Lib.hid (fun j (hj : j < 3) => (⟨OL.cell itE_cells hd j 0 hj rfl, OL.cell itE_cells hd j 1 hj rfl⟩ : w.cell? ⟨gd, j * itK.size + 0, none⟩ = some (.int .i64 (([(0, 1), (1, 1), (2, 1)] : List (Nat × Nat))[j]'hj).1) ∧ w.cell? ⟨gd, j * itK.size + 1, none⟩ = some (.int .i64 (([(0, 1), (1, 1), (2, 1)] : List (Nat × Nat))[j]'hj).2)))
  have hg := h.1
  have HR := Lib.hid role_any
  have HW := Lib.hid wanted_any
  clear h hd
  go_enter Tryd.func49, Tryd.ntmps49
  go_wp2
  go_loopw [14] (fun z wr => ∃ k : Nat, z = .int .i64 k ∧ k ≤ 3 ∧ Hid (EmM wr w.heap.size k) ∧ Hid (Below w.heap.size w wr) ∧ w.heap.size < wr.heap.size) (fun z _ => 3 - (intOf z).toNat)
  case atStart => exact ⟨0, rfl, by omega, HE0, HB0, by simp⟩
  case round =>
    obtain ⟨k, rfl, hk, hem, hbe, hlt⟩ := hrel
    clear HE0 HB0 hmm
    have hk4 : k = 0 ∨ k = 1 ∨ k = 2 ∨ k = 3 := by omega
    have hgr : g < wr.heap.size := Nat.lt_of_lt_of_le hg hbe.out.size
    have hc := fun j => hbe.out.cell (p := ⟨g, j, none⟩) hg
    have hcd := fun j => hbe.out.cell (p := ⟨gd, j, none⟩) hgd
    have HEM := Lib.hid (fun w' (hb : Below wr.heap.size wr w') => hem.out.new hb)
    have HBE := Lib.hid hbe.out
    have hk6 : k ≤ 1000000 := by omega
    rcases hk4 with rfl | rfl | rfl | rfl
    · have i0 : wr.cell? ⟨gd, 0, none⟩ = some (.int .i64 0) := (hcd _).trans (HI.out 0 (by omega)).1
      have i1 : wr.cell? ⟨gd, 1, none⟩ = some (.int .i64 1) := (hcd _).trans (HI.out 0 (by omega)).2
      obtain ⟨n0, n1, n2, n3, n4, n5, n6, n7⟩ := HC.out.2 0 (by omega)
      have m0 : wr.cell? ⟨g, 0, none⟩ = some (.int .i64 2) := (hc _).trans n0
      have m1 : wr.cell? ⟨g, 1, none⟩ = some (.int .i64 0) := (hc _).trans n1
      have m2 : wr.cell? ⟨g, 2, none⟩ = some (.string ⟨#[]⟩) := (hc _).trans n2
      have m3 : wr.cell? ⟨g, 3, none⟩ = some (.bool false) := (hc _).trans n3
      have m4 : wr.cell? ⟨g, 4, none⟩ = some (.int .u64 0) := (hc _).trans n4
      have m5 : wr.cell? ⟨g, 5, none⟩ = some (.int .u64 0) := (hc _).trans n5
      have m6 : wr.cell? ⟨g, 6, none⟩ = some (.int .i64 0) := (hc _).trans n6
      have m7 : wr.cell? ⟨g, 7, none⟩ = some (.int .i64 0) := (hc _).trans n7
      have HR1 := Lib.hid (show ∀ w, Calls Tryd.prog 50 #[.int .i64 2] w fun e w' => e = .returned (.int .i64 0) ∧ w' = w from fun w => HR.out 2 w)
      have HW1 := Lib.hid (show ∀ w, Calls Tryd.prog 65 #[.int .i64 21, .int .i64 0] w fun e w' => e = .returned (.int .i64 0) ∧ w' = w from fun w => HW.out 21 0 w)
      clear n0 n1 n2 n3 n4 n5 n6 n7 hc hcd hem hbe
      go_wp2_with (first
        | (go_at_call 50; ((with_reducible refine (HR1.out _).mono ?_); rintro e w' ⟨rfl, rfl⟩))
        | (go_at_call 65; ((with_reducible refine (HW1.out _).mono ?_); rintro e w' ⟨rfl, rfl⟩))
        | (at_lookup; refine lookw_em _ rfl _ _ rfl rfl (HEM.out _ (by (repeat' (first | (with_reducible exact Below.refl _ _) | (with_reducible assumption) | (with_reducible refine Below.alloc ?_ ?_ _) | (with_reducible refine below_drewN ?_ _) | (with_reducible refine below_drew ?_) | (with_reducible refine below_ext ?_ ?_ _ _) | (with_reducible refine Below.setCell ?_ ?_ _) | (simp; done) | (simp; omega) | omega)))) rfl ?_)
        | (at_mapUpdate; refine put_em _ rfl _ _ _ rfl rfl (HEM.out _ (by (repeat' (first | (with_reducible exact Below.refl _ _) | (with_reducible assumption) | (with_reducible refine Below.alloc ?_ ?_ _) | (with_reducible refine below_drewN ?_ _) | (with_reducible refine below_drew ?_) | (with_reducible refine below_ext ?_ ?_ _ _) | (with_reducible refine Below.setCell ?_ ?_ _) | (simp; done) | (simp; omega) | omega)))) hk6 rfl (by omega) rfl ?_; intro w3 hm3 hg3; have HB3 := Lib.hid (((HBE.out.trans (by (repeat' (first | (with_reducible exact Below.refl _ _) | (with_reducible assumption) | (with_reducible refine Below.alloc ?_ ?_ _) | (with_reducible refine below_drewN ?_ _) | (with_reducible refine below_drew ?_) | (with_reducible refine below_ext ?_ ?_ _ _) | (with_reducible refine Below.setCell ?_ ?_ _) | (simp; done) | (simp; omega) | omega)))).grown hg3 (by simp; omega) (fun j hj => by cases hj; exact Nat.le_refl _)))))
      have hs3 : w.heap.size < w3.heap.size := Nat.lt_of_lt_of_le hlt (Nat.le_trans (by simp; omega) hg3.size)
      clear hg3
      go_roundw
      case rel => exact ⟨1, rfl, by omega, Lib.hid hm3, HB3, hs3⟩
      case measure => simp [intOf]
    · have i0 : wr.cell? ⟨gd, 2, none⟩ = some (.int .i64 1) := (hcd _).trans (HI.out 1 (by omega)).1
      have i1 : wr.cell? ⟨gd, 3, none⟩ = some (.int .i64 1) := (hcd _).trans (HI.out 1 (by omega)).2
      obtain ⟨n0, n1, n2, n3, n4, n5, n6, n7⟩ := HC.out.2 1 (by omega)
      have m0 : wr.cell? ⟨g, 8, none⟩ = some (.int .i64 1) := (hc _).trans n0
      have m1 : wr.cell? ⟨g, 9, none⟩ = some (.int .i64 0) := (hc _).trans n1
      have m2 : wr.cell? ⟨g, 10, none⟩ = some (.string ⟨#[]⟩) := (hc _).trans n2
      have m3 : wr.cell? ⟨g, 11, none⟩ = some (.bool false) := (hc _).trans n3
      have m4 : wr.cell? ⟨g, 12, none⟩ = some (.int .u64 0) := (hc _).trans n4
      have m5 : wr.cell? ⟨g, 13, none⟩ = some (.int .u64 0) := (hc _).trans n5
      have m6 : wr.cell? ⟨g, 14, none⟩ = some (.int .i64 0) := (hc _).trans n6
      have m7 : wr.cell? ⟨g, 15, none⟩ = some (.int .i64 0) := (hc _).trans n7
      have HR1 := Lib.hid (show ∀ w, Calls Tryd.prog 50 #[.int .i64 1] w fun e w' => e = .returned (.int .i64 0) ∧ w' = w from fun w => HR.out 1 w)
      have HW1 := Lib.hid (show ∀ w, Calls Tryd.prog 65 #[.int .i64 21, .int .i64 1] w fun e w' => e = .returned (.int .i64 0) ∧ w' = w from fun w => HW.out 21 1 w)
      clear n0 n1 n2 n3 n4 n5 n6 n7 hc hcd hem hbe
      go_wp2_with (first
        | (go_at_call 50; ((with_reducible refine (HR1.out _).mono ?_); rintro e w' ⟨rfl, rfl⟩))
        | (go_at_call 65; ((with_reducible refine (HW1.out _).mono ?_); rintro e w' ⟨rfl, rfl⟩))
        | (at_lookup; refine lookw_em _ rfl _ _ rfl rfl (HEM.out _ (by (repeat' (first | (with_reducible exact Below.refl _ _) | (with_reducible assumption) | (with_reducible refine Below.alloc ?_ ?_ _) | (with_reducible refine below_drewN ?_ _) | (with_reducible refine below_drew ?_) | (with_reducible refine below_ext ?_ ?_ _ _) | (with_reducible refine Below.setCell ?_ ?_ _) | (simp; done) | (simp; omega) | omega)))) rfl ?_)
        | (at_mapUpdate; refine put_em _ rfl _ _ _ rfl rfl (HEM.out _ (by (repeat' (first | (with_reducible exact Below.refl _ _) | (with_reducible assumption) | (with_reducible refine Below.alloc ?_ ?_ _) | (with_reducible refine below_drewN ?_ _) | (with_reducible refine below_drew ?_) | (with_reducible refine below_ext ?_ ?_ _ _) | (with_reducible refine Below.setCell ?_ ?_ _) | (simp; done) | (simp; omega) | omega)))) hk6 rfl (by omega) rfl ?_; intro w3 hm3 hg3; have HB3 := Lib.hid (((HBE.out.trans (by (repeat' (first | (with_reducible exact Below.refl _ _) | (with_reducible assumption) | (with_reducible refine Below.alloc ?_ ?_ _) | (with_reducible refine below_drewN ?_ _) | (with_reducible refine below_drew ?_) | (with_reducible refine below_ext ?_ ?_ _ _) | (with_reducible refine Below.setCell ?_ ?_ _) | (simp; done) | (simp; omega) | omega)))).grown hg3 (by simp; omega) (fun j hj => by cases hj; exact Nat.le_refl _)))))
      have hs3 : w.heap.size < w3.heap.size := Nat.lt_of_lt_of_le hlt (Nat.le_trans (by simp; omega) hg3.size)
      clear hg3
      go_roundw
      case rel => exact ⟨2, rfl, by omega, Lib.hid hm3, HB3, hs3⟩
      case measure => simp [intOf]
    · have i0 : wr.cell? ⟨gd, 4, none⟩ = some (.int .i64 2) := (hcd _).trans (HI.out 2 (by omega)).1
      have i1 : wr.cell? ⟨gd, 5, none⟩ = some (.int .i64 1) := (hcd _).trans (HI.out 2 (by omega)).2
      obtain ⟨n0, n1, n2, n3, n4, n5, n6, n7⟩ := HC.out.2 2 (by omega)
      have m0 : wr.cell? ⟨g, 16, none⟩ = some (.int .i64 3) := (hc _).trans n0
      have m1 : wr.cell? ⟨g, 17, none⟩ = some (.int .i64 0) := (hc _).trans n1
      have m2 : wr.cell? ⟨g, 18, none⟩ = some (.string ⟨#[]⟩) := (hc _).trans n2
      have m3 : wr.cell? ⟨g, 19, none⟩ = some (.bool false) := (hc _).trans n3
      have m4 : wr.cell? ⟨g, 20, none⟩ = some (.int .u64 0) := (hc _).trans n4
      have m5 : wr.cell? ⟨g, 21, none⟩ = some (.int .u64 0) := (hc _).trans n5
      have m6 : wr.cell? ⟨g, 22, none⟩ = some (.int .i64 0) := (hc _).trans n6
      have m7 : wr.cell? ⟨g, 23, none⟩ = some (.int .i64 0) := (hc _).trans n7
      have HR1 := Lib.hid (show ∀ w, Calls Tryd.prog 50 #[.int .i64 3] w fun e w' => e = .returned (.int .i64 0) ∧ w' = w from fun w => HR.out 3 w)
      have HW1 := Lib.hid (show ∀ w, Calls Tryd.prog 65 #[.int .i64 21, .int .i64 2] w fun e w' => e = .returned (.int .i64 0) ∧ w' = w from fun w => HW.out 21 2 w)
      clear n0 n1 n2 n3 n4 n5 n6 n7 hc hcd hem hbe
      go_wp2_with (first
        | (go_at_call 50; ((with_reducible refine (HR1.out _).mono ?_); rintro e w' ⟨rfl, rfl⟩))
        | (go_at_call 65; ((with_reducible refine (HW1.out _).mono ?_); rintro e w' ⟨rfl, rfl⟩))
        | (at_lookup; refine lookw_em _ rfl _ _ rfl rfl (HEM.out _ (by (repeat' (first | (with_reducible exact Below.refl _ _) | (with_reducible assumption) | (with_reducible refine Below.alloc ?_ ?_ _) | (with_reducible refine below_drewN ?_ _) | (with_reducible refine below_drew ?_) | (with_reducible refine below_ext ?_ ?_ _ _) | (with_reducible refine Below.setCell ?_ ?_ _) | (simp; done) | (simp; omega) | omega)))) rfl ?_)
        | (at_mapUpdate; refine put_em _ rfl _ _ _ rfl rfl (HEM.out _ (by (repeat' (first | (with_reducible exact Below.refl _ _) | (with_reducible assumption) | (with_reducible refine Below.alloc ?_ ?_ _) | (with_reducible refine below_drewN ?_ _) | (with_reducible refine below_drew ?_) | (with_reducible refine below_ext ?_ ?_ _ _) | (with_reducible refine Below.setCell ?_ ?_ _) | (simp; done) | (simp; omega) | omega)))) hk6 rfl (by omega) rfl ?_; intro w3 hm3 hg3; have HB3 := Lib.hid (((HBE.out.trans (by (repeat' (first | (with_reducible exact Below.refl _ _) | (with_reducible assumption) | (with_reducible refine Below.alloc ?_ ?_ _) | (with_reducible refine below_drewN ?_ _) | (with_reducible refine below_drew ?_) | (with_reducible refine below_ext ?_ ?_ _ _) | (with_reducible refine Below.setCell ?_ ?_ _) | (simp; done) | (simp; omega) | omega)))).grown hg3 (by simp; omega) (fun j hj => by cases hj; exact Nat.le_refl _)))))
      have hs3 : w.heap.size < w3.heap.size := Nat.lt_of_lt_of_le hlt (Nat.le_trans (by simp; omega) hg3.size)
      clear hg3
      go_roundw
      case rel => exact ⟨3, rfl, by omega, Lib.hid hm3, HB3, hs3⟩
      case measure => simp [intOf]
    · clear hc hcd
      go_wp2
      go_ret
      exact ⟨rfl, hbe.out⟩
end Go.Proofs.YtpgfgaloagdogaaDoor
