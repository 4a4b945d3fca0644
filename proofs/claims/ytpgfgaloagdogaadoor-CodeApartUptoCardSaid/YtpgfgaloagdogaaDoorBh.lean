/-
  What separates the parts of a choice; one instruction.
  One instruction; the code of a choice.
  The code of a choice.
-/
import Derived.Test.YtpgfgaloagdogaaDoorNodD
import Derived.Test.YtpgfgaloagdogaaDoorCodD
import Derived.Laws.StructEq
import Derived.BigRegion
namespace Go.Proofs.YtpgfgaloagdogaaDoor
open Go.RowKit Go.Maps Go.WideMaps Vm
attribute [local go_sem] setCell_drewN cell?_ext frozen?_ext shape?_ext setCell_ext lt_1' ne_1' en_1' le_1' lt_2' ne_2' en_2' le_2' lt_3' ne_3' en_3' le_3' lt_4' ne_4' en_4' le_4' lt_5' ne_5' en_5' le_5' lt_6' ne_6' en_6' le_6' lt_7' ne_7' en_7' le_7' lt_8' ne_8' en_8' le_8' lt_9' ne_9' en_9' le_9' lt_10' ne_10' en_10' le_10' lt_11' ne_11' en_11' le_11' lt_12' ne_12' en_12' le_12'

/-- the datum says this of its keys -/
def TellsI (D : DataW Unit) (m : Nat → Option Int) : Prop := IsMap D ∧ ∀ j : Nat, Maps.has D (.int .i64 (j : Int)) = (m j).isSome ∧ D.atKey (.int .i64 (j : Int)) (.lit (.int .i64 0)) = .lit (.int .i64 ((m j).getD 0))
theorem TellsI.put {D : DataW Unit} {m : Nat → Option Int} (h : TellsI D m) (k : Nat) (s : Int) : TellsI (D.put (.int .i64 (k : Int)) (.lit (.int .i64 s))) (fun j => if j = k then some s else m j) := by
  refine ⟨h.1.put _ _, fun j => ?_⟩
  show Maps.has _ _ = (if j = k then some s else m j).isSome ∧ DataW.atKey _ _ _ = .lit (.int .i64 ((if j = k then some s else m j).getD 0))
  by_cases e : j = k
  · subst e
    rw [if_pos rfl]
    exact ⟨has_put_same h.1 (key_int _) _, atKey_put_same h.1 (key_int _) _ _⟩
  · rw [if_neg e]
    have hne : Lit.int .i64 (j : Int) ≠ Lit.int .i64 (k : Int) := fun h => by
      injection h with _ h
      exact e (by omega)
    rw [has_put_other hne, atKey_put_other hne]
    exact h.2 j
/-- block b is a map of ints that holds m -/
def IMap (w : World) (b n : Nat) (m : Nat → Option Int) : Prop := ∃ D : DataW Unit, w.ownsMap Tryd.prog 3 (plainElem Tryd.prog 3) b n D ∧ TellsI D m
theorem IMap.lt {w : World} {b n : Nat} {m : Nat → Option Int} (h : IMap w b n m) : b < w.heap.size := h.elim fun _ h => h.1.lt
theorem IMap.kept {w w' : World} {b n : Nat} {m : Nat → Option Int} (h : IMap w b n m) {row : Option Nat} (hg : w.grownBy w' row) (hne : some b ≠ row) : IMap w' b n m := h.elim fun D h => ⟨D, h.1.kept hg hne, h.2⟩
theorem IMap.new {w w' : World} {b n : Nat} {m : Nat → Option Int} (h : IMap w b n m) (hb : Below w.heap.size w w') : IMap w' b n m :=
  h.kept (row := none) ⟨hb.os, hb.tape, hb.output, hb.size, fun k hk _ => hb.block k hk⟩ (by simp)
theorem IMap.ot {w w' : World} {b n : Nat} {m : Nat → Option Int} (h : IMap w b n m) {S : Nat → Prop} (ho : Ot S w w') (hn : ¬ S b) : IMap w' b n m := by
  obtain ⟨D, ⟨es, cl, hb, F, hs, hD⟩, ht⟩ := h
  exact ⟨D, ⟨es, cl, by rw [ho.block b (Array.getElem?_eq_some_iff.1 hb).1 hn]; exact hb, F, hs, hD⟩, ht⟩
theorem run_mmi (w : World) : (Instr.makeMap 67 none).run Tryd.prog w = .ok (.map (some w.heap.size)) (w.alloc (.map #[] 0)) := by
  simp [Instr.makeMap, go_sem]
theorem imap_made (w : World) : IMap (w.alloc (.map #[] 0)) w.heap.size 0 (fun _ => none) := ⟨.map [], World.ownsMap_made _ _ _ _, isMap_empty, fun _ => ⟨rfl, rfl⟩⟩
section
variable (w : World) {ops : Array Oper} {rest : List Oper} {o : Oper} {a : Act} {Q : Exit → Act → World → Prop}
theorem look_imap (hg : o.guard = none) (mo x : Operand) (hop : o.op = Op.lookup 67 mo x true) {b n : Nat} {m : Nat → Option Int} (hm : a.eval mo = .map (some b)) (hown : IMap w b n m) (j : Nat) {z : Int} (hz : z = (j : Int)) (hj : j ≤ 1000000) (hx : a.eval x = .int .i64 z) {c : Int} {f : Bool} (hc : (m j).getD 0 = c) (hf : (m j).isSome = f)
    (hK : wpList Tryd.prog ops Q rest (a.put o.dst (.tuple #[.int .i64 c, .bool f])) w) : wpList Tryd.prog ops Q (o :: rest) a w := by
  subst hz hc hf
  obtain ⟨D, hD, ht⟩ := hown
  have hkey : keyOf Tryd.prog 3 (.int .i64 (j : Int)) = some (.int .i64 (j : Int)) := keyOf_int_mk Tryd.underlying3 (WalkArith.wf_i64 (by omega))
  refine wpList_lookup_own_ok_int w hg mo x _ hop 3 3 .i64 mapLaw Tryd.underlying67 Tryd.underlying3 (zInt w) b n D hm hD _ _ hx hkey fun c hat _ => ?_
  rw [(ht.2 j).2] at hat
  have h3 := (Lit.int.inj (DataW.lit.inj hat)).2
  rw [(ht.2 j).1, ← h3]
  exact hK
theorem put_imap (hg : o.guard = none) (mo x v : Operand) (hop : o.op = Op.mapUpdate 67 mo x v) {b n : Nat} {m : Nat → Option Int} (hm : a.eval mo = .map (some b)) (hown : IMap w b n m) (hn : n ≤ 1000000) (j : Nat) {z : Int} (hz : z = (j : Int)) (hj : j ≤ 1000000) (hx : a.eval x = .int .i64 z) (s : Int) (hs : 0 ≤ s ∧ s ≤ 1000000) (hv : a.eval v = .int .i64 s)
    (hK : ∀ w', IMap w' b (n + 1) (fun i => if i = j then some s else m i) → w.grownBy w' (some b) → wpList Tryd.prog ops Q rest (a.put o.dst undef) w') : wpList Tryd.prog ops Q (o :: rest) a w := by
  subst hz
  obtain ⟨D, hD, ht⟩ := hown
  have hkey : keyOf Tryd.prog 3 (.int .i64 (j : Int)) = some (.int .i64 (j : Int)) := keyOf_int_mk Tryd.underlying3 (WalkArith.wf_i64 (by omega))
  exact wpList_mapUpdate_in w hg mo x v _ hop 3 3 mapLaw Tryd.underlying67 _ b n D hm hD (by unfold maxLen; omega) _ _ _ hx hv hkey _ [] (plainElem_int Tryd.underlying3 (WalkArith.wf_i64 (by omega))) fun w' h1 h2 => hK w' ⟨_, h1, ht.put j s⟩ h2.grown
end
/-- what separates the parts of the choice -/
abbrev sepC : Nat → Option Int := fun i => if i = 2 then some 101 else if i = 1 then some 102 else none
set_option maxRecDepth 100000 in
set_option maxHeartbeats 4000000 in
theorem separators_choice {g : Nat} {w : World} (h : ChC w g) :
    Calls Tryd.prog 34 #[.slice (some ⟨g, 0, none⟩) 4 4] w fun e w' => e = .returned (.map (some w.heap.size)) ∧ IMap w' w.heap.size 2 sepC ∧ Below w.heap.size w w' := by
  have HC := Lib.hid h
  have hmm := run_mmi
  have HE0 := Lib.hid (imap_made w)
  have HB0 := Lib.hid ((Below.refl w.heap.size w).alloc (Nat.le_refl _) (.map #[] 0))
  clear h
  go_enter Tryd.func34, Tryd.ntmps34
  go_wp2
  go_loopw [11] (fun z wr => ∃ k : Nat, z = .int .i64 k ∧ k ≤ 4 ∧ Hid (k ≤ 3 → IMap wr w.heap.size 0 (fun _ => none)) ∧ Hid (k = 4 → IMap wr w.heap.size 2 sepC) ∧ Hid (Below w.heap.size w wr) ∧ w.heap.size < wr.heap.size) (fun z _ => 4 - (intOf z).toNat)
  case atStart => exact ⟨0, rfl, by omega, Lib.hid (fun _ => HE0.out), Lib.hid (fun h => by cases h), HB0, by simp⟩
  case round =>
    obtain ⟨k, rfl, hk, hem, he4, hbe, hltw⟩ := hrel
    clear HE0 HB0 hmm
    have hk4 : k = 0 ∨ k = 1 ∨ k = 2 ∨ k = 3 ∨ k = 4 := by omega
    have HCR := Lib.hid (HC.out.new hbe.out)
    have hgr := HCR.out.1
    have HBR := Lib.hid hbe.out
    rcases hk4 with rfl | rfl | rfl | rfl | rfl
    case inr.inr.inr.inr =>
      have h4 := Lib.hid (he4.out rfl)
      go_wp2
      go_ret
      exact ⟨rfl, h4.out, HBR.out⟩
    case inr.inr.inr.inl =>
      obtain ⟨n0, n1, n2, n3, n4, n5, n6, n7⟩ := HCR.out.2 3 (by omega)
      have m0 : wr.cell? ⟨g, 24, none⟩ = some (.int .i64 21) := n0
      have m1 : wr.cell? ⟨g, 25, none⟩ = some (.int .i64 3) := n1
      have m2 : wr.cell? ⟨g, 26, none⟩ = some (.string ⟨#[]⟩) := n2
      have m3 : wr.cell? ⟨g, 27, none⟩ = some (.bool false) := n3
      have m4 : wr.cell? ⟨g, 28, none⟩ = some (.int .u64 0) := n4
      have m5 : wr.cell? ⟨g, 29, none⟩ = some (.int .u64 0) := n5
      have m6 : wr.cell? ⟨g, 30, none⟩ = some (.int .i64 0) := n6
      have m7 : wr.cell? ⟨g, 31, none⟩ = some (.int .i64 0) := n7
      clear n0 n1 n2 n3 n4 n5 n6 n7
      have HP := Lib.hid (fun w' (hb : Below wr.heap.size wr w') => parts_choice (HCR.out.new hb))
      have HM := Lib.hid (fun w' (hb : Below wr.heap.size wr w') => (hem.out (by omega)).new hb)
      go_wp2_with (first
        | (go_at_call 51; (with_reducible refine (HP.out _ (by (repeat' (first | (with_reducible exact Below.refl _ _) | (with_reducible assumption) | (with_reducible refine Below.alloc ?_ ?_ _) | (with_reducible refine below_drewN ?_ _) | (with_reducible refine below_drew ?_) | (with_reducible refine below_ext ?_ ?_ _ _) | (with_reducible refine Below.setCell ?_ ?_ _) | (simp; done) | (simp; omega) | omega)))).mono ?_); rintro e w1 ⟨v1, rfl, hvo, hb1⟩; have HVO := Lib.hid hvo; obtain ⟨q1, c1, rfl, hq1, -⟩ := OL.form hvo; obtain ⟨gp, rfl, hgp1, hgp2⟩ := hq1 (by decide); have p0 := (show w1.cell? ⟨gp, 0, none⟩ = some (.int .i64 0) from OL.cell inE_cells hvo 0 0 (by decide) rfl); have p1 := (show w1.cell? ⟨gp, 1, none⟩ = some (.int .i64 1) from OL.cell inE_cells hvo 1 0 (by decide) rfl); have hgw1 := hb1.size; obtain ⟨osC, dC, rfl⟩ := ext_of_below hb1; clear hb1 hvo hq1)
        | (at_mapUpdate; refine put_imap _ rfl _ _ _ rfl rfl (HM.out _ (by (repeat' (first | (with_reducible exact Below.refl _ _) | (with_reducible assumption) | (with_reducible refine Below.alloc ?_ ?_ _) | (with_reducible refine below_drewN ?_ _) | (with_reducible refine below_drew ?_) | (with_reducible refine below_ext ?_ ?_ _ _) | (with_reducible refine Below.setCell ?_ ?_ _) | (simp; done) | (simp; omega) | omega)))) (by omega) 1 rfl (by omega) rfl 102 (by omega) rfl ?_; intro w3 hm3 hg3; have p1b := (World.cell?_of_block (a := ⟨gp, 1, none⟩) (hg3.block gp hgp2 (by intro e; injection e with e; simp at hgp1; omega))).trans p1; have HM3 := Lib.hid hm3; have HB3 := Lib.hid ((HBR.out.trans (show Below w.heap.size wr _ by (repeat' (first | (with_reducible exact Below.refl _ _) | (with_reducible assumption) | (with_reducible refine Below.alloc ?_ ?_ _) | (with_reducible refine below_drewN ?_ _) | (with_reducible refine below_drew ?_) | (with_reducible refine below_ext ?_ ?_ _ _) | (with_reducible refine Below.setCell ?_ ?_ _) | (simp; done) | (simp; omega) | omega)))).grown hg3 (by simp; omega) (fun j hj => by cases hj; exact Nat.le_refl _)); have hs3 := hg3.size; clear hm3 hg3)
        | (at_mapUpdate; refine put_imap _ rfl _ _ _ rfl rfl HM3.out (by omega) 2 rfl (by omega) rfl 101 (by omega) rfl ?_; intro w4 hm4 hg4; have HM4 := Lib.hid (show IMap w4 w.heap.size 2 sepC from hm4); have HB4 := Lib.hid (HB3.out.grown hg4 (by simp at hs3; omega) (fun j hj => by cases hj; exact Nat.le_refl _)); have hs4 := hg4.size; clear hm4 hg4))
      have hs5 : w.heap.size < w4.heap.size := by simp at hs3; omega
      go_roundw
      case rel => exact ⟨4, rfl, by omega, Lib.hid (fun h => by omega), Lib.hid (fun _ => HM4.out), HB4, hs5⟩
      case measure => simp [intOf]
    case inl =>
      obtain ⟨n0, n1, n2, n3, n4, n5, n6, n7⟩ := HCR.out.2 0 (by omega)
      have m0 : wr.cell? ⟨g, 0, none⟩ = some (.int .i64 2) := n0
      have m1 : wr.cell? ⟨g, 1, none⟩ = some (.int .i64 0) := n1
      have m2 : wr.cell? ⟨g, 2, none⟩ = some (.string ⟨#[]⟩) := n2
      have m3 : wr.cell? ⟨g, 3, none⟩ = some (.bool false) := n3
      have m4 : wr.cell? ⟨g, 4, none⟩ = some (.int .u64 0) := n4
      have m5 : wr.cell? ⟨g, 5, none⟩ = some (.int .u64 0) := n5
      have m6 : wr.cell? ⟨g, 6, none⟩ = some (.int .i64 0) := n6
      have m7 : wr.cell? ⟨g, 7, none⟩ = some (.int .i64 0) := n7
      clear n0 n1 n2 n3 n4 n5 n6 n7
      have HM := Lib.hid (fun w' (hb : Below wr.heap.size wr w') => (hem.out (by omega)).new hb)
      go_wp2
      go_roundw
      case rel => exact ⟨1, rfl, by omega, Lib.hid (fun _ => HM.out _ (by (repeat' (first | (with_reducible exact Below.refl _ _) | (with_reducible assumption) | (with_reducible refine Below.alloc ?_ ?_ _) | (with_reducible refine below_drewN ?_ _) | (with_reducible refine below_drew ?_) | (with_reducible refine below_ext ?_ ?_ _ _) | (with_reducible refine Below.setCell ?_ ?_ _) | (simp; done) | (simp; omega) | omega)))), Lib.hid (fun h => by cases h), Lib.hid (HBR.out.trans (by (repeat' (first | (with_reducible exact Below.refl _ _) | (with_reducible assumption) | (with_reducible refine Below.alloc ?_ ?_ _) | (with_reducible refine below_drewN ?_ _) | (with_reducible refine below_drew ?_) | (with_reducible refine below_ext ?_ ?_ _ _) | (with_reducible refine Below.setCell ?_ ?_ _) | (simp; done) | (simp; omega) | omega)))), by simp; omega⟩
      case measure => simp [intOf]
    case inr.inl =>
      obtain ⟨n0, n1, n2, n3, n4, n5, n6, n7⟩ := HCR.out.2 1 (by omega)
      have m0 : wr.cell? ⟨g, 8, none⟩ = some (.int .i64 1) := n0
      have m1 : wr.cell? ⟨g, 9, none⟩ = some (.int .i64 0) := n1
      have m2 : wr.cell? ⟨g, 10, none⟩ = some (.string ⟨#[]⟩) := n2
      have m3 : wr.cell? ⟨g, 11, none⟩ = some (.bool false) := n3
      have m4 : wr.cell? ⟨g, 12, none⟩ = some (.int .u64 0) := n4
      have m5 : wr.cell? ⟨g, 13, none⟩ = some (.int .u64 0) := n5
      have m6 : wr.cell? ⟨g, 14, none⟩ = some (.int .i64 0) := n6
      have m7 : wr.cell? ⟨g, 15, none⟩ = some (.int .i64 0) := n7
      clear n0 n1 n2 n3 n4 n5 n6 n7
      have HM := Lib.hid (fun w' (hb : Below wr.heap.size wr w') => (hem.out (by omega)).new hb)
      go_wp2
      go_roundw
      case rel => exact ⟨2, rfl, by omega, Lib.hid (fun _ => HM.out _ (by (repeat' (first | (with_reducible exact Below.refl _ _) | (with_reducible assumption) | (with_reducible refine Below.alloc ?_ ?_ _) | (with_reducible refine below_drewN ?_ _) | (with_reducible refine below_drew ?_) | (with_reducible refine below_ext ?_ ?_ _ _) | (with_reducible refine Below.setCell ?_ ?_ _) | (simp; done) | (simp; omega) | omega)))), Lib.hid (fun h => by cases h), Lib.hid (HBR.out.trans (by (repeat' (first | (with_reducible exact Below.refl _ _) | (with_reducible assumption) | (with_reducible refine Below.alloc ?_ ?_ _) | (with_reducible refine below_drewN ?_ _) | (with_reducible refine below_drew ?_) | (with_reducible refine below_ext ?_ ?_ _ _) | (with_reducible refine Below.setCell ?_ ?_ _) | (simp; done) | (simp; omega) | omega)))), by simp; omega⟩
      case measure => simp [intOf]
    case inr.inr.inl =>
      obtain ⟨n0, n1, n2, n3, n4, n5, n6, n7⟩ := HCR.out.2 2 (by omega)
      have m0 : wr.cell? ⟨g, 16, none⟩ = some (.int .i64 3) := n0
      have m1 : wr.cell? ⟨g, 17, none⟩ = some (.int .i64 0) := n1
      have m2 : wr.cell? ⟨g, 18, none⟩ = some (.string ⟨#[]⟩) := n2
      have m3 : wr.cell? ⟨g, 19, none⟩ = some (.bool false) := n3
      have m4 : wr.cell? ⟨g, 20, none⟩ = some (.int .u64 0) := n4
      have m5 : wr.cell? ⟨g, 21, none⟩ = some (.int .u64 0) := n5
      have m6 : wr.cell? ⟨g, 22, none⟩ = some (.int .i64 0) := n6
      have m7 : wr.cell? ⟨g, 23, none⟩ = some (.int .i64 0) := n7
      clear n0 n1 n2 n3 n4 n5 n6 n7
      have HM := Lib.hid (fun w' (hb : Below wr.heap.size wr w') => (hem.out (by omega)).new hb)
      go_wp2
      go_roundw
      case rel => exact ⟨3, rfl, by omega, Lib.hid (fun _ => HM.out _ (by (repeat' (first | (with_reducible exact Below.refl _ _) | (with_reducible assumption) | (with_reducible refine Below.alloc ?_ ?_ _) | (with_reducible refine below_drewN ?_ _) | (with_reducible refine below_drew ?_) | (with_reducible refine below_ext ?_ ?_ _ _) | (with_reducible refine Below.setCell ?_ ?_ _) | (simp; done) | (simp; omega) | omega)))), Lib.hid (fun h => by cases h), Lib.hid (HBR.out.trans (by (repeat' (first | (with_reducible exact Below.refl _ _) | (with_reducible assumption) | (with_reducible refine Below.alloc ?_ ?_ _) | (with_reducible refine below_drewN ?_ _) | (with_reducible refine below_drew ?_) | (with_reducible refine below_ext ?_ ?_ _ _) | (with_reducible refine Below.setCell ?_ ?_ _) | (simp; done) | (simp; omega) | omega)))), by simp; omega⟩
      case measure => simp [intOf]
end Go.Proofs.YtpgfgaloagdogaaDoor
namespace Go.Proofs.YtpgfgaloagdogaaDoor
open Go.RowKit Go.Maps Go.WideMaps Vm
attribute [local go_sem] setCell_drewN cell?_ext frozen?_ext shape?_ext setCell_ext lt_1' ne_1' en_1' le_1' lt_2' ne_2' en_2' le_2' lt_3' ne_3' en_3' le_3' lt_4' ne_4' en_4' le_4' lt_5' ne_5' en_5' le_5' lt_6' ne_6' en_6' le_6' lt_7' ne_7' en_7' le_7' lt_8' ne_8' en_8' le_8' lt_9' ne_9' en_9' le_9' lt_10' ne_10' en_10' le_10' lt_11' ne_11' en_11' le_11' lt_12' ne_12' en_12' le_12'

theorem clone_empty (w : World) : Calls Tryd.prog 52 #[.string ⟨#[]⟩] w fun e w' => e = .returned (.string ⟨#[]⟩) ∧ w' = w := by
  go_enter Tryd.func52, Tryd.ntmps52
  go_wp2
  go_ret
  exact ⟨rfl, rfl⟩
theorem instr_bare (op : Int) (h : op = 1 ∨ op = 2 ∨ op = 3) (w : World) :
    Calls Tryd.prog 35 #[NodV op 0 ⟨#[]⟩ false 0 0 0 0] w fun e w' => e = .returned (InsV op 0 ⟨#[]⟩ false 0 0 0 0) ∧ Below w.heap.size w w' := by
  have HCL := Lib.hid clone_empty
  have q25 : (op == 25) = false := beq_eq_false_iff_ne.2 (by omega)
  have q26 : (op == 26) = false := beq_eq_false_iff_ne.2 (by omega)
  have q27 : (op == 27) = false := beq_eq_false_iff_ne.2 (by omega)
  have q36 : (op == 36) = false := beq_eq_false_iff_ne.2 (by omega)
  clear h
  go_enter Tryd.func35, Tryd.ntmps35
  go_wp2_with fail
  go_region_held3 (fun w' => w'.cell? ⟨w.heap.size, 0, none⟩ = some (.int .i64 op) ∧ w'.cell? ⟨w.heap.size, 2, none⟩ = some (.string ⟨#[]⟩) ∧ w'.cell? ⟨w.heap.size, 3, none⟩ = some (.bool false) ∧ w'.cell? ⟨w.heap.size, 4, none⟩ = some (.int .u64 0) ∧ w'.cell? ⟨w.heap.size, 5, none⟩ = some (.int .u64 0) ∧ w'.cell? ⟨w.heap.size, 6, none⟩ = some (.int .i64 0) ∧ w'.cell? ⟨w.heap.size, 7, none⟩ = some (.int .i64 0)) (simp [go_sem]) (first
    | (go_at_call 52; ((with_reducible refine (HCL.out _).mono ?_); rintro e w' ⟨rfl, rfl⟩)))
  all_goals
    go_wp2
    go_returns
    exact ⟨rfl, by (repeat' (first | (with_reducible exact Below.refl _ _) | (with_reducible assumption) | (with_reducible refine Below.alloc ?_ ?_ _) | (with_reducible refine below_drewN ?_ _) | (with_reducible refine below_drew ?_) | (with_reducible refine below_ext ?_ ?_ _ _) | (with_reducible refine Below.setCell ?_ ?_ _) | (simp; done) | (simp; omega) | omega))⟩
theorem dec_eq0 (w : World) : (Op.equalIn 9999 41 (.agg #[.bool false, .int .u64 0, .int .u64 0, .int .i64 0]) (.agg #[.bool false, .int .u64 0, .int .u64 0, .int .i64 0])).run Tryd.prog w = .ok true w := by
  have u1 := Tryd.underlying4
  have a1 := Tryd.isAgg4
  have z1 := Tryd.sizeOf4
  have u2 := Tryd.underlying3
  have a2 := Tryd.isAgg3
  have z2 := Tryd.sizeOf3
  have a3 := Tryd.isAgg39
  have z3 := Tryd.sizeOf39
  have u4 := Tryd.underlying37
  have a4 := Tryd.isAgg37
  have z4 := Tryd.sizeOf37
  have e : ∀ w, (Op.equalIn 9998 39 (.agg #[.int .u64 0, .int .u64 0]) (.agg #[.int .u64 0, .int .u64 0])).run Tryd.prog w = .ok true w := fun w => by
    have hS : Tryd.prog.underlying 39 = some (.struct (Tryd.prog.fieldsOf 39)) := by kernel_rfl
    have hp : Tryd.prog.stoodInHeld 39 = false := by kernel_rfl
    rw [show (9998 : Nat) = 9997 + 1 from rfl, run_equalIn_agg w 9997 39 _ _ hS hp]
    simp only [Program.fieldsOf, Tryd.underlying39]
    go_simp
  have hS : Tryd.prog.underlying 41 = some (.struct (Tryd.prog.fieldsOf 41)) := by kernel_rfl
  have hp : Tryd.prog.stoodInHeld 41 = false := by kernel_rfl
  rw [show (9999 : Nat) = 9998 + 1 from rfl, run_equalIn_agg w 9998 41 _ _ hS hp]
  simp only [Program.fieldsOf, Tryd.underlying41]
  go_simp
theorem ins_eq (op a : Int) (w : World) : (Op.equalIn 10000 43 (InsV op a ⟨#[]⟩ false 0 0 0 0) (InsV op a ⟨#[]⟩ false 0 0 0 0)).run Tryd.prog w = .ok true w := by
  have u1 := Tryd.underlying9
  have a1 := Tryd.isAgg9
  have z1 := Tryd.sizeOf9
  have u2 := Tryd.underlying3
  have a2 := Tryd.isAgg3
  have z2 := Tryd.sizeOf3
  have a3 := Tryd.isAgg41
  have z3 := Tryd.sizeOf41
  have e := dec_eq0
  have hS : Tryd.prog.underlying 43 = some (.struct (Tryd.prog.fieldsOf 43)) := by kernel_rfl
  have hp : Tryd.prog.stoodInHeld 43 = false := by kernel_rfl
  rw [show (10000 : Nat) = 9999 + 1 from rfl, run_equalIn_agg w 9999 43 _ _ hS hp]
  simp only [Program.fieldsOf, Tryd.underlying43]
  go_simp
/-- a list of instructions of the call's own -/
def isK : El := { T := 43, S := 24, size := 8, bytes := 72, zero := InsV 0 0 ⟨#[]⟩ false 0 0 0 0 }
theorem isK_ok : isK.Ok Tryd.prog := ⟨Tryd.underlying24, by kernel_rfl, by rfl, by decide, by decide, by decide⟩
theorem isE_cells : Cells isK insE := fun s => ⟨rfl, fun u hu => by
  unfold insE at hu
  simp at hu
  rcases hu with rfl | rfl | rfl | rfl | rfl | rfl | rfl | rfl <;> rfl⟩
end Go.Proofs.YtpgfgaloagdogaaDoor
namespace Go.Proofs.YtpgfgaloagdogaaDoor
open Go.RowKit Go.Maps Go.WideMaps Vm
attribute [local go_sem] setCell_drewN cell?_ext frozen?_ext shape?_ext setCell_ext lt_1' ne_1' en_1' le_1' lt_2' ne_2' en_2' le_2' lt_3' ne_3' en_3' le_3' lt_4' ne_4' en_4' le_4' lt_5' ne_5' en_5' le_5' lt_6' ne_6' en_6' le_6' lt_7' ne_7' en_7' le_7' lt_8' ne_8' en_8' le_8' lt_9' ne_9' en_9' le_9' lt_10' ne_10' en_10' le_10' lt_11' ne_11' en_11' le_11' lt_12' ne_12' en_12' le_12'

abbrev iC (op a : Int) : InsD := ⟨op, a, ⟨#[]⟩, false, 0, 0, 0, 0⟩
abbrev codeC : Nat → List InsD := fun k => if k = 0 then [] else if k = 1 then [iC 2 0] else if k = 2 then [iC 2 0, iC 102 0, iC 1 0] else if k = 3 then [iC 2 0, iC 102 0, iC 1 0, iC 101 0, iC 3 0] else [iC 2 0, iC 102 4, iC 1 0, iC 101 5, iC 3 0]
abbrev jumpC : Nat → List Nat := fun k => if k = 2 then [1] else if k = 3 then [1, 3] else []
/-- code, jumps and map in memory -/
structure CS (w wr : World) (x y : Value) (lx : List InsD) (ly : List Nat) : Prop where
  code : OL isK insE (w.heap.size + 1) wr x lx
  jump : OL inK inE (w.heap.size + 1) wr y ly
  map : IMap wr w.heap.size 2 sepC
  bel : Below w.heap.size w wr
  lt : w.heap.size < wr.heap.size
section
variable {w wr w' w2 : World} {x y x2 y2 : Value} {lx lx2 : List InsD} {ly ly2 : List Nat}
theorem apart {B B2 : Nat} (h1 : OL isK insE B wr x lx) (h2 : OL inK inE B2 wr y ly) : ∀ k, x.ownBlock = some k → y.ownBlock ≠ some k := fun k e1 e2 => by
  rcases h1.2 with ⟨rfl, _⟩ | ⟨g, c, cur, rfl, _, hg, _⟩
  · cases e1
  · rcases h2.2 with ⟨rfl, _⟩ | ⟨g2, c2, cur2, rfl, _, hg2, _⟩
    · cases e2
    · obtain rfl : g = k := Option.some.inj e1
      obtain rfl : g2 = g := Option.some.inj e2
      rw [hg] at hg2
      injection hg2 with hg2
      injection hg2 with _ hg2 _
      exact absurd hg2 (by decide)
theorem CS.new (h : CS w wr x y lx ly) (hb : Below wr.heap.size wr w') : CS w w' x y lx ly :=
  ⟨OL.new h.code hb, OL.new h.jump hb, h.map.new hb, h.bel.trans (hb.mono (Nat.le_of_lt h.lt)), Nat.lt_of_lt_of_le h.lt hb.size⟩
theorem CS.setCode (h : CS w wr x y lx ly) (ho : Ot (fun k => x.ownBlock = some k) wr w2) (hx : OL isK insE (w.heap.size + 1) w2 x2 lx2) : CS w w2 x2 y lx2 ly :=
  ⟨hx, OL.kept h.jump ho (fun k e1 e2 => apart h.code h.jump k e2 e1), h.map.ot ho (fun e => by have := (World.ownsRow.lt h.code _ e).1; omega), h.bel.trans (ho.below (Nat.le_of_lt h.lt) (fun k e => by have := (World.ownsRow.lt h.code _ e).1; omega)), Nat.lt_of_lt_of_le h.lt ho.size⟩
theorem CS.setJump (h : CS w wr x y lx ly) (ho : Ot (fun k => y.ownBlock = some k) wr w2) (hy : OL inK inE (w.heap.size + 1) w2 y2 ly2) : CS w w2 x y2 lx ly2 :=
  ⟨OL.kept h.code ho (fun k e1 e2 => apart h.code h.jump k e1 e2), hy, h.map.ot ho (fun e => by have := (World.ownsRow.lt h.jump _ e).1; omega), h.bel.trans (ho.below (Nat.le_of_lt h.lt) (fun k e => by have := (World.ownsRow.lt h.jump _ e).1; omega)), Nat.lt_of_lt_of_le h.lt ho.size⟩
/-- a node in a block of its own -/
def NBx (w : World) (b : Nat) (op kid : Int) : Prop := b < w.heap.size ∧ w.cell? ⟨b, 0, none⟩ = some (.int .i64 op) ∧ w.cell? ⟨b, 1, none⟩ = some (.int .i64 kid) ∧ w.cell? ⟨b, 2, none⟩ = some (.string ⟨#[]⟩) ∧ w.cell? ⟨b, 3, none⟩ = some (.bool false) ∧
  w.cell? ⟨b, 4, none⟩ = some (.int .u64 0) ∧ w.cell? ⟨b, 5, none⟩ = some (.int .u64 0) ∧ w.cell? ⟨b, 6, none⟩ = some (.int .i64 0) ∧ w.cell? ⟨b, 7, none⟩ = some (.int .i64 0)
theorem NBx.kept {b : Nat} {op kid : Int} {S : Nat → Prop} (ho : Ot S wr w2) (h : NBx wr b op kid) (hn : ¬ S b) : NBx w2 b op kid := by
  obtain ⟨h0, h1, h2, h3, h4, h5, h6, h7, h8⟩ := h
  have hc := fun j => ho.cell (j := j) h0 hn
  exact ⟨Nat.lt_of_lt_of_le h0 ho.size, (hc _).trans h1, (hc _).trans h2, (hc _).trans h3, (hc _).trans h4, (hc _).trans h5, (hc _).trans h6, (hc _).trans h7, (hc _).trans h8⟩
end
set_option maxRecDepth 100000 in
set_option maxHeartbeats 8000000 in
theorem compile_choice {g : Nat} {w : World} (h : ChC w g) :
    Calls Tryd.prog 20 #[.slice (some ⟨g, 0, none⟩) 4 4] w fun e w' => ∃ v', e = .returned v' ∧ OL isK insE (w.heap.size + 1) w' v' (codeC 4) ∧ Below w.heap.size w w' := by
  have HC := Lib.hid h
  have HSP := Lib.hid (separators_choice h)
  clear h
  go_enter Tryd.func20, Tryd.ntmps20
  go_wp2_with (first
    | (go_at_call 34; (with_reducible refine (HSP.out).mono ?_); rintro e w1 ⟨rfl, hmp, hb1⟩; have HS0 := Lib.hid (show CS w w1 (.slice none 0 0) (.slice none 0 0) [] [] from ⟨OL.nil _ _ _ _, OL.nil _ _ _ _, hmp, hb1, hmp.lt⟩); clear hmp hb1))
  go_loopw [4, 5, 17] (fun x y z wr => ∃ k : Nat, z = .int .i64 k ∧ k ≤ 4 ∧ Hid (CS w wr x y (codeC k) (jumpC k))) (fun _ _ z _ => 4 - (intOf z).toNat)
  case atStart => exact ⟨0, rfl, by omega, HS0⟩
  case round =>
    obtain ⟨k, rfl, hk, HS⟩ := hrel
    clear HS0 HSP
    have hk4 : k = 0 ∨ k = 1 ∨ k = 2 ∨ k = 3 ∨ k = 4 := by omega
    have HCR := Lib.hid (show ChC wr g from by
      have hc := fun j => HS.out.bel.cell (p := ⟨g, j, none⟩) HC.out.1
      refine ⟨Nat.lt_of_lt_of_le HC.out.1 HS.out.bel.size, fun j hj => ?_⟩
      obtain ⟨h0, h1, h2, h3, h4, h5, h6, h7⟩ := HC.out.2 j hj
      exact ⟨(hc _).trans h0, (hc _).trans h1, (hc _).trans h2, (hc _).trans h3, (hc _).trans h4, (hc _).trans h5, (hc _).trans h6, (hc _).trans h7⟩)
    have hgr := HCR.out.1
    have hltw := HS.out.lt
    rcases hk4 with rfl | rfl | rfl | rfl | rfl
    · obtain ⟨n0, n1, n2, n3, n4, n5, n6, n7⟩ := HCR.out.2 0 (by omega)
      have m0 : wr.cell? ⟨g, 0, none⟩ = some (.int .i64 2) := n0
      have m1 : wr.cell? ⟨g, 1, none⟩ = some (.int .i64 0) := n1
      have m2 : wr.cell? ⟨g, 2, none⟩ = some (.string ⟨#[]⟩) := n2
      have m3 : wr.cell? ⟨g, 3, none⟩ = some (.bool false) := n3
      have m4 : wr.cell? ⟨g, 4, none⟩ = some (.int .u64 0) := n4
      have m5 : wr.cell? ⟨g, 5, none⟩ = some (.int .u64 0) := n5
      have m6 : wr.cell? ⟨g, 6, none⟩ = some (.int .i64 0) := n6
      have m7 : wr.cell? ⟨g, 7, none⟩ = some (.int .i64 0) := n7
      clear n0 n1 n2 n3 n4 n5 n6 n7
      obtain ⟨q, cp, hv, hq, hcp⟩ := OL.form HS.out.code
      obtain rfl : u4 = .slice q 0 cp := hv
      obtain ⟨q2, cp2, hv2, hq2, hcp2⟩ := OL.form HS.out.jump
      obtain rfl : u5 = .slice q2 0 cp2 := hv2
      have HMP := Lib.hid (fun w' (hb : Below wr.heap.size wr w') => HS.out.map.new hb)
      have HIN := Lib.hid (fun w => instr_bare 2 (by omega) w)
      go_wp2_with (first
        | (at_lookup; refine look_imap _ rfl _ _ rfl rfl (HMP.out _ (by (repeat' (first | (with_reducible exact Below.refl _ _) | (with_reducible assumption) | (with_reducible refine Below.alloc ?_ ?_ _) | (with_reducible refine below_drewN ?_ _) | (with_reducible refine below_drew ?_) | (with_reducible refine below_ext ?_ ?_ _ _) | (with_reducible refine Below.setCell ?_ ?_ _) | (simp; done) | (simp; omega) | omega)))) 0 rfl (by omega) rfl (c := 0) (f := false) rfl rfl ?_)
        | (go_at_call 35; ((with_reducible refine (HIN.out _).mono ?_); rintro e w1 ⟨rfl, hb1⟩; obtain ⟨osI, dI, rfl⟩ := ext_of_below hb1; clear hb1))
        | (at_builtin; refine wpList_append_ol isK_ok isE_cells rfl _ _ rfl rfl _ (iC 2 0) rfl ((HS.out.new (by (repeat' (first | (with_reducible exact Below.refl _ _) | (with_reducible assumption) | (with_reducible refine Below.alloc ?_ ?_ _) | (with_reducible refine below_drewN ?_ _) | (with_reducible refine below_drew ?_) | (with_reducible refine below_ext ?_ ?_ _ _) | (with_reducible refine Below.setCell ?_ ?_ _) | (simp; done) | (simp; omega) | omega)))).code) (by simp [Act.eval]) (by decide) (by first | omega | (simp; omega)) ?_; intro g2 cap2 w2 hob hoth hat hg2 hsz2; have HS1 := Lib.hid ((HS.out.new (by (repeat' (first | (with_reducible exact Below.refl _ _) | (with_reducible assumption) | (with_reducible refine Below.alloc ?_ ?_ _) | (with_reducible refine below_drewN ?_ _) | (with_reducible refine below_drew ?_) | (with_reducible refine below_ext ?_ ?_ _ _) | (with_reducible refine Below.setCell ?_ ?_ _) | (simp; done) | (simp; omega) | omega)))).setCode hoth hob); clear hob hoth hat hg2 hsz2))
      go_roundw
      case rel => exact ⟨1, rfl, by omega, HS1⟩
      case measure => simp [intOf]
    · obtain ⟨n0, n1, n2, n3, n4, n5, n6, n7⟩ := HCR.out.2 1 (by omega)
      have m0 : wr.cell? ⟨g, 8, none⟩ = some (.int .i64 1) := n0
      have m1 : wr.cell? ⟨g, 9, none⟩ = some (.int .i64 0) := n1
      have m2 : wr.cell? ⟨g, 10, none⟩ = some (.string ⟨#[]⟩) := n2
      have m3 : wr.cell? ⟨g, 11, none⟩ = some (.bool false) := n3
      have m4 : wr.cell? ⟨g, 12, none⟩ = some (.int .u64 0) := n4
      have m5 : wr.cell? ⟨g, 13, none⟩ = some (.int .u64 0) := n5
      have m6 : wr.cell? ⟨g, 14, none⟩ = some (.int .i64 0) := n6
      have m7 : wr.cell? ⟨g, 15, none⟩ = some (.int .i64 0) := n7
      clear n0 n1 n2 n3 n4 n5 n6 n7
      obtain ⟨q, cp, hv, hq, hcp⟩ := OL.form HS.out.code
      obtain rfl : u4 = .slice q 1 cp := hv
      obtain ⟨q2, cp2, hv2, hq2, hcp2⟩ := OL.form HS.out.jump
      obtain rfl : u5 = .slice q2 0 cp2 := hv2
      have HMP := Lib.hid (fun w' (hb : Below wr.heap.size wr w') => HS.out.map.new hb)
      have HIN := Lib.hid (fun w => instr_bare 1 (by omega) w)
      go_wp2_with (first
        | (at_lookup; refine look_imap _ rfl _ _ rfl rfl (HMP.out _ (by (repeat' (first | (with_reducible exact Below.refl _ _) | (with_reducible assumption) | (with_reducible refine Below.alloc ?_ ?_ _) | (with_reducible refine below_drewN ?_ _) | (with_reducible refine below_drew ?_) | (with_reducible refine below_ext ?_ ?_ _ _) | (with_reducible refine Below.setCell ?_ ?_ _) | (simp; done) | (simp; omega) | omega)))) 1 rfl (by omega) rfl (c := 102) (f := true) rfl rfl ?_)
        | (at_builtin; refine wpList_append_ol inK_ok inE_cells rfl _ _ rfl rfl _ 1 rfl ((HS.out.new (by (repeat' (first | (with_reducible exact Below.refl _ _) | (with_reducible assumption) | (with_reducible refine Below.alloc ?_ ?_ _) | (with_reducible refine below_drewN ?_ _) | (with_reducible refine below_drew ?_) | (with_reducible refine below_ext ?_ ?_ _ _) | (with_reducible refine Below.setCell ?_ ?_ _) | (simp; done) | (simp; omega) | omega)))).jump) (by simp [Act.eval]) (by decide) (by first | omega | (simp; omega)) ?_; intro g2 cap2 w2 hob hoth hat hg2 hsz2; have HS1 := Lib.hid ((HS.out.new (by (repeat' (first | (with_reducible exact Below.refl _ _) | (with_reducible assumption) | (with_reducible refine Below.alloc ?_ ?_ _) | (with_reducible refine below_drewN ?_ _) | (with_reducible refine below_drew ?_) | (with_reducible refine below_ext ?_ ?_ _ _) | (with_reducible refine Below.setCell ?_ ?_ _) | (simp; done) | (simp; omega) | omega)))).setJump hoth hob); obtain ⟨b9, b0, b1, b2, b3, b4, b5, b6, b7⟩ := NBx.kept hoth (show NBx _ wr.heap.size 1 0 from ⟨by simp, by simp, by simp, by simp, by simp, by simp, by simp, by simp, by simp⟩) (fun e => by have := (World.ownsRow.lt HS.out.jump _ e).2; omega); have hl2 := HS1.out.lt; clear hob hoth hat hg2 hsz2)
        | (at_builtin; refine wpList_append_ol isK_ok isE_cells rfl _ _ rfl rfl _ (iC 102 0) rfl ((HS1.out.new (by (repeat' (first | (with_reducible exact Below.refl _ _) | (with_reducible assumption) | (with_reducible refine Below.alloc ?_ ?_ _) | (with_reducible refine below_drewN ?_ _) | (with_reducible refine below_drew ?_) | (with_reducible refine below_ext ?_ ?_ _ _) | (with_reducible refine Below.setCell ?_ ?_ _) | (simp; done) | (simp; omega) | omega)))).code) (by simp [Act.eval]) (by decide) (by first | omega | (simp; omega)) ?_; intro g3 cap3 w3 hob hoth hat hg3 hsz3; have HS2 := Lib.hid ((HS1.out.new (by (repeat' (first | (with_reducible exact Below.refl _ _) | (with_reducible assumption) | (with_reducible refine Below.alloc ?_ ?_ _) | (with_reducible refine below_drewN ?_ _) | (with_reducible refine below_drew ?_) | (with_reducible refine below_ext ?_ ?_ _ _) | (with_reducible refine Below.setCell ?_ ?_ _) | (simp; done) | (simp; omega) | omega)))).setCode hoth hob); obtain ⟨b9', c0, c1, c2, c3, c4, c5, c6, c7⟩ := NBx.kept hoth (show NBx _ wr.heap.size 1 0 from ⟨by first | omega | (simp; omega), by go_simp, by go_simp, by go_simp, by go_simp, by go_simp, by go_simp, by go_simp, by go_simp⟩) (fun e => by have := (World.ownsRow.lt HS.out.code _ e).2; omega); have hl3 := HS2.out.lt; clear hob hoth hat hg3 hsz3)
        | (go_at_call 35; ((with_reducible refine (HIN.out _).mono ?_); rintro e w1 ⟨rfl, hb1⟩; obtain ⟨osI, dI, rfl⟩ := ext_of_below hb1; clear hb1))
        | (at_builtin; refine wpList_append_ol isK_ok isE_cells rfl _ _ rfl rfl _ (iC 1 0) rfl ((HS2.out.new (by (repeat' (first | (with_reducible exact Below.refl _ _) | (with_reducible assumption) | (with_reducible refine Below.alloc ?_ ?_ _) | (with_reducible refine below_drewN ?_ _) | (with_reducible refine below_drew ?_) | (with_reducible refine below_ext ?_ ?_ _ _) | (with_reducible refine Below.setCell ?_ ?_ _) | (simp; done) | (simp; omega) | omega)))).code) (by simp [Act.eval]) (by decide) (by first | omega | (simp; omega)) ?_; intro g4 cap4 w4 hob hoth hat hg4 hsz4; have HS3 := Lib.hid ((HS2.out.new (by (repeat' (first | (with_reducible exact Below.refl _ _) | (with_reducible assumption) | (with_reducible refine Below.alloc ?_ ?_ _) | (with_reducible refine below_drewN ?_ _) | (with_reducible refine below_drew ?_) | (with_reducible refine below_ext ?_ ?_ _ _) | (with_reducible refine Below.setCell ?_ ?_ _) | (simp; done) | (simp; omega) | omega)))).setCode hoth hob); clear hob hoth hat hg4 hsz4))
      go_roundw
      case rel => exact ⟨2, rfl, by omega, HS3⟩
      case measure => simp [intOf]
    · obtain ⟨n0, n1, n2, n3, n4, n5, n6, n7⟩ := HCR.out.2 2 (by omega)
      have m0 : wr.cell? ⟨g, 16, none⟩ = some (.int .i64 3) := n0
      have m1 : wr.cell? ⟨g, 17, none⟩ = some (.int .i64 0) := n1
      have m2 : wr.cell? ⟨g, 18, none⟩ = some (.string ⟨#[]⟩) := n2
      have m3 : wr.cell? ⟨g, 19, none⟩ = some (.bool false) := n3
      have m4 : wr.cell? ⟨g, 20, none⟩ = some (.int .u64 0) := n4
      have m5 : wr.cell? ⟨g, 21, none⟩ = some (.int .u64 0) := n5
      have m6 : wr.cell? ⟨g, 22, none⟩ = some (.int .i64 0) := n6
      have m7 : wr.cell? ⟨g, 23, none⟩ = some (.int .i64 0) := n7
      clear n0 n1 n2 n3 n4 n5 n6 n7
      obtain ⟨q, cp, hv, hq, hcp⟩ := OL.form HS.out.code
      obtain rfl : u4 = .slice q 3 cp := hv
      obtain ⟨q2, cp2, hv2, hq2, hcp2⟩ := OL.form HS.out.jump
      obtain rfl : u5 = .slice q2 1 cp2 := hv2
      have HMP := Lib.hid (fun w' (hb : Below wr.heap.size wr w') => HS.out.map.new hb)
      have HIN := Lib.hid (fun w => instr_bare 3 (by omega) w)
      go_wp2_with (first
        | (at_lookup; refine look_imap _ rfl _ _ rfl rfl (HMP.out _ (by (repeat' (first | (with_reducible exact Below.refl _ _) | (with_reducible assumption) | (with_reducible refine Below.alloc ?_ ?_ _) | (with_reducible refine below_drewN ?_ _) | (with_reducible refine below_drew ?_) | (with_reducible refine below_ext ?_ ?_ _ _) | (with_reducible refine Below.setCell ?_ ?_ _) | (simp; done) | (simp; omega) | omega)))) 2 rfl (by omega) rfl (c := 101) (f := true) rfl rfl ?_)
        | (at_builtin; refine wpList_append_ol inK_ok inE_cells rfl _ _ rfl rfl _ 3 rfl ((HS.out.new (by (repeat' (first | (with_reducible exact Below.refl _ _) | (with_reducible assumption) | (with_reducible refine Below.alloc ?_ ?_ _) | (with_reducible refine below_drewN ?_ _) | (with_reducible refine below_drew ?_) | (with_reducible refine below_ext ?_ ?_ _ _) | (with_reducible refine Below.setCell ?_ ?_ _) | (simp; done) | (simp; omega) | omega)))).jump) (by simp [Act.eval]) (by decide) (by first | omega | (simp; omega)) ?_; intro g2 cap2 w2 hob hoth hat hg2 hsz2; have HS1 := Lib.hid ((HS.out.new (by (repeat' (first | (with_reducible exact Below.refl _ _) | (with_reducible assumption) | (with_reducible refine Below.alloc ?_ ?_ _) | (with_reducible refine below_drewN ?_ _) | (with_reducible refine below_drew ?_) | (with_reducible refine below_ext ?_ ?_ _ _) | (with_reducible refine Below.setCell ?_ ?_ _) | (simp; done) | (simp; omega) | omega)))).setJump hoth hob); obtain ⟨b9, b0, b1, b2, b3, b4, b5, b6, b7⟩ := NBx.kept hoth (show NBx _ wr.heap.size 3 0 from ⟨by simp, by simp, by simp, by simp, by simp, by simp, by simp, by simp, by simp⟩) (fun e => by have := (World.ownsRow.lt HS.out.jump _ e).2; omega); have hl2 := HS1.out.lt; clear hob hoth hat hg2 hsz2)
        | (at_builtin; refine wpList_append_ol isK_ok isE_cells rfl _ _ rfl rfl _ (iC 101 0) rfl ((HS1.out.new (by (repeat' (first | (with_reducible exact Below.refl _ _) | (with_reducible assumption) | (with_reducible refine Below.alloc ?_ ?_ _) | (with_reducible refine below_drewN ?_ _) | (with_reducible refine below_drew ?_) | (with_reducible refine below_ext ?_ ?_ _ _) | (with_reducible refine Below.setCell ?_ ?_ _) | (simp; done) | (simp; omega) | omega)))).code) (by simp [Act.eval]) (by decide) (by first | omega | (simp; omega)) ?_; intro g3 cap3 w3 hob hoth hat hg3 hsz3; have HS2 := Lib.hid ((HS1.out.new (by (repeat' (first | (with_reducible exact Below.refl _ _) | (with_reducible assumption) | (with_reducible refine Below.alloc ?_ ?_ _) | (with_reducible refine below_drewN ?_ _) | (with_reducible refine below_drew ?_) | (with_reducible refine below_ext ?_ ?_ _ _) | (with_reducible refine Below.setCell ?_ ?_ _) | (simp; done) | (simp; omega) | omega)))).setCode hoth hob); obtain ⟨b9', c0, c1, c2, c3, c4, c5, c6, c7⟩ := NBx.kept hoth (show NBx _ wr.heap.size 3 0 from ⟨by first | omega | (simp; omega), by go_simp, by go_simp, by go_simp, by go_simp, by go_simp, by go_simp, by go_simp, by go_simp⟩) (fun e => by have := (World.ownsRow.lt HS.out.code _ e).2; omega); have hl3 := HS2.out.lt; clear hob hoth hat hg3 hsz3)
        | (go_at_call 35; ((with_reducible refine (HIN.out _).mono ?_); rintro e w1 ⟨rfl, hb1⟩; obtain ⟨osI, dI, rfl⟩ := ext_of_below hb1; clear hb1))
        | (at_builtin; refine wpList_append_ol isK_ok isE_cells rfl _ _ rfl rfl _ (iC 3 0) rfl ((HS2.out.new (by (repeat' (first | (with_reducible exact Below.refl _ _) | (with_reducible assumption) | (with_reducible refine Below.alloc ?_ ?_ _) | (with_reducible refine below_drewN ?_ _) | (with_reducible refine below_drew ?_) | (with_reducible refine below_ext ?_ ?_ _ _) | (with_reducible refine Below.setCell ?_ ?_ _) | (simp; done) | (simp; omega) | omega)))).code) (by simp [Act.eval]) (by decide) (by first | omega | (simp; omega)) ?_; intro g4 cap4 w4 hob hoth hat hg4 hsz4; have HS3 := Lib.hid ((HS2.out.new (by (repeat' (first | (with_reducible exact Below.refl _ _) | (with_reducible assumption) | (with_reducible refine Below.alloc ?_ ?_ _) | (with_reducible refine below_drewN ?_ _) | (with_reducible refine below_drew ?_) | (with_reducible refine below_ext ?_ ?_ _ _) | (with_reducible refine Below.setCell ?_ ?_ _) | (simp; done) | (simp; omega) | omega)))).setCode hoth hob); clear hob hoth hat hg4 hsz4))
      go_roundw
      case rel => exact ⟨3, rfl, by omega, HS3⟩
      case measure => simp [intOf]
    · obtain ⟨n0, n1, n2, n3, n4, n5, n6, n7⟩ := HCR.out.2 3 (by omega)
      have m0 : wr.cell? ⟨g, 24, none⟩ = some (.int .i64 21) := n0
      have m1 : wr.cell? ⟨g, 25, none⟩ = some (.int .i64 3) := n1
      have m2 : wr.cell? ⟨g, 26, none⟩ = some (.string ⟨#[]⟩) := n2
      have m3 : wr.cell? ⟨g, 27, none⟩ = some (.bool false) := n3
      have m4 : wr.cell? ⟨g, 28, none⟩ = some (.int .u64 0) := n4
      have m5 : wr.cell? ⟨g, 29, none⟩ = some (.int .u64 0) := n5
      have m6 : wr.cell? ⟨g, 30, none⟩ = some (.int .i64 0) := n6
      have m7 : wr.cell? ⟨g, 31, none⟩ = some (.int .i64 0) := n7
      clear n0 n1 n2 n3 n4 n5 n6 n7
      obtain ⟨q, cp, hv, hq, hcp⟩ := OL.form HS.out.code
      obtain rfl : u4 = .slice q 5 cp := hv
      obtain ⟨q2, cp2, hv2, hq2, hcp2⟩ := OL.form HS.out.jump
      obtain rfl : u5 = .slice q2 2 cp2 := hv2
      have HMP := Lib.hid (fun w' (hb : Below wr.heap.size wr w') => HS.out.map.new hb)
      obtain ⟨gC, rfl, hgC, hgC2⟩ := hq (by decide)
      obtain ⟨gJ, rfl, hgJ, hgJ2⟩ := hq2 (by decide)
      have j0 : wr.cell? ⟨gJ, 0, none⟩ = some (.int .i64 1) := OL.cell inE_cells HS.out.jump 0 0 (by decide) rfl
      have j1 : wr.cell? ⟨gJ, 1, none⟩ = some (.int .i64 3) := OL.cell inE_cells HS.out.jump 1 0 (by decide) rfl
      have f9 : wr.cell? ⟨gC, 9, none⟩ = some (.int .i64 0) := OL.cell isE_cells HS.out.code 1 1 (by decide) rfl
      have f25 : wr.cell? ⟨gC, 25, none⟩ = some (.int .i64 0) := OL.cell isE_cells HS.out.code 3 1 (by decide) rfl
      have z9 : wr.frozen? ⟨gC, 9, none⟩ = false := OL.free HS.out.code
      have z25 : wr.frozen? ⟨gC, 25, none⟩ = false := OL.free HS.out.code
      have hcp5 : 5 ≤ cp := hcp
      have hcp22 : 2 ≤ cp2 := hcp2
      clear hq hq2
      go_wp2_with (first
        | (at_lookup; refine look_imap _ rfl _ _ rfl rfl (HMP.out _ (by (repeat' (first | (with_reducible exact Below.refl _ _) | (with_reducible assumption) | (with_reducible refine Below.alloc ?_ ?_ _) | (with_reducible refine below_drewN ?_ _) | (with_reducible refine below_drew ?_) | (with_reducible refine below_ext ?_ ?_ _ _) | (with_reducible refine Below.setCell ?_ ?_ _) | (simp; done) | (simp; omega) | omega)))) 3 rfl (by omega) rfl (c := 0) (f := false) rfl rfl ?_))
      go_region
      go_wp2
      have ho : Ot (fun k => (Value.slice (some ⟨gC, 0, none⟩) 5 cp).ownBlock = some k) wr ((wr.setCell ⟨gC, 9, none⟩ (.int .i64 4)).setCell ⟨gC, 25, none⟩ (.int .i64 5)) :=
        Ot.set (Ot.set (Ot.refl (fun k => (Value.slice (some ⟨gC, 0, none⟩) 5 cp).ownBlock = some k) wr) ⟨gC, 9, none⟩ (.inl rfl) _) ⟨gC, 25, none⟩ (.inl rfl) _
      have hx : OL isK insE (w.heap.size + 1) ((wr.setCell ⟨gC, 9, none⟩ (.int .i64 4)).setCell ⟨gC, 25, none⟩ (.int .i64 5)) (.slice (some ⟨gC, 0, none⟩) 5 cp) (codeC 4) :=
        (World.ownsRow.stored (World.ownsRow.stored HS.out.code 9 (.int .i64 4)).1 25 (.int .i64 5)).1
      have H1 := HS.out.setCode ho hx
      have H2 : CS w ((wr.setCell ⟨gC, 9, none⟩ (.int .i64 4)).setCell ⟨gC, 25, none⟩ (.int .i64 5)) (.slice (some ⟨gC, 0, none⟩) 5 cp) (.slice (some ⟨gJ, 0, none⟩) 0 cp2) (codeC 4) (jumpC 4) :=
        ⟨H1.code, OL.take inE_cells H1.jump (m := 0) (Nat.zero_le _), H1.map, H1.bel, H1.lt⟩
      exact ⟨⟨4, rfl, by omega, Lib.hid (H2.new (by (repeat' (first | (with_reducible exact Below.refl _ _) | (with_reducible assumption) | (with_reducible refine Below.alloc ?_ ?_ _) | (with_reducible refine below_drewN ?_ _) | (with_reducible refine below_drew ?_) | (with_reducible refine below_ext ?_ ?_ _ _) | (with_reducible refine Below.setCell ?_ ?_ _) | (simp; done) | (simp; omega) | omega))))⟩, by simp [intOf]⟩
    · obtain ⟨q, cp, hv, hq, hcp⟩ := OL.form HS.out.code
      go_wp2
      go_ret
      exact (show ∃ v', _ from ⟨_, rfl, HS.out.code, HS.out.bel⟩)
end Go.Proofs.YtpgfgaloagdogaaDoor
