/-
  What separates the parts of a choice; one instruction.
-/
import Derived.Test.YtkfkdlneafeglaaDoorNodD
import Derived.Test.YtkfkdlneafeglaaDoorCodD
namespace Go.Proofs.YtkfkdlneafeglaaDoor
open Go.RowKit Go.Maps Go.WideMaps Vm
attribute [local go_sem] setCell_drewN cell?_ext frozen?_ext shape?_ext setCell_ext lt_1' ne_1' en_1' le_1' lt_2' ne_2' en_2' le_2' lt_3' ne_3' en_3' le_3' lt_4' ne_4' en_4' le_4' lt_5' ne_5' en_5' le_5' lt_6' ne_6' en_6' le_6' lt_7' ne_7' en_7' le_7' lt_8' ne_8' en_8' le_8' lt_9' ne_9' en_9' le_9' lt_10' ne_10' en_10' le_10' lt_11' ne_11' en_11' le_11' lt_12' ne_12' en_12' le_12'

/-- the datum says this of its keys -/
def TellsI (D : DataW Unit) (m : Nat → Option Int) : Prop := IsMap D ∧ ∀ j : Nat, Maps.has D (.int .i64 (j : Int)) = (m j).isSome ∧ D.atKey (.int .i64 (j : Int)) (.lit (.int .i64 0)) = .lit (.int .i64 ((m j).getD 0))
theorem TellsI.put {D : DataW Unit} {m : Nat → Option Int} (h : TellsI D m) (k : Nat) (s : Int) : TellsI (D.put (.int .i64 (k : Int)) (.lit (.int .i64 s))) (fun j => if j = k then some s else m j) := by
  refine ⟨h.1.put _ _, fun j => ?_⟩
  show Maps.has _ _ = (if j = k then some s else m j).isSome ∧ DataW.atKey _ _ _ = .lit (.int .i64 ((if j = k then some s else m j).getD 0))
  by_cases e : j = k
  · subst e
    rw [if_pos rfl]
    exact ⟨has_put_same h.1 (key_int _) _, atKey_put_same h.1 (key_int _) _ _⟩
  · rw [if_neg e]
    have hne : Lit.int .i64 (j : Int) ≠ Lit.int .i64 (k : Int) := fun h => by
      injection h with _ h
      exact e (by omega)
    rw [has_put_other hne, atKey_put_other hne]
    exact h.2 j
/-- block b is a map of ints that holds m -/
def IMap (w : World) (b n : Nat) (m : Nat → Option Int) : Prop := ∃ D : DataW Unit, w.ownsMap Tryd.prog 3 (plainElem Tryd.prog 3) b n D ∧ TellsI D m
theorem IMap.lt {w : World} {b n : Nat} {m : Nat → Option Int} (h : IMap w b n m) : b < w.heap.size := h.elim fun _ h => h.1.lt
theorem IMap.kept {w w' : World} {b n : Nat} {m : Nat → Option Int} (h : IMap w b n m) {row : Option Nat} (hg : w.grownBy w' row) (hne : some b ≠ row) : IMap w' b n m := h.elim fun D h => ⟨D, h.1.kept hg hne, h.2⟩
theorem IMap.new {w w' : World} {b n : Nat} {m : Nat → Option Int} (h : IMap w b n m) (hb : Below w.heap.size w w') : IMap w' b n m :=
  h.kept (row := none) ⟨hb.os, hb.tape, hb.output, hb.size, fun k hk _ => hb.block k hk⟩ (by simp)
theorem IMap.ot {w w' : World} {b n : Nat} {m : Nat → Option Int} (h : IMap w b n m) {S : Nat → Prop} (ho : Ot S w w') (hn : ¬ S b) : IMap w' b n m := by
  obtain ⟨D, ⟨es, cl, hb, F, hs, hD⟩, ht⟩ := h
  exact ⟨D, ⟨es, cl, by rw [ho.block b (Array.getElem?_eq_some_iff.1 hb).1 hn]; exact hb, F, hs, hD⟩, ht⟩
theorem run_mmi (w : World) : (Instr.makeMap 90 none).run Tryd.prog w = .ok (.map (some w.heap.size)) (w.alloc (.map #[] 0)) := by
  simp [Instr.makeMap, go_sem]
theorem imap_made (w : World) : IMap (w.alloc (.map #[] 0)) w.heap.size 0 (fun _ => none) := ⟨.map [], World.ownsMap_made _ _ _ _, isMap_empty, fun _ => ⟨rfl, rfl⟩⟩
section
variable (w : World) {ops : Array Oper} {rest : List Oper} {o : Oper} {a : Act} {Q : Exit → Act → World → Prop}
theorem look_imap (hg : o.guard = none) (mo x : Operand) (hop : o.op = Op.lookup 90 mo x true) {b n : Nat} {m : Nat → Option Int} (hm : a.eval mo = .map (some b)) (hown : IMap w b n m) (j : Nat) {z : Int} (hz : z = (j : Int)) (hj : j ≤ 1000000) (hx : a.eval x = .int .i64 z) {c : Int} {f : Bool} (hc : (m j).getD 0 = c) (hf : (m j).isSome = f)
    (hK : wpList Tryd.prog ops Q rest (a.put o.dst (.tuple #[.int .i64 c, .bool f])) w) : wpList Tryd.prog ops Q (o :: rest) a w := by
  subst hz hc hf
  obtain ⟨D, hD, ht⟩ := hown
  have hkey : keyOf Tryd.prog 3 (.int .i64 (j : Int)) = some (.int .i64 (j : Int)) := keyOf_int_mk Tryd.underlying3 (WalkArith.wf_i64 (by omega))
  refine wpList_lookup_own_ok_int w hg mo x _ hop 3 3 .i64 mapLaw Tryd.underlying90 Tryd.underlying3 (zInt w) b n D hm hD _ _ hx hkey fun c hat _ => ?_
  rw [(ht.2 j).2] at hat
  have h3 := (Lit.int.inj (DataW.lit.inj hat)).2
  rw [(ht.2 j).1, ← h3]
  exact hK
theorem put_imap (hg : o.guard = none) (mo x v : Operand) (hop : o.op = Op.mapUpdate 90 mo x v) {b n : Nat} {m : Nat → Option Int} (hm : a.eval mo = .map (some b)) (hown : IMap w b n m) (hn : n ≤ 1000000) (j : Nat) {z : Int} (hz : z = (j : Int)) (hj : j ≤ 1000000) (hx : a.eval x = .int .i64 z) (s : Int) (hs : 0 ≤ s ∧ s ≤ 1000000) (hv : a.eval v = .int .i64 s)
    (hK : ∀ w', IMap w' b (n + 1) (fun i => if i = j then some s else m i) → w.grownBy w' (some b) → wpList Tryd.prog ops Q rest (a.put o.dst undef) w') : wpList Tryd.prog ops Q (o :: rest) a w := by
  subst hz
  obtain ⟨D, hD, ht⟩ := hown
  have hkey : keyOf Tryd.prog 3 (.int .i64 (j : Int)) = some (.int .i64 (j : Int)) := keyOf_int_mk Tryd.underlying3 (WalkArith.wf_i64 (by omega))
  exact wpList_mapUpdate_in w hg mo x v _ hop 3 3 mapLaw Tryd.underlying90 _ b n D hm hD (by unfold maxLen; omega) _ _ _ hx hv hkey _ [] (plainElem_int Tryd.underlying3 (WalkArith.wf_i64 (by omega))) fun w' h1 h2 => hK w' ⟨_, h1, ht.put j s⟩ h2.grown
end
/-- what separates the parts of the choice -/
abbrev sepC : Nat → Option Int := fun i => if i = 2 then some 101 else if i = 1 then some 102 else none
set_option maxRecDepth 100000 in
set_option maxHeartbeats 4000000 in
theorem separators_choice {g : Nat} {w : World} (h : ChC w g) :
    Calls Tryd.prog 40 #[.slice (some ⟨g, 0, none⟩) 4 4] w fun e w' => e = .returned (.map (some w.heap.size)) ∧ IMap w' w.heap.size 2 sepC ∧ Below w.heap.size w w' := by
  have HC := Lib.hid h
  have hmm := run_mmi
  have HE0 := Lib.hid (imap_made w)
  have HB0 := Lib.hid ((Below.refl w.heap.size w).alloc (Nat.le_refl _) (.map #[] 0))
  clear h
  go_enter Tryd.func40, Tryd.ntmps40
  go_wp2
  go_loopw [11] (fun z wr => ∃ k : Nat, z = .int .i64 k ∧ k ≤ 4 ∧ Hid (k ≤ 3 → IMap wr w.heap.size 0 (fun _ => none)) ∧ Hid (k = 4 → IMap wr w.heap.size 2 sepC) ∧ Hid (Below w.heap.size w wr) ∧ w.heap.size < wr.heap.size) (fun z _ => 4 - (intOf z).toNat)
  case atStart => exact ⟨0, rfl, by omega, Lib.hid (fun _ => HE0.out), Lib.hid (fun h => by cases h), HB0, by simp⟩
  case round =>
    obtain ⟨k, rfl, hk, hem, he4, hbe, hltw⟩ := hrel
    clear HE0 HB0 hmm
    have hk4 : k = 0 ∨ k = 1 ∨ k = 2 ∨ k = 3 ∨ k = 4 := by omega
    have HCR := Lib.hid (HC.out.new hbe.out)
    have hgr := HCR.out.1
    have HBR := Lib.hid hbe.out
    rcases hk4 with rfl | rfl | rfl | rfl | rfl
    case inr.inr.inr.inr =>
      have h4 := Lib.hid (he4.out rfl)
      go_wp2
      go_ret
      exact ⟨rfl, h4.out, HBR.out⟩
    case inr.inr.inr.inl =>
      obtain ⟨n0, n1, n2, n3, n4, n5, n6, n7⟩ := HCR.out.2 3 (by omega)
      have m0 : wr.cell? ⟨g, 24, none⟩ = some (.int .i64 21) := n0
      have m1 : wr.cell? ⟨g, 25, none⟩ = some (.int .i64 3) := n1
      have m2 : wr.cell? ⟨g, 26, none⟩ = some (.string ⟨#[]⟩) := n2
      have m3 : wr.cell? ⟨g, 27, none⟩ = some (.bool false) := n3
      have m4 : wr.cell? ⟨g, 28, none⟩ = some (.int .u64 0) := n4
      have m5 : wr.cell? ⟨g, 29, none⟩ = some (.int .u64 0) := n5
      have m6 : wr.cell? ⟨g, 30, none⟩ = some (.int .i64 0) := n6
      have m7 : wr.cell? ⟨g, 31, none⟩ = some (.int .i64 0) := n7
      clear n0 n1 n2 n3 n4 n5 n6 n7
      have HP := Lib.hid (fun w' (hb : Below wr.heap.size wr w') => parts_choice (HCR.out.new hb))
      have HM := Lib.hid (fun w' (hb : Below wr.heap.size wr w') => (hem.out (by omega)).new hb)
      go_wp2_with (first
        | (go_at_call 62; (with_reducible refine (HP.out _ (by (repeat' (first | (with_reducible exact Below.refl _ _) | (with_reducible assumption) | (with_reducible refine Below.alloc ?_ ?_ _) | (with_reducible refine below_drewN ?_ _) | (with_reducible refine below_drew ?_) | (with_reducible refine below_ext ?_ ?_ _ _) | (with_reducible refine Below.setCell ?_ ?_ _) | (simp; done) | (simp; omega) | omega)))).mono ?_); rintro e w1 ⟨v1, rfl, hvo, hb1⟩; have HVO := Lib.hid hvo; obtain ⟨q1, c1, rfl, hq1, -⟩ := OL.form hvo; obtain ⟨gp, rfl, hgp1, hgp2⟩ := hq1 (by decide); have p0 := (show w1.cell? ⟨gp, 0, none⟩ = some (.int .i64 0) from OL.cell inE_cells hvo 0 0 (by decide) rfl); have p1 := (show w1.cell? ⟨gp, 1, none⟩ = some (.int .i64 1) from OL.cell inE_cells hvo 1 0 (by decide) rfl); have hgw1 := hb1.size; obtain ⟨osC, dC, rfl⟩ := ext_of_below hb1; clear hb1 hvo hq1)
        | (at_mapUpdate; refine put_imap _ rfl _ _ _ rfl rfl (HM.out _ (by (repeat' (first | (with_reducible exact Below.refl _ _) | (with_reducible assumption) | (with_reducible refine Below.alloc ?_ ?_ _) | (with_reducible refine below_drewN ?_ _) | (with_reducible refine below_drew ?_) | (with_reducible refine below_ext ?_ ?_ _ _) | (with_reducible refine Below.setCell ?_ ?_ _) | (simp; done) | (simp; omega) | omega)))) (by omega) 1 rfl (by omega) rfl 102 (by omega) rfl ?_; intro w3 hm3 hg3; have p1b := (World.cell?_of_block (a := ⟨gp, 1, none⟩) (hg3.block gp hgp2 (by intro e; injection e with e; simp at hgp1; omega))).trans p1; have HM3 := Lib.hid hm3; have HB3 := Lib.hid ((HBR.out.trans (show Below w.heap.size wr _ by (repeat' (first | (with_reducible exact Below.refl _ _) | (with_reducible assumption) | (with_reducible refine Below.alloc ?_ ?_ _) | (with_reducible refine below_drewN ?_ _) | (with_reducible refine below_drew ?_) | (with_reducible refine below_ext ?_ ?_ _ _) | (with_reducible refine Below.setCell ?_ ?_ _) | (simp; done) | (simp; omega) | omega)))).grown hg3 (by simp; omega) (fun j hj => by cases hj; exact Nat.le_refl _)); have hs3 := hg3.size; clear hm3 hg3)
        | (at_mapUpdate; refine put_imap _ rfl _ _ _ rfl rfl HM3.out (by omega) 2 rfl (by omega) rfl 101 (by omega) rfl ?_; intro w4 hm4 hg4; have HM4 := Lib.hid (show IMap w4 w.heap.size 2 sepC from hm4); have HB4 := Lib.hid (HB3.out.grown hg4 (by simp at hs3; omega) (fun j hj => by cases hj; exact Nat.le_refl _)); have hs4 := hg4.size; clear hm4 hg4))
      have hs5 : w.heap.size < w4.heap.size := by simp at hs3; omega
      go_roundw
      case rel => exact ⟨4, rfl, by omega, Lib.hid (fun h => by omega), Lib.hid (fun _ => HM4.out), HB4, hs5⟩
      case measure => simp [intOf]
    case inl =>
      obtain ⟨n0, n1, n2, n3, n4, n5, n6, n7⟩ := HCR.out.2 0 (by omega)
      have m0 : wr.cell? ⟨g, 0, none⟩ = some (.int .i64 2) := n0
      have m1 : wr.cell? ⟨g, 1, none⟩ = some (.int .i64 0) := n1
      have m2 : wr.cell? ⟨g, 2, none⟩ = some (.string ⟨#[]⟩) := n2
      have m3 : wr.cell? ⟨g, 3, none⟩ = some (.bool false) := n3
      have m4 : wr.cell? ⟨g, 4, none⟩ = some (.int .u64 0) := n4
      have m5 : wr.cell? ⟨g, 5, none⟩ = some (.int .u64 0) := n5
      have m6 : wr.cell? ⟨g, 6, none⟩ = some (.int .i64 0) := n6
      have m7 : wr.cell? ⟨g, 7, none⟩ = some (.int .i64 0) := n7
      clear n0 n1 n2 n3 n4 n5 n6 n7
      have HM := Lib.hid (fun w' (hb : Below wr.heap.size wr w') => (hem.out (by omega)).new hb)
      go_wp2
      go_roundw
      case rel => exact ⟨1, rfl, by omega, Lib.hid (fun _ => HM.out _ (by (repeat' (first | (with_reducible exact Below.refl _ _) | (with_reducible assumption) | (with_reducible refine Below.alloc ?_ ?_ _) | (with_reducible refine below_drewN ?_ _) | (with_reducible refine below_drew ?_) | (with_reducible refine below_ext ?_ ?_ _ _) | (with_reducible refine Below.setCell ?_ ?_ _) | (simp; done) | (simp; omega) | omega)))), Lib.hid (fun h => by cases h), Lib.hid (HBR.out.trans (by (repeat' (first | (with_reducible exact Below.refl _ _) | (with_reducible assumption) | (with_reducible refine Below.alloc ?_ ?_ _) | (with_reducible refine below_drewN ?_ _) | (with_reducible refine below_drew ?_) | (with_reducible refine below_ext ?_ ?_ _ _) | (with_reducible refine Below.setCell ?_ ?_ _) | (simp; done) | (simp; omega) | omega)))), by simp; omega⟩
      case measure => simp [intOf]
    case inr.inl =>
      obtain ⟨n0, n1, n2, n3, n4, n5, n6, n7⟩ := HCR.out.2 1 (by omega)
      have m0 : wr.cell? ⟨g, 8, none⟩ = some (.int .i64 1) := n0
      have m1 : wr.cell? ⟨g, 9, none⟩ = some (.int .i64 0) := n1
      have m2 : wr.cell? ⟨g, 10, none⟩ = some (.string ⟨#[]⟩) := n2
      have m3 : wr.cell? ⟨g, 11, none⟩ = some (.bool false) := n3
      have m4 : wr.cell? ⟨g, 12, none⟩ = some (.int .u64 0) := n4
      have m5 : wr.cell? ⟨g, 13, none⟩ = some (.int .u64 0) := n5
      have m6 : wr.cell? ⟨g, 14, none⟩ = some (.int .i64 0) := n6
      have m7 : wr.cell? ⟨g, 15, none⟩ = some (.int .i64 0) := n7
      clear n0 n1 n2 n3 n4 n5 n6 n7
      have HM := Lib.hid (fun w' (hb : Below wr.heap.size wr w') => (hem.out (by omega)).new hb)
      go_wp2
      go_roundw
      case rel => exact ⟨2, rfl, by omega, Lib.hid (fun _ => HM.out _ (by (repeat' (first | (with_reducible exact Below.refl _ _) | (with_reducible assumption) | (with_reducible refine Below.alloc ?_ ?_ _) | (with_reducible refine below_drewN ?_ _) | (with_reducible refine below_drew ?_) | (with_reducible refine below_ext ?_ ?_ _ _) | (with_reducible refine Below.setCell ?_ ?_ _) | (simp; done) | (simp; omega) | omega)))), Lib.hid (fun h => by cases h), Lib.hid (HBR.out.trans (by (repeat' (first | (with_reducible exact Below.refl _ _) | (with_reducible assumption) | (with_reducible refine Below.alloc ?_ ?_ _) | (with_reducible refine below_drewN ?_ _) | (with_reducible refine below_drew ?_) | (with_reducible refine below_ext ?_ ?_ _ _) | (with_reducible refine Below.setCell ?_ ?_ _) | (simp; done) | (simp; omega) | omega)))), by simp; omega⟩
      case measure => simp [intOf]
    case inr.inr.inl =>
      obtain ⟨n0, n1, n2, n3, n4, n5, n6, n7⟩ := HCR.out.2 2 (by omega)
      have m0 : wr.cell? ⟨g, 16, none⟩ = some (.int .i64 3) := n0
      have m1 : wr.cell? ⟨g, 17, none⟩ = some (.int .i64 0) := n1
      have m2 : wr.cell? ⟨g, 18, none⟩ = some (.string ⟨#[]⟩) := n2
      have m3 : wr.cell? ⟨g, 19, none⟩ = some (.bool false) := n3
      have m4 : wr.cell? ⟨g, 20, none⟩ = some (.int .u64 0) := n4
      have m5 : wr.cell? ⟨g, 21, none⟩ = some (.int .u64 0) := n5
      have m6 : wr.cell? ⟨g, 22, none⟩ = some (.int .i64 0) := n6
      have m7 : wr.cell? ⟨g, 23, none⟩ = some (.int .i64 0) := n7
      clear n0 n1 n2 n3 n4 n5 n6 n7
      have HM := Lib.hid (fun w' (hb : Below wr.heap.size wr w') => (hem.out (by omega)).new hb)
      go_wp2
      go_roundw
      case rel => exact ⟨3, rfl, by omega, Lib.hid (fun _ => HM.out _ (by (repeat' (first | (with_reducible exact Below.refl _ _) | (with_reducible assumption) | (with_reducible refine Below.alloc ?_ ?_ _) | (with_reducible refine below_drewN ?_ _) | (with_reducible refine below_drew ?_) | (with_reducible refine below_ext ?_ ?_ _ _) | (with_reducible refine Below.setCell ?_ ?_ _) | (simp; done) | (simp; omega) | omega)))), Lib.hid (fun h => by cases h), Lib.hid (HBR.out.trans (by (repeat' (first | (with_reducible exact Below.refl _ _) | (with_reducible assumption) | (with_reducible refine Below.alloc ?_ ?_ _) | (with_reducible refine below_drewN ?_ _) | (with_reducible refine below_drew ?_) | (with_reducible refine below_ext ?_ ?_ _ _) | (with_reducible refine Below.setCell ?_ ?_ _) | (simp; done) | (simp; omega) | omega)))), by simp; omega⟩
      case measure => simp [intOf]
end Go.Proofs.YtkfkdlneafeglaaDoor
