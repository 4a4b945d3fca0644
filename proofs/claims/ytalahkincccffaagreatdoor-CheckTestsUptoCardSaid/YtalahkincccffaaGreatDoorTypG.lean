/-
  The map of names to types that the call makes; the type of a node.
-/
import Derived.Test.YtalahkincccffaaGreatDoorTypD
import Derived.Test.YtalahkincccffaaGreatDoorTypE
import Derived.Test.YtalahkincccffaaGreatDoorTypF
import Derived.Test.YtalahkincccffaaGreatDoorBy
import Derived.Test.YtalahkincccffaaGreatDoorBt
import Derived.Maps.OwnSet
import Derived.Maps.OwnOps
import Derived.Maps.Views
import Derived.Laws.StructEq
namespace Go.Proofs.YtalahkincccffaaGreatDoor
open Go.RowKit Go.Maps Go.WideMaps Word Txt
attribute [local go_sem] setCell_drewN cell?_ext frozen?_ext shape?_ext setCell_ext lt_1' ne_1' en_1' le_1' lt_2' ne_2' en_2' le_2' lt_3' ne_3' en_3' le_3' lt_4' ne_4' en_4' le_4' lt_5' ne_5' en_5' le_5' lt_6' ne_6' en_6' le_6' lt_7' ne_7' en_7' le_7' lt_8' ne_8' en_8' le_8' lt_9' ne_9' en_9' le_9' lt_10' ne_10' en_10' le_10' lt_11' ne_11' en_11' le_11' lt_12' ne_12' en_12' le_12'

def tyDat (s : Ty) : DataW Unit := .agg [.lit (.int .i64 s.1), .lit (.int .i64 s.2)]
theorem tyV_inj {s u : Ty} (h : TyV s = TyV u) : s = u := by
  injection h with h
  simp at h
  exact Prod.ext h.1 h.2
theorem tyDat_inj {s u : Ty} (h : tyDat s = tyDat u) : s = u := by
  unfold tyDat at h
  simp at h
  exact Prod.ext h.1 h.2
open Classical in
noncomputable def tyElem (v : Value) : Option (DataW Unit × List MemPlace) := if h : ∃ s : Ty, v = TyV s then some (tyDat h.choose, []) else none
theorem tyElem_mk (s : Ty) : tyElem (TyV s) = some (tyDat s, []) := by
  unfold tyElem
  have h : ∃ u : Ty, TyV s = TyV u := ⟨s, rfl⟩
  rw [dif_pos h, ← tyV_inj h.choose_spec]
theorem tyElem_inv {v : Value} {s : Ty} {ps : List MemPlace} (h : tyElem v = some (tyDat s, ps)) : v = TyV s := by
  unfold tyElem at h
  split at h
  · rename_i hx
    injection h with h
    injection h with h1 h2
    rw [hx.choose_spec, tyDat_inj h1]
  · cases h
theorem zeroTy (w : World) : (zeroValue 26).run Tryz.prog w = .ok (TyV (0, 0)) w := by kernel_rfl
def TellsY (D : DataW Unit) (m : ByteArray → Option Ty) : Prop := IsMap D ∧ ∀ x : ByteArray, Maps.has D (.string x.data.toList) = (m x).isSome ∧ D.atKey (.string x.data.toList) (tyDat (0, 0)) = tyDat ((m x).getD (0, 0))
theorem tellsY_nil : TellsY (.map []) (fun _ => none) := ⟨isMap_empty, fun _ => ⟨rfl, rfl⟩⟩
open Classical in
theorem TellsY.put {D : DataW Unit} {m : ByteArray → Option Ty} (h : TellsY D m) (k : ByteArray) (s : Ty) : TellsY (D.put (.string k.data.toList) (tyDat s)) (fun j => if j = k then some s else m j) := by
  refine ⟨h.1.put _ _, fun j => ?_⟩
  show Maps.has _ _ = (if j = k then some s else m j).isSome ∧ DataW.atKey _ _ _ = tyDat ((if j = k then some s else m j).getD (0, 0))
  by_cases e : j = k
  · subst e
    rw [if_pos rfl]
    exact ⟨has_put_same h.1 (strKeyN _) _, atKey_put_same h.1 (strKeyN _) _ _⟩
  · rw [if_neg e]
    have hne : Lit.string j.data.toList ≠ Lit.string k.data.toList := fun h => e (dataN_inj (by simpa using h))
    rw [has_put_other hne, atKey_put_other hne]
    exact h.2 j
theorem TellsY.congr {D : DataW Unit} {m m' : ByteArray → Option Ty} (h : TellsY D m) (e : ∀ j, m j = m' j) : TellsY D m' := ⟨h.1, fun j => by rw [← e j]; exact h.2 j⟩
def SyIs (w : World) (b n : Nat) (m : ByteArray → Option Ty) : Prop := ∃ D : DataW Unit, w.ownsMap Tryz.prog 9 tyElem b n D ∧ TellsY D m
theorem SyIs.lt {w : World} {b n : Nat} {m : ByteArray → Option Ty} (h : SyIs w b n m) : b < w.heap.size := h.elim fun _ h => h.1.lt
theorem SyIs.new {w w' : World} {b n : Nat} {m : ByteArray → Option Ty} (h : SyIs w b n m) (hb : Below w.heap.size w w') : SyIs w' b n m :=
  h.elim fun D h => ⟨D, h.1.kept (row := none) ⟨hb.os, hb.tape, hb.output, hb.size, fun k hk _ => hb.block k hk⟩ (by simp), h.2⟩
theorem SyIs.congr {w : World} {b n : Nat} {m m' : ByteArray → Option Ty} (h : SyIs w b n m) (e : ∀ j, m j = m' j) : SyIs w b n m' := h.elim fun D h => ⟨D, h.1, h.2.congr e⟩
theorem sy_made (w : World) : SyIs (w.alloc (.map #[] 0)) w.heap.size 0 (fun _ => none) := ⟨.map [], World.ownsMap_made _ _ _ _, tellsY_nil⟩
section
variable (w : World) {ops : Array Oper} {rest : List Oper} {o : Oper} {a : Act} {Q : Exit → Act → World → Prop}
theorem wpList_look_sy (hg : o.guard = none) (mo x : Operand) (hop : o.op = Op.lookup 43 mo x true) {b n : Nat} {m : ByteArray → Option Ty} (hm : a.eval mo = .map (some b)) (hown : SyIs w b n m) {t : ByteArray} (ht : t.size ≤ maxLen) (hx : a.eval x = .string t)
    (hK : wpList Tryz.prog ops Q rest (a.put o.dst (.tuple #[TyV ((m t).getD (0, 0)), .bool (m t).isSome])) w) : wpList Tryz.prog ops Q (o :: rest) a w := by
  obtain ⟨D, hD, htl⟩ := hown
  refine wpList_lookup_own_ok w hg mo x _ hop 9 26 sKeyN Tryz.underlying43 tyElem (zeroTy w) (tyDat (0, 0)) [] (tyElem_mk _) b n D hm hD _ _ hx (keyN ht) fun v ps hv => ?_
  rw [(htl.2 t).2] at hv
  rw [tyElem_inv hv, (htl.2 t).1]
  exact hK
open Classical in
theorem wpList_put_sy (hg : o.guard = none) (mo x v : Operand) (hop : o.op = Op.mapUpdate 43 mo x v) {b n : Nat} {m : ByteArray → Option Ty} (hm : a.eval mo = .map (some b)) (hown : SyIs w b n m) (hn : n ≤ 1000000) {t : ByteArray} (ht : t.size ≤ maxLen) (hx : a.eval x = .string t) (s : Ty) (hv : a.eval v = TyV s)
    (hK : ∀ w', SyIs w' b (n + 1) (fun i => if i = t then some s else m i) → w.grownBy w' (some b) → wpList Tryz.prog ops Q rest (a.put o.dst undef) w') : wpList Tryz.prog ops Q (o :: rest) a w := by
  obtain ⟨D, hD, htl⟩ := hown
  exact wpList_mapUpdate_in w hg mo x v _ hop 9 26 sKeyN Tryz.underlying43 tyElem b n D hm hD (by unfold maxLen; omega) _ _ _ hx hv (keyN ht) _ [] (tyElem_mk s) fun w' h1 h2 => hK w' ⟨_, h1, htl.put t s⟩ h2.grown
end
set_option maxRecDepth 100000 in
set_option maxHeartbeats 8000000 in
theorem typeOf_any (sy : List SyD) (x : NdD) (ts : List Ty) (b kn n : Nat) (w : World) (v : Value) (hm : SyIs w b kn (findS sy)) (hv : RL 2 tpE n w v ts) (hn : n ≤ w.heap.size) (hl : ts.length ≤ 1000) (hk : takesN x.op ts.length = true) (ht : x.t.size ≤ maxLen) (hf : ∀ t ∈ ts, FmT t) (hG : TyG w) :
    Calls Tryz.prog 30 #[.map (some b), NdV x, v] w fun en w' => en = .returned (.tuple #[TyV (tyM sy x ts).1, .int .i64 (tyM sy x ts).2]) ∧ Below w.heap.size w w' := by
  have hte := takes_eq hk
  have HEt := Lib.hid (show ∀ e w, Calls Tryz.prog 53 #[.bool true, .int .i64 e] w fun en w' => en = .returned (.int .i64 0) ∧ w' = w from fun e w => errorUnless_any true e w)
  have HEf := Lib.hid (show ∀ e w, Calls Tryz.prog 53 #[.bool false, .int .i64 e] w fun en w' => en = .returned (.int .i64 e) ∧ w' = w from fun e w => errorUnless_any false e w)
  obtain ⟨op, k, t, neg, c, s, day⟩ := x
  simp only at hk hte ht
  obtain ⟨ha, hha⟩ : ∃ ha : Int, ha = (hi c : Int) := ⟨_, rfl⟩
  obtain ⟨la, hla⟩ : ∃ la : Int, la = (lo c : Int) := ⟨_, rfl⟩
  rw [show NdV ⟨op, k, t, neg, c, s, day⟩ = NodV op k t neg ha la s day from by rw [hha, hla]]
  by_cases h1 : op = 7
  · subst h1
    have hr : tyM sy ⟨7, k, t, neg, c, s, day⟩ ts = (match findS sy t with | some t => (t, 0) | none => ((0, 0), 8)) := by unfold tyM; exact if_pos rfl
    rw [hr]
    have HM := Lib.hid (fun w' (hb : Below w.heap.size w w') => hm.new hb)
    have HLK := Lib.hid (show ∀ o, findS sy t = o → findS sy t = o from fun _ h => h)
    obtain ⟨p, c2, rfl, -⟩ := hv
    generalize ts.length = len
    generalize hq : findS sy t = q at HLK ⊢
    have HQ := Lib.hid hq
    clear hr hm hk hte hha hla hG hf hl hq HLK
    cases q with
    | none =>
      go_enter Tryz.func30, Tryz.ntmps30
      go_upto_region 4 with (at_lookup; refine wpList_look_sy _ rfl _ _ rfl rfl (HM.out _ (by (repeat' (first | (with_reducible first | exact Below.refl _ _ | assumption | refine Below.alloc ?_ ?_ _ | refine below_drewN ?_ _ | refine below_drew ?_ | refine below_ext ?_ ?_ _ _ | refine Below.setCell ?_ ?_ _) | (simp; done) | (simp; omega) | omega)))) ht rfl ?_; rw [HQ.out]; show wpList _ _ _ _ (Act.put _ _ (.tuple #[.agg #[.int .i64 0, .int .i64 0], .bool false])) _)
      go_region_with (first
        | (go_at_call 53; ((with_reducible refine (HEt.out _ _).mono ?_); rintro e w' ⟨rfl, rfl⟩))
        | (go_at_call 53; ((with_reducible refine (HEf.out _ _).mono ?_); rintro e w' ⟨rfl, rfl⟩)))
      all_goals
        go_wp2
        go_returns
        exact ⟨rfl, by (repeat' (first | (with_reducible first | exact Below.refl _ _ | assumption | refine Below.alloc ?_ ?_ _ | refine below_drewN ?_ _ | refine below_drew ?_ | refine below_ext ?_ ?_ _ _ | refine Below.setCell ?_ ?_ _) | (simp; done) | (simp; omega) | omega))⟩
    | some q =>
      obtain ⟨q1, q2⟩ := q
      go_enter Tryz.func30, Tryz.ntmps30
      go_upto_region 4 with (at_lookup; refine wpList_look_sy _ rfl _ _ rfl rfl (HM.out _ (by (repeat' (first | (with_reducible first | exact Below.refl _ _ | assumption | refine Below.alloc ?_ ?_ _ | refine below_drewN ?_ _ | refine below_drew ?_ | refine below_ext ?_ ?_ _ _ | refine Below.setCell ?_ ?_ _) | (simp; done) | (simp; omega) | omega)))) ht rfl ?_; rw [HQ.out]; show wpList _ _ _ _ (Act.put _ _ (.tuple #[.agg #[.int .i64 q1, .int .i64 q2], .bool true])) _)
      go_region_with (first
        | (go_at_call 53; ((with_reducible refine (HEt.out _ _).mono ?_); rintro e w' ⟨rfl, rfl⟩))
        | (go_at_call 53; ((with_reducible refine (HEf.out _ _).mono ?_); rintro e w' ⟨rfl, rfl⟩)))
      all_goals
        go_wp2
        go_returns
        exact ⟨rfl, by (repeat' (first | (with_reducible first | exact Below.refl _ _ | assumption | refine Below.alloc ?_ ?_ _ | refine below_drewN ?_ _ | refine below_drew ?_ | refine below_ext ?_ ?_ _ _ | refine Below.setCell ?_ ?_ _) | (simp; done) | (simp; omega) | omega))⟩
  by_cases h2 : op = 25
  · subst h2
    have hr : tyM sy ⟨25, k, t, neg, c, s, day⟩ ts = calM t ts := by unfold tyM; rw [if_neg h1, if_pos rfl]
    rw [hr]
    have HC := Lib.hid (show ∀ w', Below w.heap.size w w' → Calls Tryz.prog 54 #[.string t, v] w' fun en w'' => en = .returned (.tuple #[.agg #[.int .i64 (calM t ts).1.1, .int .i64 (calM t ts).1.2], .int .i64 (calM t ts).2]) ∧ Below w'.heap.size w' w'' from fun w' hb => callOf_any t ts n w' v (hv.keep (hb.mono hn)) (Nat.le_trans hn hb.size) hl (hG.below hb))
    generalize calM t ts = q at HC ⊢
    obtain ⟨⟨q1, q2⟩, q3⟩ := q
    simp only at HC
    obtain ⟨p, c2, rfl, -⟩ := hv
    generalize ts.length = len at HC ⊢
    clear hr hm hk hte hha hla hG hf hl h1
    go_enter Tryz.func30, Tryz.ntmps30
    go_wp2_with (first
      | (go_at_call 54; ((with_reducible refine (HC.out _ (by (repeat' (first | (with_reducible first | exact Below.refl _ _ | assumption | refine Below.alloc ?_ ?_ _ | refine below_drewN ?_ _ | refine below_drew ?_ | refine below_ext ?_ ?_ _ _ | refine Below.setCell ?_ ?_ _) | (simp; done) | (simp; omega) | omega)))).mono ?_); rintro e w1 ⟨rfl, hb1⟩; obtain ⟨osA, dA, rfl⟩ := ext_of_below hb1; clear hb1)))
    go_returns
    exact ⟨rfl, by (repeat' (first | (with_reducible first | exact Below.refl _ _ | assumption | refine Below.alloc ?_ ?_ _ | refine below_drewN ?_ _ | refine below_drew ?_ | refine below_ext ?_ ?_ _ _ | refine Below.setCell ?_ ?_ _) | (simp; done) | (simp; omega) | omega))⟩
  by_cases h3 : op = 9
  · subst h3
    obtain ⟨a, b2, rfl⟩ := ty2 (hte.2.1 (by omega))
    have hr : tyM sy ⟨9, k, t, neg, c, s, day⟩ [a, b2] = sumM a b2 := by unfold tyM; rw [if_neg h1, if_neg h2, if_pos rfl]; rfl
    rw [hr]
    have HC := Lib.hid (show ∀ w', Below w.heap.size w w' → Calls Tryz.prog 55 #[.agg #[.int .i64 a.1, .int .i64 a.2], .agg #[.int .i64 b2.1, .int .i64 b2.2]] w' fun en w'' => en = .returned (.tuple #[.agg #[.int .i64 (sumM a b2).1.1, .int .i64 (sumM a b2).1.2], .int .i64 (sumM a b2).2]) ∧ Below w'.heap.size w' w'' from fun w' hb => sumOf_any a b2 w' (hG.below hb))
    generalize sumM a b2 = q at HC ⊢
    obtain ⟨⟨q1, q2⟩, q3⟩ := q
    simp only at HC
    obtain ⟨g, o, c2, rfl, hgn, c0, c1, c2', c3⟩ := rl_two hv
    have hgw : g < w.heap.size := Nat.lt_of_lt_of_le hgn hn
    have HK := Lib.hid (show ∀ w', Below w.heap.size w w' → w'.cell? ⟨g, o, none⟩ = some (.int .i64 a.1) ∧ w'.cell? ⟨g, o + 1, none⟩ = some (.int .i64 a.2) ∧ w'.cell? ⟨g, o + 2, none⟩ = some (.int .i64 b2.1) ∧ w'.cell? ⟨g, o + 2 + 1, none⟩ = some (.int .i64 b2.2) from fun w' hb => ⟨(hb.cell (p := ⟨g, _, none⟩) hgw).trans c0, (hb.cell (p := ⟨g, _, none⟩) hgw).trans c1, (hb.cell (p := ⟨g, _, none⟩) hgw).trans c2', (hb.cell (p := ⟨g, _, none⟩) hgw).trans c3⟩)
    obtain ⟨a1, a2⟩ := a
    obtain ⟨b1, b3⟩ := b2
    clear hr hm hk hte hha hla hG hf hl h1 h2 hv c0 c1 c2' c3
    go_enter Tryz.func30, Tryz.ntmps30
    go_upto_region 8 with fail
    go_region_held3 (fun w' => w'.cell? ⟨g, o, none⟩ = some (.int .i64 a1) ∧ w'.cell? ⟨g, o + 1, none⟩ = some (.int .i64 a2) ∧ w'.cell? ⟨g, o + 2, none⟩ = some (.int .i64 b1) ∧ w'.cell? ⟨g, o + 2 + 1, none⟩ = some (.int .i64 b3)) (exact HK.out _ (by (repeat' (first | (with_reducible first | exact Below.refl _ _ | assumption | refine Below.alloc ?_ ?_ _ | refine below_drewN ?_ _ | refine below_drew ?_ | refine below_ext ?_ ?_ _ _ | refine Below.setCell ?_ ?_ _) | (simp; done) | (simp; omega) | omega)))) (first
      | (go_at_call 55; ((with_reducible refine (HC.out _ (by (repeat' (first | (with_reducible first | exact Below.refl _ _ | assumption | refine Below.alloc ?_ ?_ _ | refine below_drewN ?_ _ | refine below_drew ?_ | refine below_ext ?_ ?_ _ _ | refine Below.setCell ?_ ?_ _) | (simp; done) | (simp; omega) | omega)))).mono ?_); rintro e w1 ⟨rfl, hb1⟩; obtain ⟨osA, dA, rfl⟩ := ext_of_below hb1; clear hb1)))
    all_goals
      go_wp2
      go_returns
      exact ⟨rfl, by (repeat' (first | (with_reducible first | exact Below.refl _ _ | assumption | refine Below.alloc ?_ ?_ _ | refine below_drewN ?_ _ | refine below_drew ?_ | refine below_ext ?_ ?_ _ _ | refine Below.setCell ?_ ?_ _) | (simp; done) | (simp; omega) | omega))⟩
  by_cases h4 : op = 21
  · subst h4
    obtain ⟨a, b2, d, rfl⟩ := ty3 (hte.2.2 (by omega))
    have fb : tform b2.1 b2.2 = true := hf b2 (by simp)
    have fd : tform d.1 d.2 = true := hf d (by simp)
    have hr : tyM sy ⟨21, k, t, neg, c, s, day⟩ [a, b2, d] = ((joinK b2.1 b2.2 d.1 d.2, joinO b2.1 b2.2 d.1 d.2), if meetB a (1, 0) = true then 0 else 9) := by unfold tyM; rw [if_neg h1, if_neg h2, if_neg h3, if_pos rfl]; rfl
    rw [hr]
    have HJ := Lib.hid (fun w => kJoin_ok b2.1 b2.2 d.1 d.2 fb fd w)
    have HC := Lib.hid (show ∀ w', Below w.heap.size w w' → Calls Tryz.prog 57 #[.agg #[.int .i64 a.1, .int .i64 a.2], .agg #[.int .i64 1, .int .i64 0]] w' fun en w'' => en = .returned (.bool (meetB a (1, 0))) ∧ Below w'.heap.size w' w'' from fun w' hb => meets_any a (1, 0) w' (hG.below hb))
    generalize meetB a (1, 0) = mt at HC ⊢
    generalize joinK b2.1 b2.2 d.1 d.2 = jk at HJ ⊢
    generalize joinO b2.1 b2.2 d.1 d.2 = jo at HJ ⊢
    obtain ⟨g, o, c2, rfl, hgn, c0, c1, c2', c3, c4, c5⟩ := rl_three hv
    have hgw : g < w.heap.size := Nat.lt_of_lt_of_le hgn hn
    have HK := Lib.hid (show ∀ w', Below w.heap.size w w' → w'.cell? ⟨g, o + 2, none⟩ = some (.int .i64 b2.1) ∧ w'.cell? ⟨g, o + 2 + 1, none⟩ = some (.int .i64 b2.2) ∧ w'.cell? ⟨g, o + 4, none⟩ = some (.int .i64 d.1) ∧ w'.cell? ⟨g, o + 4 + 1, none⟩ = some (.int .i64 d.2) from fun w' hb => ⟨(hb.cell (p := ⟨g, _, none⟩) hgw).trans c2', (hb.cell (p := ⟨g, _, none⟩) hgw).trans c3, (hb.cell (p := ⟨g, _, none⟩) hgw).trans c4, (hb.cell (p := ⟨g, _, none⟩) hgw).trans c5⟩)
    have hbW : 0 < w.heap.size := hG.sz.2.2.2.2.1
    have HK2 := Lib.hid (show ∀ w', Below w.heap.size w w' → w'.cell? ⟨g, o, none⟩ = some (.int .i64 a.1) ∧ w'.cell? ⟨g, o + 1, none⟩ = some (.int .i64 a.2) ∧ w'.cell? ⟨0, 0, none⟩ = some (.int .i64 1) ∧ w'.cell? ⟨0, 1, none⟩ = some (.int .i64 0) from fun w' hb => ⟨(hb.cell (p := ⟨g, _, none⟩) hgw).trans c0, (hb.cell (p := ⟨g, _, none⟩) hgw).trans c1, (hG.below hb).b0, (hG.below hb).b1⟩)
    obtain ⟨a1, a2⟩ := a
    obtain ⟨b1, b3⟩ := b2
    obtain ⟨d1, d2⟩ := d
    clear hr hm hk hte hha hla hG hf hl h1 h2 h3 hv c0 c1 c2' c3 c4 c5 fb fd
    go_enter Tryz.func30, Tryz.ntmps30
    go_upto_region 10 with fail
    obtain ⟨rb, hrb⟩ : ∃ rb, rb = w.heap.size + 1 := ⟨_, rfl⟩
    rw [← hrb]
    go_cut [10] (fun s10 wx => ∃ jb, s10 = .pointer (some ⟨jb, 0, none⟩) ∧ rb < jb ∧ jb < wx.heap.size ∧ wx.cell? ⟨jb, 0, none⟩ = some (.int .i64 jk) ∧ wx.cell? ⟨jb, 1, none⟩ = some (.int .i64 jo) ∧ Hid (Below w.heap.size w wx) ∧ rb < wx.heap.size ∧ wx.cell? ⟨rb, 0, none⟩ = some (.int .i64 0) ∧ wx.cell? ⟨rb, 1, none⟩ = some (.int .i64 0) ∧ wx.frozen? ⟨rb, 0, none⟩ = false ∧ wx.frozen? ⟨rb, 1, none⟩ = false)
    case first =>
      subst hrb
      go_region_held3 (fun w' => w'.cell? ⟨g, o + 2, none⟩ = some (.int .i64 b1) ∧ w'.cell? ⟨g, o + 2 + 1, none⟩ = some (.int .i64 b3) ∧ w'.cell? ⟨g, o + 4, none⟩ = some (.int .i64 d1) ∧ w'.cell? ⟨g, o + 4 + 1, none⟩ = some (.int .i64 d2)) (exact HK.out _ (by (repeat' (first | (with_reducible first | exact Below.refl _ _ | assumption | refine Below.alloc ?_ ?_ _ | refine below_drewN ?_ _ | refine below_drew ?_ | refine below_ext ?_ ?_ _ _ | refine Below.setCell ?_ ?_ _) | (simp; done) | (simp; omega) | omega)))) (first
        | (go_at_call 56; ((with_reducible refine (HJ.out _).mono ?_); rintro e w1 ⟨rfl, hb1⟩; obtain ⟨osA, dA, rfl⟩ := ext_of_below hb1; clear hb1)))
      all_goals
        go_wp2_with fail
        go_meet
        exact ⟨_, rfl, by (first | (simp; done) | (simp; omega) | omega), by (first | (simp; done) | (simp; omega)), by simp [go_sem], by simp [go_sem], Lib.hid (by (repeat' (first | (with_reducible first | exact Below.refl _ _ | assumption | refine Below.alloc ?_ ?_ _ | refine below_drewN ?_ _ | refine below_drew ?_ | refine below_ext ?_ ?_ _ _ | refine Below.setCell ?_ ?_ _) | (simp; done) | (simp; omega) | omega))), by (first | (simp; done) | (simp; omega)), by simp [go_sem], by simp [go_sem], by simp [go_sem], by simp [go_sem]⟩
    case rest =>
      obtain ⟨jb, rfl, hjr, hjl, j0, j1, hbx, hrl, r0, r1, f0, f1⟩ := hcut
      have hwr : w.heap.size ≤ rb := by omega
      have HSS := Lib.hid (show ∀ (W : World) u v, W.cell? ⟨rb, 0, none⟩ = some (.int .i64 0) → W.cell? ⟨rb, 1, none⟩ = some (.int .i64 0) → ((W.setCell ⟨rb, 0, none⟩ u).setCell ⟨rb, 1, none⟩ v).cell? ⟨rb, 0, none⟩ = some u ∧ ((W.setCell ⟨rb, 0, none⟩ u).setCell ⟨rb, 1, none⟩ v).cell? ⟨rb, 1, none⟩ = some v from fun W u v x0 x1 => by
        refine ⟨?_, World.cell?_setCell_same _ _ _ ((World.cell?_setCell_other _ _ _ _ (by intro e2; injection e2 with _ e3; exact absurd e3 (by decide))).trans x1)⟩
        rw [World.cell?_setCell_other _ _ _ _ (by intro e2; injection e2 with _ e3; exact absurd e3 (by decide))]
        exact World.cell?_setCell_same _ _ _ x0)
      have HRB := Lib.hid (show ∀ w', Below wc.heap.size wc w' → w.heap.size ≤ w'.heap.size ∧ w'.cell? ⟨rb, 0, none⟩ = some (.int .i64 0) ∧ w'.cell? ⟨rb, 1, none⟩ = some (.int .i64 0) ∧ w'.frozen? ⟨rb, 0, none⟩ = false ∧ w'.frozen? ⟨rb, 1, none⟩ = false from fun w' hb => ⟨Nat.le_trans hbx.out.size hb.size, (hb.cell (p := ⟨rb, _, none⟩) hrl).trans r0, (hb.cell (p := ⟨rb, _, none⟩) hrl).trans r1, (hb.frozen (p := ⟨rb, _, none⟩) hrl).trans f0, (hb.frozen (p := ⟨rb, _, none⟩) hrl).trans f1⟩)
      clear hrb
      have hsx := hbx.out.size
      have HKJ := Lib.hid (show ∀ w', Below wc.heap.size wc w' → w'.cell? ⟨jb, 0, none⟩ = some (.int .i64 jk) ∧ w'.cell? ⟨jb, 1, none⟩ = some (.int .i64 jo) ∧ w'.cell? ⟨g, o, none⟩ = some (.int .i64 a1) ∧ w'.cell? ⟨g, o + 1, none⟩ = some (.int .i64 a2) ∧ w'.cell? ⟨0, 0, none⟩ = some (.int .i64 1) ∧ w'.cell? ⟨0, 1, none⟩ = some (.int .i64 0) from fun w' hb => ⟨(hb.cell (p := ⟨jb, _, none⟩) hjl).trans j0, (hb.cell (p := ⟨jb, _, none⟩) hjl).trans j1, HK2.out w' (hbx.out.trans (hb.mono hsx))⟩)
      have HKS := Lib.hid (show ∀ w' u v, Below wc.heap.size wc w' → ((w'.setCell ⟨rb, 0, none⟩ u).setCell ⟨rb, 1, none⟩ v).cell? ⟨jb, 0, none⟩ = some (.int .i64 jk) ∧ ((w'.setCell ⟨rb, 0, none⟩ u).setCell ⟨rb, 1, none⟩ v).cell? ⟨jb, 1, none⟩ = some (.int .i64 jo) ∧ ((w'.setCell ⟨rb, 0, none⟩ u).setCell ⟨rb, 1, none⟩ v).cell? ⟨g, o, none⟩ = some (.int .i64 a1) ∧ ((w'.setCell ⟨rb, 0, none⟩ u).setCell ⟨rb, 1, none⟩ v).cell? ⟨g, o + 1, none⟩ = some (.int .i64 a2) ∧ ((w'.setCell ⟨rb, 0, none⟩ u).setCell ⟨rb, 1, none⟩ v).cell? ⟨0, 0, none⟩ = some (.int .i64 1) ∧ ((w'.setCell ⟨rb, 0, none⟩ u).setCell ⟨rb, 1, none⟩ v).cell? ⟨0, 1, none⟩ = some (.int .i64 0) from fun w' u v hb => by
        have key : ∀ q j : Nat, ¬ q = rb → ((w'.setCell ⟨rb, 0, none⟩ u).setCell ⟨rb, 1, none⟩ v).cell? ⟨q, j, none⟩ = w'.cell? ⟨q, j, none⟩ := fun q j hq => by
          rw [World.cell?_setCell_other _ _ _ _ (by intro e; injection e with e1; exact hq e1.symm), World.cell?_setCell_other _ _ _ _ (by intro e; injection e with e1; exact hq e1.symm)]
        obtain ⟨x0, x1, x2, x3, x4, x5⟩ := HKJ.out w' hb
        exact ⟨(key _ _ (by omega)).trans x0, (key _ _ (by omega)).trans x1, (key _ _ (by omega)).trans x2, (key _ _ (by omega)).trans x3, (key _ _ (by omega)).trans x4, (key _ _ (by omega)).trans x5⟩)
      have hbl : 0 < w.heap.size := hbW
      have HC2 := Lib.hid (fun w' (hb : Below wc.heap.size wc w') => HC.out w' (hbx.out.trans (hb.mono hsx)))
      cases mt with
      | false =>
        go_upto_region 11 with fail
        refine wp_region_held_drew (S := fun w' => w'.cell? ⟨jb, 0, none⟩ = some (.int .i64 jk) ∧ w'.cell? ⟨jb, 1, none⟩ = some (.int .i64 jo) ∧ w'.cell? ⟨g, o, none⟩ = some (.int .i64 a1) ∧ w'.cell? ⟨g, o + 1, none⟩ = some (.int .i64 a2) ∧ w'.cell? ⟨0, 0, none⟩ = some (.int .i64 1) ∧ w'.cell? ⟨0, 1, none⟩ = some (.int .i64 0)) (by kernel_rfl) ?r11ahSa (fun hHeld => ?r11aresta)
        case r11ahSa => ((try dsimp only); exact HKJ.out _ (by (repeat' (first | (with_reducible first | exact Below.refl _ _ | assumption | refine Below.alloc ?_ ?_ _ | refine below_drewN ?_ _ | refine below_drew ?_ | refine below_ext ?_ ?_ _ _ | refine Below.setCell ?_ ?_ _) | (simp; done) | (simp; omega) | omega))))
        refine wpAnyH_take (i := 0) (oi := ({ dst := some 57, op := Op.load 26 (Operand.tmp 10), type := 26, pos := "types.go:22", after := #[], guard := none } : Oper)) (v := ?r11av1) rfl (by kernel_rfl) (by kernel_rfl) (by kernel_rfl) (fun _ _ _ h => h) (Or.inl ⟨by rfl, ?r11ahy1⟩) (by assumption) ?r11are1
        case r11ahy1 => (intro w hSw; (try dsimp only at hSw); go_simp; try with_reducible rfl)
        (try simp only [Act.put, List.setIfInBounds_toArray, List.set_cons_zero, List.set_cons_succ])
        refine wpAnyH_take (i := 1) (oi := ({ dst := some 58, op := Op.move (Operand.tmp 2), type := 63, pos := "types.go:22", after := #[], guard := none } : Oper)) (v := ?r11av2) rfl (by kernel_rfl) (by kernel_rfl) (by kernel_rfl) (fun _ _ _ h => h) (Or.inl ⟨by rfl, ?r11ahy2⟩) (by assumption) ?r11are2
        case r11ahy2 => (intro w hSw; (try dsimp only at hSw); go_simp; try with_reducible rfl)
        (try simp only [Act.put, List.setIfInBounds_toArray, List.set_cons_zero, List.set_cons_succ])
        refine wpAnyH_take (i := 2) (oi := ({ dst := some 59, op := Op.indexAddr 63 (Operand.tmp 58) (Operand.const (Value.int IntKind.i64 0)), type := 0, pos := "types.go:22", after := #[{ on := 1, ground := Ground.data }], guard := none } : Oper)) (v := ?r11av3) rfl (by kernel_rfl) (by kernel_rfl) (by kernel_rfl) (fun _ _ _ h => h) (Or.inl ⟨by rfl, ?r11ahy3⟩) (by assumption) ?r11are3
        case r11ahy3 => (intro w hSw; (try dsimp only at hSw); go_simp; try with_reducible rfl)
        (try simp only [Act.put, List.setIfInBounds_toArray, List.set_cons_zero, List.set_cons_succ])
        refine wpAnyH_take (i := 3) (oi := ({ dst := some 60, op := Op.load 26 (Operand.tmp 59), type := 26, pos := "types.go:22", after := #[{ on := 2, ground := Ground.data }], guard := none } : Oper)) (v := ?r11av4) rfl (by kernel_rfl) (by kernel_rfl) (by kernel_rfl) (fun _ _ _ h => h) (Or.inl ⟨by rfl, ?r11ahy4⟩) (by assumption) ?r11are4
        case r11ahy4 => (intro w hSw; (try dsimp only at hSw); go_simp; try with_reducible rfl)
        (try simp only [Act.put, List.setIfInBounds_toArray, List.set_cons_zero, List.set_cons_succ])
        refine wpAnyH_take (i := 4) (oi := ({ dst := some 61, op := Op.load 26 (Operand.global 0), type := 26, pos := "types.go:22", after := #[], guard := none } : Oper)) (v := ?r11av5) rfl (by kernel_rfl) (by kernel_rfl) (by kernel_rfl) (fun _ _ _ h => h) (Or.inl ⟨by rfl, ?r11ahy5⟩) (by assumption) ?r11are5
        case r11ahy5 => (intro w hSw; (try dsimp only at hSw); go_simp; try with_reducible rfl)
        (try simp only [Act.put, List.setIfInBounds_toArray, List.set_cons_zero, List.set_cons_succ])
        refine wpAnyH_ready (rs := [5]) (by kernel_rfl) (by simp) ?_
        refine AllReadyH.cons (o := ({ dst := some 62, op := Op.call { callee := Callee.value (Operand.func 57), args := #[Operand.tmp 60, Operand.tmp 61], argTypes := #[26, 26] }, type := 4, pos := "types.go:22", after := #[{ on := 3, ground := Ground.data }, { on := 4, ground := Ground.data }], guard := none } : Oper)) rfl (fun K hK => ?_) AllReadyH.nil
        go_simp
        (go_at_call 57; (with_reducible refine (HC2.out _ (by (repeat' (first | (with_reducible first | exact Below.refl _ _ | assumption | refine Below.alloc ?_ ?_ _ | refine below_drewN ?_ _ | refine below_drew ?_ | refine below_ext ?_ ?_ _ _ | refine Below.setCell ?_ ?_ _) | (simp; done) | (simp; omega) | omega)))).mono ?_); rintro e9 w1 ⟨rfl, hb1⟩; have HW1 := Lib.hid ((show Below wc.heap.size wc _ by (repeat' (first | (with_reducible first | exact Below.refl _ _ | assumption | refine Below.alloc ?_ ?_ _ | refine below_drewN ?_ _ | refine below_drew ?_ | refine below_ext ?_ ?_ _ _ | refine Below.setCell ?_ ?_ _) | (simp; done) | (simp; omega) | omega))).trans (hb1.mono (by first | exact Nat.le_refl _ | (simp; done)))); obtain ⟨hs1, x0, x1, y0, y1⟩ := HRB.out _ HW1.out; clear hb1)
        refine hK.out _ _ ?r11ahS6 (fun hHeldN => ?r11arst6)
        case r11ahS6 => ((try dsimp only); exact HKJ.out _ HW1.out)
        clear hHeld hK K
        have hHeld := hHeldN
        clear hHeldN
        refine wpAnyH_ready (rs := [6]) (by kernel_rfl) (by simp) ?_
        refine AllReadyH.cons (o := ({ dst := some 63, op := Op.call { callee := Callee.value (Operand.func 53), args := #[Operand.tmp 62, Operand.const (Value.int IntKind.i64 9)], argTypes := #[4, 27] }, type := 27, pos := "types.go:22", after := #[{ on := 5, ground := Ground.data }, { on := 5, ground := Ground.chain }], guard := none } : Oper)) rfl (fun K hK => ?_) AllReadyH.nil
        go_simp
        (first | (go_at_call 53; ((with_reducible refine (HEt.out _ _).mono ?_); rintro e w' ⟨rfl, rfl⟩)) | (go_at_call 53; ((with_reducible refine (HEf.out _ _).mono ?_); rintro e w' ⟨rfl, rfl⟩)))
        refine hK.out _ _ ?r11ahS7 (fun hHeldN => ?r11arst7)
        case r11ahS7 => ((try dsimp only); exact HKJ.out _ HW1.out)
        clear hHeld hK K
        have hHeld := hHeldN
        clear hHeldN
        refine wpAnyH_ready (rs := [7]) (by kernel_rfl) (by simp) ?_
        refine AllReadyH.cons (o := ({ dst := none, op := Op.store 26 (Operand.tmp 6) (Operand.tmp 57), type := 0, pos := "types.go:22", after := #[{ on := 0, ground := Ground.data }, { on := 6, ground := Ground.chain }, { on := 0, ground := Ground.phase }, { on := 1, ground := Ground.textOnly Departure.lateStores }, { on := 2, ground := Ground.textOnly Departure.lateStores }, { on := 3, ground := Ground.textOnly Departure.lateStores }, { on := 4, ground := Ground.textOnly Departure.lateStores }, { on := 5, ground := Ground.textOnly Departure.lateStoresUnsure }, { on := 6, ground := Ground.textOnly Departure.lateStoresUnsure }], guard := none } : Oper)) rfl (fun K hK => ?_) AllReadyH.nil
        go_simp
        refine hK.out _ _ ?r11ahS8 (fun hHeldN => ?r11arst8)
        case r11ahS8 => ((try dsimp only); exact HKS.out _ _ _ HW1.out)
        clear hHeld hK K
        have hHeld := hHeldN
        clear hHeldN
        refine wpAnyH_ready (rs := [8]) (by kernel_rfl) (by simp) ?_
        refine AllReadyH.cons (o := ({ dst := some 7, op := Op.assign (Operand.tmp 63), type := 27, pos := "types.go:22", after := #[{ on := 6, ground := Ground.data }, { on := 7, ground := Ground.chain }, { on := 0, ground := Ground.phase }, { on := 1, ground := Ground.phase }, { on := 2, ground := Ground.phase }, { on := 3, ground := Ground.phase }, { on := 4, ground := Ground.phase }, { on := 5, ground := Ground.phase }, { on := 6, ground := Ground.phase }, { on := 7, ground := Ground.phase }], guard := none } : Oper)) rfl (fun K hK => ?_) AllReadyH.nil
        go_simp
        refine hK.out _ _ ?r11ahS9 (fun hHeldN => ?r11arst9)
        case r11ahS9 => ((try dsimp only); exact HKS.out _ _ _ HW1.out)
        clear hHeld hK K
        have hHeld := hHeldN
        clear hHeldN
        (try simp only [Act.put, List.setIfInBounds_toArray, List.set_cons_zero, List.set_cons_succ])
        refine wpAnyH_done (by kernel_rfl) ?_ _
        clear hHeld
        go_wp2
        obtain ⟨s0, s1⟩ := HSS.out _ (.int .i64 jk) (.int .i64 jo) x0 x1
        refine bodyPost_ret (by simp [results, Tryz.results30, go_sem, s0, s1]; try rfl) rfl ?_
        exact ⟨rfl, (hbx.out.trans (HW1.out.mono hsx)).trans (by (repeat' (first | (with_reducible first | exact Below.refl _ _ | assumption | refine Below.alloc ?_ ?_ _ | refine below_drewN ?_ _ | refine below_drew ?_ | refine below_ext ?_ ?_ _ _ | refine Below.setCell ?_ ?_ _) | (simp; done) | (simp; omega) | omega)))⟩
      | true =>
        go_upto_region 11 with fail
        refine wp_region_held_drew (S := fun w' => w'.cell? ⟨jb, 0, none⟩ = some (.int .i64 jk) ∧ w'.cell? ⟨jb, 1, none⟩ = some (.int .i64 jo) ∧ w'.cell? ⟨g, o, none⟩ = some (.int .i64 a1) ∧ w'.cell? ⟨g, o + 1, none⟩ = some (.int .i64 a2) ∧ w'.cell? ⟨0, 0, none⟩ = some (.int .i64 1) ∧ w'.cell? ⟨0, 1, none⟩ = some (.int .i64 0)) (by kernel_rfl) ?r11bhSa (fun hHeld => ?r11bresta)
        case r11bhSa => ((try dsimp only); exact HKJ.out _ (by (repeat' (first | (with_reducible first | exact Below.refl _ _ | assumption | refine Below.alloc ?_ ?_ _ | refine below_drewN ?_ _ | refine below_drew ?_ | refine below_ext ?_ ?_ _ _ | refine Below.setCell ?_ ?_ _) | (simp; done) | (simp; omega) | omega))))
        refine wpAnyH_take (i := 0) (oi := ({ dst := some 57, op := Op.load 26 (Operand.tmp 10), type := 26, pos := "types.go:22", after := #[], guard := none } : Oper)) (v := ?r11bv1) rfl (by kernel_rfl) (by kernel_rfl) (by kernel_rfl) (fun _ _ _ h => h) (Or.inl ⟨by rfl, ?r11bhy1⟩) (by assumption) ?r11bre1
        case r11bhy1 => (intro w hSw; (try dsimp only at hSw); go_simp; try with_reducible rfl)
        (try simp only [Act.put, List.setIfInBounds_toArray, List.set_cons_zero, List.set_cons_succ])
        refine wpAnyH_take (i := 1) (oi := ({ dst := some 58, op := Op.move (Operand.tmp 2), type := 63, pos := "types.go:22", after := #[], guard := none } : Oper)) (v := ?r11bv2) rfl (by kernel_rfl) (by kernel_rfl) (by kernel_rfl) (fun _ _ _ h => h) (Or.inl ⟨by rfl, ?r11bhy2⟩) (by assumption) ?r11bre2
        case r11bhy2 => (intro w hSw; (try dsimp only at hSw); go_simp; try with_reducible rfl)
        (try simp only [Act.put, List.setIfInBounds_toArray, List.set_cons_zero, List.set_cons_succ])
        refine wpAnyH_take (i := 2) (oi := ({ dst := some 59, op := Op.indexAddr 63 (Operand.tmp 58) (Operand.const (Value.int IntKind.i64 0)), type := 0, pos := "types.go:22", after := #[{ on := 1, ground := Ground.data }], guard := none } : Oper)) (v := ?r11bv3) rfl (by kernel_rfl) (by kernel_rfl) (by kernel_rfl) (fun _ _ _ h => h) (Or.inl ⟨by rfl, ?r11bhy3⟩) (by assumption) ?r11bre3
        case r11bhy3 => (intro w hSw; (try dsimp only at hSw); go_simp; try with_reducible rfl)
        (try simp only [Act.put, List.setIfInBounds_toArray, List.set_cons_zero, List.set_cons_succ])
        refine wpAnyH_take (i := 3) (oi := ({ dst := some 60, op := Op.load 26 (Operand.tmp 59), type := 26, pos := "types.go:22", after := #[{ on := 2, ground := Ground.data }], guard := none } : Oper)) (v := ?r11bv4) rfl (by kernel_rfl) (by kernel_rfl) (by kernel_rfl) (fun _ _ _ h => h) (Or.inl ⟨by rfl, ?r11bhy4⟩) (by assumption) ?r11bre4
        case r11bhy4 => (intro w hSw; (try dsimp only at hSw); go_simp; try with_reducible rfl)
        (try simp only [Act.put, List.setIfInBounds_toArray, List.set_cons_zero, List.set_cons_succ])
        refine wpAnyH_take (i := 4) (oi := ({ dst := some 61, op := Op.load 26 (Operand.global 0), type := 26, pos := "types.go:22", after := #[], guard := none } : Oper)) (v := ?r11bv5) rfl (by kernel_rfl) (by kernel_rfl) (by kernel_rfl) (fun _ _ _ h => h) (Or.inl ⟨by rfl, ?r11bhy5⟩) (by assumption) ?r11bre5
        case r11bhy5 => (intro w hSw; (try dsimp only at hSw); go_simp; try with_reducible rfl)
        (try simp only [Act.put, List.setIfInBounds_toArray, List.set_cons_zero, List.set_cons_succ])
        refine wpAnyH_ready (rs := [5]) (by kernel_rfl) (by simp) ?_
        refine AllReadyH.cons (o := ({ dst := some 62, op := Op.call { callee := Callee.value (Operand.func 57), args := #[Operand.tmp 60, Operand.tmp 61], argTypes := #[26, 26] }, type := 4, pos := "types.go:22", after := #[{ on := 3, ground := Ground.data }, { on := 4, ground := Ground.data }], guard := none } : Oper)) rfl (fun K hK => ?_) AllReadyH.nil
        go_simp
        (go_at_call 57; (with_reducible refine (HC2.out _ (by (repeat' (first | (with_reducible first | exact Below.refl _ _ | assumption | refine Below.alloc ?_ ?_ _ | refine below_drewN ?_ _ | refine below_drew ?_ | refine below_ext ?_ ?_ _ _ | refine Below.setCell ?_ ?_ _) | (simp; done) | (simp; omega) | omega)))).mono ?_); rintro e9 w1 ⟨rfl, hb1⟩; have HW1 := Lib.hid ((show Below wc.heap.size wc _ by (repeat' (first | (with_reducible first | exact Below.refl _ _ | assumption | refine Below.alloc ?_ ?_ _ | refine below_drewN ?_ _ | refine below_drew ?_ | refine below_ext ?_ ?_ _ _ | refine Below.setCell ?_ ?_ _) | (simp; done) | (simp; omega) | omega))).trans (hb1.mono (by first | exact Nat.le_refl _ | (simp; done)))); obtain ⟨hs1, x0, x1, y0, y1⟩ := HRB.out _ HW1.out; clear hb1)
        refine hK.out _ _ ?r11bhS6 (fun hHeldN => ?r11brst6)
        case r11bhS6 => ((try dsimp only); exact HKJ.out _ HW1.out)
        clear hHeld hK K
        have hHeld := hHeldN
        clear hHeldN
        refine wpAnyH_ready (rs := [6]) (by kernel_rfl) (by simp) ?_
        refine AllReadyH.cons (o := ({ dst := some 63, op := Op.call { callee := Callee.value (Operand.func 53), args := #[Operand.tmp 62, Operand.const (Value.int IntKind.i64 9)], argTypes := #[4, 27] }, type := 27, pos := "types.go:22", after := #[{ on := 5, ground := Ground.data }, { on := 5, ground := Ground.chain }], guard := none } : Oper)) rfl (fun K hK => ?_) AllReadyH.nil
        go_simp
        (first | (go_at_call 53; ((with_reducible refine (HEt.out _ _).mono ?_); rintro e w' ⟨rfl, rfl⟩)) | (go_at_call 53; ((with_reducible refine (HEf.out _ _).mono ?_); rintro e w' ⟨rfl, rfl⟩)))
        refine hK.out _ _ ?r11bhS7 (fun hHeldN => ?r11brst7)
        case r11bhS7 => ((try dsimp only); exact HKJ.out _ HW1.out)
        clear hHeld hK K
        have hHeld := hHeldN
        clear hHeldN
        refine wpAnyH_ready (rs := [7]) (by kernel_rfl) (by simp) ?_
        refine AllReadyH.cons (o := ({ dst := none, op := Op.store 26 (Operand.tmp 6) (Operand.tmp 57), type := 0, pos := "types.go:22", after := #[{ on := 0, ground := Ground.data }, { on := 6, ground := Ground.chain }, { on := 0, ground := Ground.phase }, { on := 1, ground := Ground.textOnly Departure.lateStores }, { on := 2, ground := Ground.textOnly Departure.lateStores }, { on := 3, ground := Ground.textOnly Departure.lateStores }, { on := 4, ground := Ground.textOnly Departure.lateStores }, { on := 5, ground := Ground.textOnly Departure.lateStoresUnsure }, { on := 6, ground := Ground.textOnly Departure.lateStoresUnsure }], guard := none } : Oper)) rfl (fun K hK => ?_) AllReadyH.nil
        go_simp
        refine hK.out _ _ ?r11bhS8 (fun hHeldN => ?r11brst8)
        case r11bhS8 => ((try dsimp only); exact HKS.out _ _ _ HW1.out)
        clear hHeld hK K
        have hHeld := hHeldN
        clear hHeldN
        refine wpAnyH_ready (rs := [8]) (by kernel_rfl) (by simp) ?_
        refine AllReadyH.cons (o := ({ dst := some 7, op := Op.assign (Operand.tmp 63), type := 27, pos := "types.go:22", after := #[{ on := 6, ground := Ground.data }, { on := 7, ground := Ground.chain }, { on := 0, ground := Ground.phase }, { on := 1, ground := Ground.phase }, { on := 2, ground := Ground.phase }, { on := 3, ground := Ground.phase }, { on := 4, ground := Ground.phase }, { on := 5, ground := Ground.phase }, { on := 6, ground := Ground.phase }, { on := 7, ground := Ground.phase }], guard := none } : Oper)) rfl (fun K hK => ?_) AllReadyH.nil
        go_simp
        refine hK.out _ _ ?r11bhS9 (fun hHeldN => ?r11brst9)
        case r11bhS9 => ((try dsimp only); exact HKS.out _ _ _ HW1.out)
        clear hHeld hK K
        have hHeld := hHeldN
        clear hHeldN
        (try simp only [Act.put, List.setIfInBounds_toArray, List.set_cons_zero, List.set_cons_succ])
        refine wpAnyH_done (by kernel_rfl) ?_ _
        clear hHeld
        go_wp2
        obtain ⟨s0, s1⟩ := HSS.out _ (.int .i64 jk) (.int .i64 jo) x0 x1
        refine bodyPost_ret (by simp [results, Tryz.results30, go_sem, s0, s1]; try rfl) rfl ?_
        exact ⟨rfl, (hbx.out.trans (HW1.out.mono hsx)).trans (by (repeat' (first | (with_reducible first | exact Below.refl _ _ | assumption | refine Below.alloc ?_ ?_ _ | refine below_drewN ?_ _ | refine below_drew ?_ | refine below_ext ?_ ?_ _ _ | refine Below.setCell ?_ ?_ _) | (simp; done) | (simp; omega) | omega)))⟩
  by_cases h5 : op = 26
  · subst h5
    have hr : tyM sy ⟨26, k, t, neg, c, s, day⟩ ts = (lstM ts, 0) := by unfold tyM; rw [if_neg h1, if_neg h2, if_neg h3, if_neg h4, if_pos rfl]
    rw [hr]
    have HC := Lib.hid (show ∀ w', Below w.heap.size w w' → Calls Tryz.prog 58 #[v] w' fun en w'' => en = .returned (.agg #[.int .i64 (lstM ts).1, .int .i64 (lstM ts).2]) ∧ Below w'.heap.size w' w'' from fun w' hb => listOf_any ts n w' v (hv.keep (hb.mono hn)) (Nat.le_trans hn hb.size) hl (hG.below hb))
    generalize lstM ts = q at HC ⊢
    obtain ⟨q1, q2⟩ := q
    simp only at HC
    obtain ⟨p, c2, rfl, -⟩ := hv
    generalize ts.length = len at HC ⊢
    clear hr hm hk hte hha hla hG hf hl h1 h2 h3 h4
    go_enter Tryz.func30, Tryz.ntmps30
    go_wp2_with (first
      | (go_at_call 58; ((with_reducible refine (HC.out _ (by (repeat' (first | (with_reducible first | exact Below.refl _ _ | assumption | refine Below.alloc ?_ ?_ _ | refine below_drewN ?_ _ | refine below_drew ?_ | refine below_ext ?_ ?_ _ _ | refine Below.setCell ?_ ?_ _) | (simp; done) | (simp; omega) | omega)))).mono ?_); rintro e w1 ⟨rfl, hb1⟩; obtain ⟨osA, dA, rfl⟩ := ext_of_below hb1; clear hb1)))
    go_returns
    exact ⟨rfl, by (repeat' (first | (with_reducible first | exact Below.refl _ _ | assumption | refine Below.alloc ?_ ?_ _ | refine below_drewN ?_ _ | refine below_drew ?_ | refine below_ext ?_ ?_ _ _ | refine Below.setCell ?_ ?_ _) | (simp; done) | (simp; omega) | omega))⟩
  have hr : tyM sy ⟨op, k, t, neg, c, s, day⟩ ts = (simT op, if simB op ts = true then 0 else 9) := by unfold tyM; rw [if_neg h1, if_neg h2, if_neg h3, if_neg h4, if_neg h5]
  rw [hr]
  have HT := Lib.hid (show ∀ w', Below w.heap.size w w' → Calls Tryz.prog 59 #[.int .i64 op] w' fun en w'' => en = .returned (.agg #[.int .i64 (simT op).1, .int .i64 (simT op).2]) ∧ Below w'.heap.size w' w'' from fun w' hb => simpleType_any op w' (hG.below hb))
  have HS := Lib.hid (fun w' (hb : Below w.heap.size w w') => simple_any op ts n w' v (hv.keep (hb.mono hn)) (Nat.le_trans hn hb.size) hl hk (hG.below hb))
  generalize simT op = q at HT ⊢
  generalize simB op ts = sb at HS ⊢
  obtain ⟨q1, q2⟩ := q
  simp only at HT
  obtain ⟨p, c2, rfl, -⟩ := hv
  generalize ts.length = len at HS ⊢
  have q7 : (op == 7) = false := beq_eq_false_iff_ne.2 h1
  have q25 : (op == 25) = false := beq_eq_false_iff_ne.2 h2
  have q9 : (op == 9) = false := beq_eq_false_iff_ne.2 h3
  have q21 : (op == 21) = false := beq_eq_false_iff_ne.2 h4
  have q26 : (op == 26) = false := beq_eq_false_iff_ne.2 h5
  clear hr hm hk hte hha hla hG hf hl h1 h2 h3 h4 h5
  cases sb
  all_goals
    go_enter Tryz.func30, Tryz.ntmps30
    go_upto_region 14 with fail
    go_region_held3 (fun w' => w'.cell? ⟨w.heap.size, 0, none⟩ = some (.int .i64 op)) (simp [go_sem]) (first
      | (go_at_call 59; ((with_reducible refine (HT.out _ (by (repeat' (first | (with_reducible first | exact Below.refl _ _ | assumption | refine Below.alloc ?_ ?_ _ | refine below_drewN ?_ _ | refine below_drew ?_ | refine below_ext ?_ ?_ _ _ | refine Below.setCell ?_ ?_ _) | (simp; done) | (simp; omega) | omega)))).mono ?_); rintro e w1 ⟨rfl, hb1⟩; obtain ⟨osA, dA, rfl⟩ := ext_of_below hb1; clear hb1))
      | (go_at_call 60; ((with_reducible refine (HS.out _ (by (repeat' (first | (with_reducible first | exact Below.refl _ _ | assumption | refine Below.alloc ?_ ?_ _ | refine below_drewN ?_ _ | refine below_drew ?_ | refine below_ext ?_ ?_ _ _ | refine Below.setCell ?_ ?_ _) | (simp; done) | (simp; omega) | omega)))).mono ?_); rintro e w1 ⟨rfl, hb1⟩; obtain ⟨osB, dB, rfl⟩ := ext_of_below hb1; clear hb1))
      | (go_at_call 53; ((with_reducible refine (HEt.out _ _).mono ?_); rintro e w' ⟨rfl, rfl⟩))
      | (go_at_call 53; ((with_reducible refine (HEf.out _ _).mono ?_); rintro e w' ⟨rfl, rfl⟩)))
    all_goals
      go_wp2
      go_returns
      exact ⟨rfl, by (repeat' (first | (with_reducible first | exact Below.refl _ _ | assumption | refine Below.alloc ?_ ?_ _ | refine below_drewN ?_ _ | refine below_drew ?_ | refine below_ext ?_ ?_ _ _ | refine Below.setCell ?_ ?_ _) | (simp; done) | (simp; omega) | omega))⟩
end Go.Proofs.YtalahkincccffaaGreatDoor
