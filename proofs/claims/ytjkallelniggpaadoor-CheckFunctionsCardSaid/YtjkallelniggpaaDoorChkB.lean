/-
  typesOf, asksOf; the type of a number, of a text; of their sum (none), of a list of two numbers.
-/
import Derived.Test.YtjkallelniggpaaDoorChkA
import Derived.Test.YtjkallelniggpaaDoorNodP
namespace Go.Proofs.YtjkallelniggpaaDoor
open Go.RowKit
attribute [local go_sem] setCell_drewN cell?_ext frozen?_ext shape?_ext setCell_ext lt_1' ne_1' en_1' le_1' lt_2' ne_2' en_2' le_2' lt_3' ne_3' en_3' le_3' lt_4' ne_4' en_4' le_4' lt_5' ne_5' en_5' le_5' lt_6' ne_6' en_6' le_6' lt_7' ne_7' en_7' le_7' lt_8' ne_8' en_8' le_8' lt_9' ne_9' en_9' le_9' lt_10' ne_10' en_10' le_10' lt_11' ne_11' en_11' le_11' lt_12' ne_12' en_12' le_12'

def tpK : El := { T := 25, S := 23, size := 2, bytes := 16, zero := .agg #[.int .i64 0, .int .i64 0] }
theorem tpK_ok : tpK.Ok Tryd.prog := ⟨Tryd.underlying23, by kernel_rfl, by rfl, by decide, by decide, by decide⟩
theorem tpE_cells : Cells tpK tpE := fun s => ⟨rfl, fun u hu => by
  unfold tpE at hu
  simp at hu
  rcases hu with rfl | rfl <;> rfl⟩
/-- an item that asks nothing: its own type -/
def itcE (a : Ty) : List Value := [.int .i64 a.1, .int .i64 a.2, .slice none 0 0]
set_option maxRecDepth 100000 in
theorem typesOf_any (ts : List Ty) (n : Nat) (w : World) (v : Value) (hv : RL 3 itcE n w v ts) (hn : n ≤ w.heap.size) (hl : ts.length ≤ 1000) :
    Calls Tryd.prog 49 #[v] w fun e w' => ∃ pv, e = .returned pv ∧ RL 2 tpE w'.heap.size w' pv ts ∧ Below w.heap.size w w' := by
  obtain ⟨p, c, rfl, h2⟩ := hv
  have H2 := Lib.hid h2
  have HD0 := Lib.hid (OL.nil tpK tpE w.heap.size w)
  obtain ⟨len, hlen⟩ : ∃ len, len = ts.length := ⟨_, rfl⟩
  have HL := Lib.hid hlen
  rw [← hlen] at hl ⊢
  clear h2 hlen
  go_enter Tryd.func49, Tryd.ntmps49
  go_wp2
  go_loopw [3, 8] (fun x z wr => ∃ k : Nat, z = .int .i64 k ∧ k ≤ len ∧ Hid (Below w.heap.size w wr) ∧ Hid (OL tpK tpE w.heap.size wr x (ts.take k))) (fun _ z _ => len - (intOf z).toNat)
  case atStart => exact ⟨0, rfl, Nat.zero_le _, Lib.hid (Below.refl _ _), HD0⟩
  case round =>
    obtain ⟨k, rfl, hk, hbe, hol⟩ := hrel
    clear HD0
    have hsw := hbe.out.size
    obtain ⟨q, cp, hvs, hq, hcp⟩ := OL.form hol.out
    have htl : (ts.take k).length = k := by rw [List.length_take, ← HL.out]; omega
    rw [htl] at hvs
    obtain rfl : u3 = .slice q k cp := hvs
    have HOWN := Lib.hid (show ∀ k2, (Value.slice q k cp).ownBlock = some k2 → w.heap.size ≤ k2 from fun k2 h2 => (World.ownsRow.lt hol.out k2 h2).1)
    by_cases hkl : k < len
    · have hki : (k : Int) < (len : Int) := by omega
      have hk2 : k < ts.length := by rw [← HL.out]; exact hkl
      obtain ⟨g, o, rfl, hg, hc⟩ := H2.out (by omega)
      obtain ⟨x, y, hxy⟩ : ∃ x y, ts[k] = (x, y) := ⟨_, _, rfl⟩
      have hgr : g < wr.heap.size := by omega
      have c0 : wr.cell? ⟨g, o + k * 3, none⟩ = some (.int .i64 x) := by
        rw [hbe.out.cell (p := ⟨g, _, none⟩) (Nat.lt_of_lt_of_le hg hn)]
        exact hc k hk2 0 _ (by rw [hxy]; rfl)
      have c1 : wr.cell? ⟨g, o + k * 3 + 1, none⟩ = some (.int .i64 y) := by
        rw [hbe.out.cell (p := ⟨g, _, none⟩) (Nat.lt_of_lt_of_le hg hn)]
        exact hc k hk2 1 _ (by rw [hxy]; rfl)
      have c2 : wr.cell? ⟨g, o + k * 3 + 2, none⟩ = some (.slice none 0 0) := by
        rw [hbe.out.cell (p := ⟨g, _, none⟩) (Nat.lt_of_lt_of_le hg hn)]
        exact hc k hk2 2 _ (by rw [hxy]; rfl)
      have HTK := Lib.hid (show ts.take (k + 1) = ts.take k ++ [(x, y)] by rw [List.take_add_one, List.getElem?_eq_getElem hk2, hxy]; rfl)
      have HOL := Lib.hid (fun w' (hb : Below wr.heap.size wr w') => OL.new hol.out hb)
      have HBR := Lib.hid hbe.out
      have hlk : (ts.take k).length ≤ 1000000 := by rw [htl]; omega
      have HTL := Lib.hid htl
      generalize ts.take k = t1 at HTK HOL hlk HTL
      clear hc hol hbe htl hxy hk2
      go_wp2_with (first
        | (at_builtin; refine wpList_append_ol tpK_ok tpE_cells rfl _ _ rfl rfl _ (x, y) rfl (HOL.out _ (by (repeat' (first | (with_reducible exact Below.refl _ _) | (with_reducible assumption) | (with_reducible refine Below.alloc ?_ ?_ _) | (with_reducible refine below_drewN ?_ _) | (with_reducible refine below_drew ?_) | (with_reducible refine below_ext ?_ ?_ _ _) | (with_reducible refine Below.setCell ?_ ?_ _) | (simp; done) | (simp; omega) | omega)))) (by simp [Act.eval]) hlk (by (repeat' (first | (with_reducible exact Below.refl _ _) | (with_reducible assumption) | (with_reducible refine Below.alloc ?_ ?_ _) | (with_reducible refine below_drewN ?_ _) | (with_reducible refine below_drew ?_) | (with_reducible refine below_ext ?_ ?_ _ _) | (with_reducible refine Below.setCell ?_ ?_ _) | (simp; done) | (simp; omega) | omega))) ?_; intro g2 cap2 w2 hob3 hoth hat hg2 hsz2; rw [HTL.out] at hob3; have HO2 := Lib.hid (HTK.out ▸ hob3); have HB2 := Lib.hid ((HBR.out.trans (show Below w.heap.size wr _ by (repeat' (first | (with_reducible exact Below.refl _ _) | (with_reducible assumption) | (with_reducible refine Below.alloc ?_ ?_ _) | (with_reducible refine below_drewN ?_ _) | (with_reducible refine below_drew ?_) | (with_reducible refine below_ext ?_ ?_ _ _) | (with_reducible refine Below.setCell ?_ ?_ _) | (simp; done) | (simp; omega) | omega)))).trans (hoth.below (by first | omega | (simp; omega)) (fun k hk => HOWN.out k hk))); clear hob3 hoth hat hg2 hsz2))
      have hL1 := HTL.out
      go_roundw
      case rel => exact ⟨k + 1, by go_num, by omega, HB2, (by first | exact HO2 | (rw [hL1]; exact HO2))⟩
      case measure => simp [intOf]; omega
    · obtain rfl : k = len := by omega
      have hki : ¬ (k : Int) < k := by omega
      have htk : ts.take k = ts := List.take_of_length_le (by rw [← HL.out]; exact Nat.le_refl _)
      have HO := Lib.hid (show OL tpK tpE w.heap.size wr (.slice q k cp) ts by rw [← htk]; exact hol.out)
      go_wp2
      go_ret
      refine ⟨_, rfl, ⟨q, cp, by rw [← HL.out]; rfl, fun h0 => ?_⟩, hbe.out⟩
      obtain ⟨g, rfl, -, hg⟩ := hq (by rw [htl, HL.out]; exact h0)
      exact ⟨g, 0, rfl, hg, fun j hj i u hu => by
        have := OL.cell tpE_cells HO.out j i hj hu
        rwa [show j * tpK.size + i = 0 + j * 2 + i by show j * 2 + i = _; omega] at this⟩
set_option maxRecDepth 100000 in
theorem asksOf_none (op : Int) (h : op < 30 ∨ 37 < op) (ts : List Ty) (n : Nat) (w : World) (v : Value) (hv : RL 3 itcE n w v ts) (hn : n ≤ w.heap.size) (hl : ts.length ≤ 1000) :
    Calls Tryd.prog 51 #[.int .i64 op, v] w fun e w' => e = .returned (.slice none 0 0) ∧ Below w.heap.size w w' := by
  obtain ⟨p, c, rfl, h2⟩ := hv
  have H2 := Lib.hid h2
  obtain ⟨len, hlen⟩ : ∃ len, len = ts.length := ⟨_, rfl⟩
  have HL := Lib.hid hlen
  rw [← hlen] at hl ⊢
  have q30 : (op == 30) = false := beq_eq_false_iff_ne.2 (by omega)
  have q31 : (op == 31) = false := beq_eq_false_iff_ne.2 (by omega)
  have q32 : (op == 32) = false := beq_eq_false_iff_ne.2 (by omega)
  have q33 : (op == 33) = false := beq_eq_false_iff_ne.2 (by omega)
  have q34 : (op == 34) = false := beq_eq_false_iff_ne.2 (by omega)
  have q35 : (op == 35) = false := beq_eq_false_iff_ne.2 (by omega)
  have q36 : (op == 36) = false := beq_eq_false_iff_ne.2 (by omega)
  have q37 : (op == 37) = false := beq_eq_false_iff_ne.2 (by omega)
  clear h2 hlen h
  go_enter Tryd.func51, Tryd.ntmps51
  go_wp2
  go_loopw [5, 10] (fun x z wr => ∃ k : Nat, x = .slice none 0 0 ∧ z = .int .i64 k ∧ k ≤ len ∧ Hid (Below w.heap.size w wr)) (fun _ z _ => len - (intOf z).toNat)
  case atStart => exact ⟨0, rfl, rfl, Nat.zero_le _, Lib.hid (Below.refl _ _)⟩
  case round =>
    obtain ⟨k, rfl, rfl, hk, hbe⟩ := hrel
    have hsw := hbe.out.size
    by_cases hkl : k < len
    · have hki : (k : Int) < (len : Int) := by omega
      have hk2 : k < ts.length := by rw [← HL.out]; exact hkl
      obtain ⟨g, o, rfl, hg, hc⟩ := H2.out (by omega)
      obtain ⟨x, y, hxy⟩ : ∃ x y, ts[k] = (x, y) := ⟨_, _, rfl⟩
      have hgr : g < wr.heap.size := by omega
      have c0 : wr.cell? ⟨g, o + k * 3, none⟩ = some (.int .i64 x) := by
        rw [hbe.out.cell (p := ⟨g, _, none⟩) (Nat.lt_of_lt_of_le hg hn)]
        exact hc k hk2 0 _ (by rw [hxy]; rfl)
      have c1 : wr.cell? ⟨g, o + k * 3 + 1, none⟩ = some (.int .i64 y) := by
        rw [hbe.out.cell (p := ⟨g, _, none⟩) (Nat.lt_of_lt_of_le hg hn)]
        exact hc k hk2 1 _ (by rw [hxy]; rfl)
      have c2 : wr.cell? ⟨g, o + k * 3 + 2, none⟩ = some (.slice none 0 0) := by
        rw [hbe.out.cell (p := ⟨g, _, none⟩) (Nat.lt_of_lt_of_le hg hn)]
        exact hc k hk2 2 _ (by rw [hxy]; rfl)
      have HBR := Lib.hid hbe.out
      clear hc hbe hxy hk2
      go_wp2
      go_roundw
      case rel => exact ⟨k + 1, rfl, by go_num, by omega, Lib.hid (HBR.out.trans (show Below w.heap.size wr _ by (repeat' (first | (with_reducible exact Below.refl _ _) | (with_reducible assumption) | (with_reducible refine Below.alloc ?_ ?_ _) | (with_reducible refine below_drewN ?_ _) | (with_reducible refine below_drew ?_) | (with_reducible refine below_ext ?_ ?_ _ _) | (with_reducible refine Below.setCell ?_ ?_ _) | (simp; done) | (simp; omega) | omega))))⟩
      case measure => simp [intOf]; omega
    · obtain rfl : k = len := by omega
      have hki : ¬ (k : Int) < k := by omega
      go_wp2
      go_ret
      exact ⟨rfl, hbe.out⟩
theorem errorUnless_any (b : Bool) (e : Int) (w : World) : Calls Tryd.prog 69 #[.bool b, .int .i64 e] w fun en w' => en = .returned (.int .i64 (if b then 0 else e)) ∧ w' = w := by
  cases b
  all_goals
    go_enter Tryd.func69, Tryd.ntmps69
    go_wp2
    go_ret
    exact ⟨rfl, rfl⟩
theorem simpleType_num (w : World) (hG : TyG w) : Calls Tryd.prog 75 #[.int .i64 4] w fun en w' => en = .returned (TyV (2, 0)) ∧ Below w.heap.size w w' := by
  have hg := hG.sz
  have g0 := hG.n0
  have g1 := hG.n1
  clear hG
  go_enter Tryd.func75, Tryd.ntmps75
  go_wp2
  go_returns
  exact ⟨rfl, by (repeat' (first | (with_reducible exact Below.refl _ _) | (with_reducible assumption) | (with_reducible refine Below.alloc ?_ ?_ _) | (with_reducible refine below_drewN ?_ _) | (with_reducible refine below_drew ?_) | (with_reducible refine below_ext ?_ ?_ _ _) | (with_reducible refine Below.setCell ?_ ?_ _) | (simp; done) | (simp; omega) | omega))⟩
theorem simpleType_text (w : World) (hG : TyG w) : Calls Tryd.prog 75 #[.int .i64 5] w fun en w' => en = .returned (TyV (3, 0)) ∧ Below w.heap.size w w' := by
  have hg := hG.sz
  have g0 := hG.t0
  have g1 := hG.t1
  clear hG
  go_enter Tryd.func75, Tryd.ntmps75
  go_wp2
  go_returns
  exact ⟨rfl, by (repeat' (first | (with_reducible exact Below.refl _ _) | (with_reducible assumption) | (with_reducible refine Below.alloc ?_ ?_ _) | (with_reducible refine below_drewN ?_ _) | (with_reducible refine below_drew ?_) | (with_reducible refine below_ext ?_ ?_ _ _) | (with_reducible refine Below.setCell ?_ ?_ _) | (simp; done) | (simp; omega) | omega))⟩
theorem simple_leaf (op : Int) (h : op = 4 ∨ op = 5) (v : Value) (w : World) : Calls Tryd.prog 76 #[.int .i64 op, v] w fun en w' => en = .returned (.bool true) ∧ w' = w := by
  rcases h with rfl | rfl
  all_goals
    go_enter Tryd.func76, Tryd.ntmps76
    go_wp2
    go_ret
    exact ⟨rfl, rfl⟩
end Go.Proofs.YtjkallelniggpaaDoor
