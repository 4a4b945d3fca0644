/-
  The document's truths: Truth, Is, all, Not, And, Or.
  The document's Or; And, Or, Not as calls.
-/
import Derived.Test.YtjkallelniggpaaGreatDoorValP
namespace Go.Proofs.YtjkallelniggpaaGreatDoor
open Go.RowKit Word Txt
attribute [local go_sem] setCell_drewN cell?_ext frozen?_ext shape?_ext setCell_ext lt_1' ne_1' en_1' le_1' lt_2' ne_2' en_2' le_2' lt_3' ne_3' en_3' le_3' lt_4' ne_4' en_4' le_4' lt_5' ne_5' en_5' le_5' lt_6' ne_6' en_6' le_6' lt_7' ne_7' en_7' le_7' lt_8' ne_8' en_8' le_8' lt_9' ne_9' en_9' le_9' lt_10' ne_10' en_10' le_10' lt_11' ne_11' en_11' le_11' lt_12' ne_12' en_12' le_12'

/-- a value's truth -/
def V.tri (v : V) : P3 := (v.kind, v.yes)
theorem all3_cons (o p : P3) (r : List P3) : all3 o (p :: r) = if isB p.1 p.2 false = true then (1, false) else if isB p.1 p.2 true = true then all3 o r else all3 (0, false) r := rfl
theorem all3_drop (o : P3) (l : List V) (m : Nat) (h : m < l.length) : all3 o ((l.drop m).map V.tri) = if isB l[m].kind l[m].yes false = true then (1, false) else if isB l[m].kind l[m].yes true = true then all3 o ((l.drop (m + 1)).map V.tri) else all3 (0, false) ((l.drop (m + 1)).map V.tri) := by
  rw [List.drop_eq_getElem_cons h, List.map_cons, all3_cons]; rfl
theorem at_yes {v : V} {n : Nat} {w : World} {k : Int} {y : Bool} {x2 x3 x4 x5 x6 x7 x8 x9 : Value} (h : v.At n w (.agg #[.int .i64 k, .bool y, x2, x3, x4, x5, x6, x7, x8, x9])) : v.yes = y := by
  cases v
  obtain ⟨lv, nv, hx, _⟩ := at_mk h
  simp only [Value.agg.injEq, Array.mk.injEq, List.cons.injEq, and_true, Value.bool.injEq] at hx
  exact hx.2.1.symm
theorem all3_two (p q : P3) : all3 (1, true) [p, q] = and3 p q := by
  rw [← fold_all [p, q] (1, true) (.inl rfl)]
  show and3 (and3 (1, true) p) q = and3 p q
  rw [and3_is (and3 (1, true) p) q, and3_is p q, isB_and_f, isB_and_t]
  cases isB p.1 p.2 false <;> cases isB p.1 p.2 true <;> cases isB q.1 q.2 false <;> cases isB q.1 q.2 true <;> rfl
/-- two values side by side in a block just made -/
theorem two_row {W : World} {T : TypeId} {x0 x1 x2 x3 x4 x5 x6 x7 x8 x9 y0 y1 y2 y3 y4 y5 y6 y7 y8 y9 : Value} {v v' : V} {n : Nat} (h : v.At n (W.alloc (.cells #[x0, x1, x2, x3, x4, x5, x6, x7, x8, x9, y0, y1, y2, y3, y4, y5, y6, y7, y8, y9] T)) (.agg #[x0, x1, x2, x3, x4, x5, x6, x7, x8, x9])) (h' : v'.At n (W.alloc (.cells #[x0, x1, x2, x3, x4, x5, x6, x7, x8, x9, y0, y1, y2, y3, y4, y5, y6, y7, y8, y9] T)) (.agg #[y0, y1, y2, y3, y4, y5, y6, y7, y8, y9])) :
    RowAt n (W.alloc (.cells #[x0, x1, x2, x3, x4, x5, x6, x7, x8, x9, y0, y1, y2, y3, y4, y5, y6, y7, y8, y9] T)) W.heap.size [v, v'] 0 := by
  unfold RowAt
  refine ⟨⟨_, _, _, _, _, _, _, _, _, _, ?_, ?_, ?_, ?_, ?_, ?_, ?_, ?_, ?_, ?_, h⟩, ?_⟩
  all_goals try (simp [go_sem]; done)
  unfold RowAt
  refine ⟨⟨_, _, _, _, _, _, _, _, _, _, ?_, ?_, ?_, ?_, ?_, ?_, ?_, ?_, ?_, ?_, h'⟩, by unfold RowAt; trivial⟩
  all_goals (simp [go_sem]; done)
theorem two_sl {W : World} {T : TypeId} {x0 x1 x2 x3 x4 x5 x6 x7 x8 x9 y0 y1 y2 y3 y4 y5 y6 y7 y8 y9 : Value} {v v' : V} {b c : Nat} (hb : b = W.heap.size) (h : v.At (W.heap.size + 1) (W.alloc (.cells #[x0, x1, x2, x3, x4, x5, x6, x7, x8, x9, y0, y1, y2, y3, y4, y5, y6, y7, y8, y9] T)) (.agg #[x0, x1, x2, x3, x4, x5, x6, x7, x8, x9])) (h' : v'.At (W.heap.size + 1) (W.alloc (.cells #[x0, x1, x2, x3, x4, x5, x6, x7, x8, x9, y0, y1, y2, y3, y4, y5, y6, y7, y8, y9] T)) (.agg #[y0, y1, y2, y3, y4, y5, y6, y7, y8, y9])) :
    VSl (W.alloc (.cells #[x0, x1, x2, x3, x4, x5, x6, x7, x8, x9, y0, y1, y2, y3, y4, y5, y6, y7, y8, y9] T)).heap.size (W.alloc (.cells #[x0, x1, x2, x3, x4, x5, x6, x7, x8, x9, y0, y1, y2, y3, y4, y5, y6, y7, y8, y9] T)) [v, v'] (.slice (some ⟨b, 0, none⟩) 2 c) := by
  subst hb
  have hz : (W.alloc (.cells #[x0, x1, x2, x3, x4, x5, x6, x7, x8, x9, y0, y1, y2, y3, y4, y5, y6, y7, y8, y9] T)).heap.size = W.heap.size + 1 := by simp
  rw [hz]
  exact Or.inr ⟨_, 0, c, rfl, by omega, by rw [hz]; omega, two_row h h'⟩
end Go.Proofs.YtjkallelniggpaaGreatDoor
namespace Go.Proofs.YtjkallelniggpaaGreatDoor
open Go.RowKit Word Txt
attribute [local go_sem] setCell_drewN cell?_ext frozen?_ext shape?_ext setCell_ext lt_1' ne_1' en_1' le_1' lt_2' ne_2' en_2' le_2' lt_3' ne_3' en_3' le_3' lt_4' ne_4' en_4' le_4' lt_5' ne_5' en_5' le_5' lt_6' ne_6' en_6' le_6' lt_7' ne_7' en_7' le_7' lt_8' ne_8' en_8' le_8' lt_9' ne_9' en_9' le_9' lt_10' ne_10' en_10' le_10' lt_11' ne_11' en_11' le_11' lt_12' ne_12' en_12' le_12'

theorem tri_mk (k : Int) (yes neg : Bool) (c : Nat) (s : Int) (t : ByteArray) (day : Int) (l : List V) (ns : List ByteArray) : (V.mk k yes neg c s t day l ns).tri = (k, yes) := rfl
/-- a truth as a value's data -/
def tvV (p : P3) : V := .mk p.1 p.2 false 0 0 ⟨#[]⟩ 0 [] []
theorem tv_at (p : P3) (n : Nat) (w : World) : (tvV p).At n w (TV p.1 p.2) := by
  unfold tvV V.At
  exact ⟨.slice none 0 0, .slice none 0 0, rfl, ⟨by decide, by decide, by simp, by simp⟩, .inl ⟨rfl, none, 0, rfl⟩, .inl ⟨rfl, none, 0, rfl⟩, by simp⟩
theorem tv_tri (p : P3) : (tvV p).tri = p := rfl
theorem tv_count (p : P3) : (tvV p).count = 1 := by unfold tvV V.count countL; rfl
theorem tv_eqb (p : P3) : (tvV p).eqb (tvV p) = true := eqb_refl _
end Go.Proofs.YtjkallelniggpaaGreatDoor
