/-
  The lexer's reader in memory: its six cells, and the list of tokens that it has told.
-/
import Derived.Test.YtonajmngchfjeaaDoorBe
import Derived.Test.YtonajmngchfjeaaDoorBa
import Derived.Test.YtonajmngchfjeaaDoorBb
import Derived.Below
import Derived.OwnWalk
import Derived.Lib.BufSteps
import Derived.Handy
namespace Go.Proofs.YtonajmngchfjeaaDoor
open Go.RowKit Word
open Lx (Tok)

/-- a token's cells -/
def tkC (t : Tok) : List Value := [.int .i64 t.kind, .string ⟨t.text.toArray⟩, .bool t.neg, .int .u64 (hi t.c : Int), .int .u64 (lo t.c : Int), .int .i64 t.s, .int .i64 t.day, .int .i64 (t.at_ : Int)]
def tkCs (ts : List Tok) : List Value := ts.flatMap tkC
theorem tkCs_snoc (ts : List Tok) (t : Tok) : tkCs ts ++ tkC t = tkCs (ts ++ [t]) := by simp [tkCs]
theorem tkCs_len (ts : List Tok) : (tkCs ts).length = ts.length * 8 := by
  induction ts with
  | nil => rfl
  | cons t r ih => rw [tkCs, List.flatMap_cons, List.length_append]; show 8 + (tkCs r).length = _; rw [ih, List.length_cons]; omega
/-- a row of tokens of the call's own -/
def TB (B : Nat) (v : Value) (ts : List Tok) (W0 w : World) : Prop := w.ownsRow B 33 8 v ts.length (tkCs ts) ∧ Below B W0 w ∧ B ≤ w.heap.size
theorem TB.nil (W0 : World) {w : World} (hb : Below W0.heap.size W0 w) : TB W0.heap.size (.slice none 0 0) [] W0 w :=
  ⟨World.ownsRow_nil _ _ _ _, hb, hb.size⟩
theorem TB.later {B : Nat} {v : Value} {ts : List Tok} {W0 w w' : World} (h : TB B v ts W0 w) (hb : Below w.heap.size w w') : TB B v ts W0 w' := by
  have hg : w.grownBy w' none := ⟨hb.os, hb.tape, hb.output, hb.size, fun k hk _ => hb.block k hk⟩
  refine ⟨h.1.kept hg ?_, h.2.1.grown hg h.2.2 (fun k e => by cases e), Nat.le_trans h.2.2 hb.size⟩
  cases v.ownBlock with
  | none => exact .inl rfl
  | some k => exact .inr (by simp)
theorem TB.drew {B : Nat} {v : Value} {ts : List Tok} {W0 w : World} (h : TB B v ts W0 w) (n : Nat) : TB B v ts W0 (w.drewN n) := ⟨h.1, ⟨h.2.1.os, h.2.1.tape, h.2.1.output, h.2.1.size, h.2.1.block⟩, h.2.2⟩
/-- a store into another block of the call's own -/
theorem TB.store {B : Nat} {v : Value} {ts : List Tok} {W0 w : World} (h : TB B v ts W0 w) (p k : Nat) (x : Value) (hp : B ≤ p) (hne : v.ownBlock ≠ some p) : TB B v ts W0 (w.setCell ⟨p, k, none⟩ x) := by
  have hg : w.grownBy (w.setCell ⟨p, k, none⟩ x) (some p) := ⟨rfl, rfl, rfl, by rw [World.size_setCell]; exact Nat.le_refl _, fun j hj hne => by
    have : p ≠ j := fun e => hne (by rw [e])
    simp [World.setCell, Array.getElem?_modify, this]⟩
  refine ⟨h.1.kept hg ?_, h.2.1.grown hg h.2.2 (fun j e => by cases e; exact hp), Nat.le_trans h.2.2 (by rw [World.size_setCell]; exact Nat.le_refl _)⟩
  cases hv : v.ownBlock with
  | none => exact .inl rfl
  | some j => exact .inr (fun e => hne (by rw [hv, e]))
theorem ty_set {w : World} {p : Nat} (h : ∃ cs fz, w.heap[p]? = some (.cells cs 38 fz)) (k : Nat) (v : Value) : ∃ cs fz, (w.setCell ⟨p, k, none⟩ v).heap[p]? = some (.cells cs 38 fz) := by
  obtain ⟨cs, fz, hp⟩ := h
  exact ⟨cs.setIfInBounds k v, fz, by simp [World.setCell, Array.getElem?_modify, hp]⟩
/-- the reader at block p, its cells by f, its tokens -/
structure LxSt (W0 w : World) (p : Nat) (f : Nat → Value) (ts : List Tok) : Prop where
  own : W0.heap.size ≤ p
  lt : p < w.heap.size
  cell : ∀ j, j < 6 → w.cell? ⟨p, j, none⟩ = some (f j)
  free : ∀ j, j < 6 → w.frozen? ⟨p, j, none⟩ = false
  buf : TB W0.heap.size (f 3) ts W0 w
  off : (f 3).ownBlock ≠ some p
  ty : ∃ cs fz, w.heap[p]? = some (.cells cs 38 fz)
theorem LxSt.later {W0 w w' : World} {p : Nat} {f : Nat → Value} {ts : List Tok} (h : LxSt W0 w p f ts) (hb : Below w.heap.size w w') : LxSt W0 w' p f ts :=
  ⟨h.own, Nat.lt_of_lt_of_le h.lt hb.size, fun j hj => by rw [← h.cell j hj]; exact (bcell hb).1 p j h.lt, fun j hj => by rw [← h.free j hj]; exact (bcell hb).2 p j h.lt, h.buf.later hb, h.off, by rw [hb.block p h.lt]; exact h.ty⟩
theorem LxSt.drew {W0 w : World} {p : Nat} {f : Nat → Value} {ts : List Tok} (h : LxSt W0 w p f ts) (n : Nat) : LxSt W0 (w.drewN n) p f ts := ⟨h.own, h.lt, h.cell, h.free, h.buf.drew n, h.off, h.ty⟩
theorem row_ne {B : Nat} {v : Value} {ts : List Tok} {W0 w : World} {p : Nat} (h : TB B v ts W0 w) (ty : ∃ cs fz, w.heap[p]? = some (.cells cs 38 fz)) : v.ownBlock ≠ some p := by
  obtain ⟨-, hv⟩ := h.1
  obtain ⟨cs, fz, hp⟩ := ty
  rcases hv with ⟨rfl, -⟩ | ⟨g, cap, cur, rfl, -, hg, -⟩
  · intro e; cases e
  · intro e
    have e2 : g = p := Option.some.inj e
    subst e2
    rw [hp] at hg
    injection hg with h1
    injection h1 with _ h2 _
    exact absurd h2 (by decide)
/-- the reader's cells -/
def lxf (s : ByteArray) (a b : Nat) (lv : Value) (ov fr : Bool) : Nat → Value
  | 0 => .string s
  | 1 => .int .i64 (a : Int)
  | 2 => .int .i64 (b : Int)
  | 3 => lv
  | 4 => .bool ov
  | _ => .bool fr
abbrev Rdr (W0 w : World) (p : Nat) (s : ByteArray) (a b : Nat) (lv : Value) (ts : List Tok) (ov fr : Bool) : Prop := LxSt W0 w p (lxf s a b lv ov fr) ts
theorem LxSt.store {W0 w : World} {p : Nat} {f g : Nat → Value} {ts : List Tok} (h : LxSt W0 w p f ts) (k : Nat) (v : Value) (hk : k < 6) (h3 : g 3 = f 3) (hg : g k = v) (he : ∀ j, j < 6 → j ≠ k → g j = f j) : LxSt W0 (w.setCell ⟨p, k, none⟩ v) p g ts := by
  refine ⟨h.own, by rw [World.size_setCell]; exact h.lt, fun j hj => ?_, fun j hj => by rw [World.frozen?_setCell]; exact h.free j hj, by rw [h3]; exact h.buf.store p k v h.own h.off, by rw [h3]; exact h.off, ty_set h.ty k v⟩
  by_cases e : j = k
  · subst e
    rw [World.cell?_setCell_same w _ _ (h.cell j hj), hg]
  · rw [World.cell?_setCell_other w _ _ _ (by intro e2; injection e2 with _ e3 _; exact e e3.symm), h.cell j hj, he j hj e]
section
variable {W0 w : World} {p : Nat} {s : ByteArray} {a b : Nat} {lv : Value} {ts : List Tok} {ov fr : Bool}
theorem LxSt.at_ (h : Rdr W0 w p s a b lv ts ov fr) (a' : Nat) {z : Int} (hz : z = (a' : Int)) : Rdr W0 (w.setCell ⟨p, 1, none⟩ (.int .i64 z)) p s a' b lv ts ov fr := by
  subst hz
  refine h.store 1 _ (by decide) rfl rfl fun j hj hne => ?_
  rcases (show j = 0 ∨ j = 1 ∨ j = 2 ∨ j = 3 ∨ j = 4 ∨ j = 5 by omega) with rfl | rfl | rfl | rfl | rfl | rfl <;> first | rfl | exact absurd rfl hne
theorem LxSt.bg (h : Rdr W0 w p s a b lv ts ov fr) (b' : Nat) {z : Int} (hz : z = (b' : Int)) : Rdr W0 (w.setCell ⟨p, 2, none⟩ (.int .i64 z)) p s a b' lv ts ov fr := by
  subst hz
  refine h.store 2 _ (by decide) rfl rfl fun j hj hne => ?_
  rcases (show j = 0 ∨ j = 1 ∨ j = 2 ∨ j = 3 ∨ j = 4 ∨ j = 5 by omega) with rfl | rfl | rfl | rfl | rfl | rfl <;> first | rfl | exact absurd rfl hne
theorem LxSt.over (h : Rdr W0 w p s a b lv ts ov fr) (ov' : Bool) : Rdr W0 (w.setCell ⟨p, 4, none⟩ (.bool ov')) p s a b lv ts ov' fr := by
  refine h.store 4 _ (by decide) rfl rfl fun j hj hne => ?_
  rcases (show j = 0 ∨ j = 1 ∨ j = 2 ∨ j = 3 ∨ j = 4 ∨ j = 5 by omega) with rfl | rfl | rfl | rfl | rfl | rfl <;> first | rfl | exact absurd rfl hne
theorem LxSt.far (h : Rdr W0 w p s a b lv ts ov fr) (fr' : Bool) : Rdr W0 (w.setCell ⟨p, 5, none⟩ (.bool fr')) p s a b lv ts ov fr' := by
  refine h.store 5 _ (by decide) rfl rfl fun j hj hne => ?_
  rcases (show j = 0 ∨ j = 1 ∨ j = 2 ∨ j = 3 ∨ j = 4 ∨ j = 5 by omega) with rfl | rfl | rfl | rfl | rfl | rfl <;> first | rfl | exact absurd rfl hne
theorem LxSt.c0 (h : Rdr W0 w p s a b lv ts ov fr) : w.cell? ⟨p, 0, none⟩ = some (.string s) := h.cell 0 (by decide)
theorem LxSt.c1 (h : Rdr W0 w p s a b lv ts ov fr) : w.cell? ⟨p, 1, none⟩ = some (.int .i64 (a : Int)) := h.cell 1 (by decide)
theorem LxSt.c2 (h : Rdr W0 w p s a b lv ts ov fr) : w.cell? ⟨p, 2, none⟩ = some (.int .i64 (b : Int)) := h.cell 2 (by decide)
theorem LxSt.c3 (h : Rdr W0 w p s a b lv ts ov fr) : w.cell? ⟨p, 3, none⟩ = some lv := h.cell 3 (by decide)
theorem LxSt.c4 (h : Rdr W0 w p s a b lv ts ov fr) : w.cell? ⟨p, 4, none⟩ = some (.bool ov) := h.cell 4 (by decide)
theorem LxSt.c5 (h : Rdr W0 w p s a b lv ts ov fr) : w.cell? ⟨p, 5, none⟩ = some (.bool fr) := h.cell 5 (by decide)
end
end Go.Proofs.YtonajmngchfjeaaDoor
