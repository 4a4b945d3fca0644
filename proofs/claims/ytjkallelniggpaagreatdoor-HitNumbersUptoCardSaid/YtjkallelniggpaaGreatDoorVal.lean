/-
  Values as data: a tree; how it lies in memory; how many parts it has, how deep it is, whether it is in form.
-/
import Derived.Test.YtjkallelniggpaaGreatDoorBb
import Derived.Test.YtjkallelniggpaaGreatDoorBa
import Derived.Test.YtjkallelniggpaaGreatDoorDecOne
import Derived.Test.YtjkallelniggpaaGreatDoorNames
import Derived.Test.YtjkallelniggpaaGreatDoorBg
namespace Go.Proofs.YtjkallelniggpaaGreatDoor
open Go.RowKit Word Txt

/-- a value, as data -/
inductive V where
  | mk (k : Int) (yes neg : Bool) (c : Nat) (s : Int) (t : ByteArray) (day : Int) (l : List V) (ns : List ByteArray)
/-- the cells of a value whose slices are given -/
abbrev VC (k : Int) (yes neg : Bool) (c : Nat) (s : Int) (t : ByteArray) (day : Int) (lv nv : Value) : Value :=
  .agg #[.int .i64 k, .bool yes, .bool neg, .int .u64 (hi c : Int), .int .u64 (lo c : Int), .int .i64 s, .string t, .int .i64 day, lv, nv]
/-- names, one behind the other in a block -/
def NamesAt (w : World) (g : Nat) : List ByteArray → Nat → Prop
  | [], _ => True
  | s :: r, o => w.cell? ⟨g, o, none⟩ = some (.string s) ∧ NamesAt w g r (o + 1)
/-- a slice of names below block n -/
def NSl (n : Nat) (w : World) (ns : List ByteArray) (nv : Value) : Prop :=
  (ns = [] ∧ ∃ p c, nv = .slice p 0 c) ∨ ∃ g o cap, nv = .slice (some ⟨g, o, none⟩) ns.length cap ∧ g < n ∧ g < w.heap.size ∧ NamesAt w g ns o
mutual
/-- a value as it lies in memory, below block n -/
def V.At (n : Nat) (w : World) : V → Value → Prop
  | .mk k yes neg c s t day l ns, x => ∃ lv nv, x = VC k yes neg c s t day lv nv ∧ (c < top2 ∧ t.size ≤ 1048576 ∧ l.length ≤ 1048576 ∧ ns.length ≤ 1048576) ∧
      ((l = [] ∧ ∃ p c, lv = .slice p 0 c) ∨ ∃ g o cap, lv = .slice (some ⟨g, o, none⟩) l.length cap ∧ g < n ∧ g < w.heap.size ∧ RowAt n w g l o) ∧ NSl n w ns nv ∧ ∀ x ∈ ns, x.size ≤ 1048576
/-- values, one behind the other in a block -/
def RowAt (n : Nat) (w : World) (g : Nat) : List V → Nat → Prop
  | [], _ => True
  | v :: r, o => (∃ x0 x1 x2 x3 x4 x5 x6 x7 x8 x9 : Value, w.cell? ⟨g, o, none⟩ = some x0 ∧ w.cell? ⟨g, o + 1, none⟩ = some x1 ∧ w.cell? ⟨g, o + 2, none⟩ = some x2 ∧ w.cell? ⟨g, o + 3, none⟩ = some x3 ∧ w.cell? ⟨g, o + 4, none⟩ = some x4 ∧
      w.cell? ⟨g, o + 5, none⟩ = some x5 ∧ w.cell? ⟨g, o + 6, none⟩ = some x6 ∧ w.cell? ⟨g, o + 7, none⟩ = some x7 ∧ w.cell? ⟨g, o + 8, none⟩ = some x8 ∧ w.cell? ⟨g, o + 9, none⟩ = some x9 ∧ v.At n w (.agg #[x0, x1, x2, x3, x4, x5, x6, x7, x8, x9])) ∧ RowAt n w g r (o + 10)
end
/-- a slice of values below block n -/
def VSl (n : Nat) (w : World) (l : List V) (lv : Value) : Prop :=
  (l = [] ∧ ∃ p c, lv = .slice p 0 c) ∨ ∃ g o cap, lv = .slice (some ⟨g, o, none⟩) l.length cap ∧ g < n ∧ g < w.heap.size ∧ RowAt n w g l o
mutual
def V.count : V → Nat
  | .mk _ _ _ _ _ _ _ l _ => countL l + 1
def countL : List V → Nat
  | [] => 0
  | v :: r => v.count + countL r
end
mutual
def V.depth : V → Nat
  | .mk _ _ _ _ _ _ _ l _ => depthL l + 1
def depthL : List V → Nat
  | [] => 0
  | v :: r => max v.depth (depthL r)
end
/-- the fields that a kind doesn't use are zero -/
def bareB (k : Int) (yes neg : Bool) (c : Nat) (s : Int) (t : ByteArray) (day : Int) (nl nn : Nat) : Bool :=
  (k == 1 || !yes) && ((k == 2 || (!neg && (decide (c = 0) && decide (s = 0)))) && ((k == 3 || decide (t.size = 0)) && ((k == 4 || decide (day = 0)) && ((decide (5 ≤ k) || decide (nl = 0)) && (k == 6 || decide (nn = 0))))))
open Classical in
/-- the fields that a kind uses are allowed -/
noncomputable def soundB (k : Int) (neg : Bool) (c : Nat) (s : Int) (t : ByteArray) (day : Int) (nl : Nat) (ns : List ByteArray) : Bool :=
  if k = 2 then formB neg c s else if k = 3 then isText t && decide (t.size ≤ 1000) else if k = 4 then decide (1 ≤ day) && decide (day ≤ 3652059)
  else if k = 6 then decide (ns.length = nl) && (ns.all (fun x => decide (IsName x)) && decide ns.Nodup) else decide (0 ≤ k) && decide (k ≤ 6)
mutual
noncomputable def V.form : V → Bool
  | .mk k yes neg c s t day l ns => bareB k yes neg c s t day l.length ns.length && (soundB k neg c s t day l.length ns && formL l)
noncomputable def formL : List V → Bool
  | [] => true
  | v :: r => v.form && formL r
end
/-- the code that Check answers -/
noncomputable def V.code (v : V) : Int := if 1000 < v.count then 6 else if 16 < v.depth then 7 else if v.form = true then 0 else 2

theorem NamesAt.below {n : Nat} {w w' : World} (hb : Below n w w') {g : Nat} (hg : g < n) : ∀ {ns : List ByteArray} {o : Nat}, NamesAt w g ns o → NamesAt w' g ns o
  | [], _, _ => trivial
  | _ :: _, _, h => ⟨(hb.cell (p := ⟨g, _, none⟩) hg).trans h.1, NamesAt.below hb hg h.2⟩
theorem NSl.below {n : Nat} {w w' : World} (hb : Below n w w') {ns : List ByteArray} {nv : Value} (h : NSl n w ns nv) : NSl n w' ns nv := by
  rcases h with h | ⟨g, o, cap, e, h1, h2, h3⟩
  · exact .inl h
  · exact .inr ⟨g, o, cap, e, h1, Nat.lt_of_lt_of_le h2 hb.size, h3.below hb h1⟩
mutual
theorem V.At.below {n : Nat} {w w' : World} (hb : Below n w w') : ∀ {v : V} {x : Value}, v.At n w x → v.At n w' x
  | .mk k yes neg c s t day l ns, x, h => by
    unfold V.At at h ⊢
    obtain ⟨lv, nv, e, b, hl, hn, hs⟩ := h
    refine ⟨lv, nv, e, b, ?_, hn.below hb, hs⟩
    rcases hl with h | ⟨g, o, cap, e, h1, h2, h3⟩
    · exact .inl h
    · exact .inr ⟨g, o, cap, e, h1, Nat.lt_of_lt_of_le h2 hb.size, RowAt.below hb h1 h3⟩
theorem RowAt.below {n : Nat} {w w' : World} (hb : Below n w w') {g : Nat} (hg : g < n) : ∀ {l : List V} {o : Nat}, RowAt n w g l o → RowAt n w' g l o
  | [], _, _ => by unfold RowAt; trivial
  | v :: r, o, h => by
    unfold RowAt at h ⊢
    obtain ⟨⟨x0, x1, x2, x3, x4, x5, x6, x7, x8, x9, h0, h1, h2, h3, h4, h5, h6, h7, h8, h9, ha⟩, hr⟩ := h
    have hc := fun j => hb.cell (p := ⟨g, j, none⟩) hg
    exact ⟨⟨x0, x1, x2, x3, x4, x5, x6, x7, x8, x9, (hc _).trans h0, (hc _).trans h1, (hc _).trans h2, (hc _).trans h3, (hc _).trans h4, (hc _).trans h5, (hc _).trans h6, (hc _).trans h7, (hc _).trans h8, (hc _).trans h9, V.At.below hb ha⟩, RowAt.below hb hg hr⟩
end
theorem VSl.below {n : Nat} {w w' : World} (hb : Below n w w') {l : List V} {lv : Value} (h : VSl n w l lv) : VSl n w' l lv := by
  rcases h with h | ⟨g, o, cap, e, h1, h2, h3⟩
  · exact .inl h
  · exact .inr ⟨g, o, cap, e, h1, Nat.lt_of_lt_of_le h2 hb.size, h3.below hb h1⟩
/-- the i-th of a row -/
theorem RowAt.get {n : Nat} {w : World} {g : Nat} : ∀ {l : List V} {o : Nat} (_ : RowAt n w g l o) (i : Nat) (hi : i < l.length), ∃ x0 x1 x2 x3 x4 x5 x6 x7 x8 x9 : Value, w.cell? ⟨g, o + i * 10, none⟩ = some x0 ∧ w.cell? ⟨g, o + i * 10 + 1, none⟩ = some x1 ∧
      w.cell? ⟨g, o + i * 10 + 2, none⟩ = some x2 ∧ w.cell? ⟨g, o + i * 10 + 3, none⟩ = some x3 ∧ w.cell? ⟨g, o + i * 10 + 4, none⟩ = some x4 ∧ w.cell? ⟨g, o + i * 10 + 5, none⟩ = some x5 ∧ w.cell? ⟨g, o + i * 10 + 6, none⟩ = some x6 ∧
      w.cell? ⟨g, o + i * 10 + 7, none⟩ = some x7 ∧ w.cell? ⟨g, o + i * 10 + 8, none⟩ = some x8 ∧ w.cell? ⟨g, o + i * 10 + 9, none⟩ = some x9 ∧ l[i].At n w (.agg #[x0, x1, x2, x3, x4, x5, x6, x7, x8, x9])
  | v :: r, o, h, 0, _ => by
    unfold RowAt at h
    have := h.1
    rw [show o + 0 * 10 = o by omega]
    exact this
  | v :: r, o, h, i + 1, hi => by
    unfold RowAt at h
    have := RowAt.get h.2 i (by simpa using hi)
    rw [show o + (i + 1) * 10 = o + 10 + i * 10 by omega]
    exact this
theorem NamesAt.get {w : World} {g : Nat} : ∀ {ns : List ByteArray} {o : Nat} (_ : NamesAt w g ns o) (i : Nat) (hi : i < ns.length), w.cell? ⟨g, o + i, none⟩ = some (.string ns[i])
  | _ :: _, o, h, 0, _ => h.1
  | _ :: _, o, h, i + 1, hi => by
    have := NamesAt.get h.2 i (by simpa using hi)
    rw [show o + (i + 1) = o + 1 + i by omega]
    exact this
theorem count_pos : ∀ v : V, 0 < v.count
  | .mk .. => by unfold V.count; omega
end Go.Proofs.YtjkallelniggpaaGreatDoor
