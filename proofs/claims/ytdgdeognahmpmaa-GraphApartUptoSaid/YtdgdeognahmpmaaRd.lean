/-
  Slices of ints that are read, and rows of a call's own that are written.
-/
import Derived.Test.YtdgdeognahmpmaaBits
import Derived.Test.YtdgdeognahmpmaaDig
import Derived.Below
import Derived.OwnWalk
import Derived.Lib.BufSteps
namespace Go.Proofs.Ytdgdeognahmpmaa
open Go.RowKit Num

/-- the slice v reads, in w, as these numbers; its block, if it has one, is so -/
def RdP (P : Nat → Prop) (w : World) (v : Value) (l : List Nat) : Prop :=
  (v = .slice none 0 0 ∧ l = []) ∨ ∃ g off cap, v = .slice (some ⟨g, off, none⟩) l.length cap ∧ l.length ≤ cap ∧ g < w.heap.size ∧ P g ∧ ∀ j (hj : j < l.length), w.cell? ⟨g, off + j, none⟩ = some (.int .i64 (l[j] : Int))
abbrev Rd (w : World) (v : Value) (l : List Nat) : Prop := RdP (fun _ => True) w v l
section
variable {P : Nat → Prop} {w w' : World} {v : Value} {l : List Nat}
theorem RdP.nil (w : World) : RdP P w (.slice none 0 0) [] := .inl ⟨rfl, rfl⟩
theorem RdP.weak {Q : Nat → Prop} (h : RdP P w v l) (hq : ∀ g, g < w.heap.size → P g → Q g) : RdP Q w v l := by
  rcases h with h | ⟨g, off, cap, hv, hc, hg, hp, hx⟩
  · exact .inl h
  · exact .inr ⟨g, off, cap, hv, hc, hg, hq g hg hp, hx⟩
theorem RdP.rd (h : RdP P w v l) : Rd w v l := h.weak fun _ _ _ => trivial
theorem RdP.old (h : RdP P w v l) : RdP (fun g => g < w.heap.size) w v l := h.weak fun _ hg _ => hg
theorem RdP.later (h : RdP P w v l) (hb : Below w.heap.size w w') : RdP P w' v l := by
  rcases h with h | ⟨g, off, cap, hv, hc, hg, hp, hx⟩
  · exact .inl h
  · refine .inr ⟨g, off, cap, hv, hc, Nat.lt_of_lt_of_le hg hb.size, hp, fun j hj => ?_⟩
    rw [← hx j hj]
    exact (bcell hb).1 g (off + j) hg
theorem RdP.drew (h : RdP P w v l) : RdP P w.drew v l := h
/-- a store into another block -/
theorem RdP.store (h : RdP P w v l) (b k : Nat) (x : Value) (hne : ∀ g, P g → g ≠ b) : RdP P (w.setCell ⟨b, k, none⟩ x) v l := by
  rcases h with h | ⟨g, off, cap, hv, hc, hg, hp, hx⟩
  · exact .inl h
  · refine .inr ⟨g, off, cap, hv, hc, by rw [World.size_setCell]; exact hg, hp, fun j hj => ?_⟩
    rw [World.cell?_setCell_other w _ _ _ (by intro e2; injection e2 with e3; exact hne g hp e3.symm), hx j hj]
theorem RdP.form (h : RdP P w v l) : ∃ p cap, v = .slice p l.length cap ∧ l.length ≤ cap := by
  rcases h with ⟨rfl, rfl⟩ | ⟨g, off, cap, hv, hc, -, -⟩
  · exact ⟨none, 0, rfl, Nat.le_refl _⟩
  · exact ⟨_, cap, hv, hc⟩
/-- a slice of some length has its cells -/
theorem RdP.cells {p : Option Addr} {n cap : Nat} (h : RdP P w (.slice p n cap) l) (hl : 0 < l.length) : n = l.length ∧ ∃ g off, p = some ⟨g, off, none⟩ ∧ g < w.heap.size ∧ ∀ j (hj : j < l.length), w.cell? ⟨g, off + j, none⟩ = some (.int .i64 (l[j] : Int)) := by
  rcases h with ⟨_, rfl⟩ | ⟨g, off, cap', hv, hc, hg, hp, hx⟩
  · cases hl
  · injection hv with h1 h2 h3
    exact ⟨h2, g, off, h1, hg, hx⟩
theorem RdP.take {p : Option Addr} {n cap : Nat} (h : RdP P w (.slice p n cap) l) (m : Nat) (hm : m ≤ l.length) : RdP P w (.slice p m cap) (l.take m) := by
  rcases h with ⟨hv, rfl⟩ | ⟨g, off, cap', hv, hc, hg, hp, hx⟩
  · injection hv with h1 h2 h3
    obtain rfl : m = 0 := by simpa using hm
    exact .inl ⟨by rw [h1, h3], rfl⟩
  · injection hv with h1 h2 h3
    subst h1 h3
    refine .inr ⟨g, off, cap, by rw [List.length_take, Nat.min_eq_left hm], by rw [List.length_take]; omega, hg, hp, fun j hj => ?_⟩
    rw [List.length_take] at hj
    rw [hx j (by omega), List.getElem_take]
end
theorem infoInt : (Try.prog.info? 3).map (fun i => (i.zero, i.size, i.bytes)) = some (some (.int .i64 0), 1, 8) := by kernel_rfl
/-- the slice v holds these numbers in a row of the call's own -/
def intCellsN (l : List Nat) : List Value := l.map fun (n : Nat) => Value.int .i64 (n : Int)
theorem intCellsN_snoc (l : List Nat) (n : Nat) : intCellsN l ++ [.int .i64 (n : Int)] = intCellsN (l ++ [n]) := by simp [intCellsN]
abbrev IBuf (B : Nat) (v : Value) (l : List Nat) (W0 w : World) : Prop := Lib.OwnBuf B 3 v l.length (intCellsN l) W0 w
theorem IBuf.nil (W0 : World) {w : World} (hb : Below W0.heap.size W0 w) : IBuf W0.heap.size (.slice none 0 0) [] W0 w :=
  ⟨World.ownsRowF_of (World.ownsRow_nil _ _ _ _), hb, hb.size⟩
theorem IBuf.congr {B : Nat} {v : Value} {m : List Nat} {W0 w : World} {n : Nat} {xs : List Value} (h : Lib.OwnBuf B 3 v n xs W0 w) (hn : n = m.length) (hx : xs = intCellsN m) : IBuf B v m W0 w := by
  subst hn hx; exact h
theorem IBuf.later {B : Nat} {v : Value} {l : List Nat} {W0 w w' : World} (h : IBuf B v l W0 w) (hb : Below w.heap.size w w') : IBuf B v l W0 w' := by
  have hg : w.grownBy w' none := ⟨hb.os, hb.tape, hb.output, hb.size, fun k hk _ => hb.block k hk⟩
  refine ⟨h.1.kept hg ?_, h.2.1.grown hg h.2.2 (fun k e => by cases e), Nat.le_trans h.2.2 hb.size⟩
  cases v.ownBlock with
  | none => exact .inl rfl
  | some k => exact .inr (by simp)
theorem IBuf.rd {B : Nat} {v : Value} {l : List Nat} {W0 w : World} (h : IBuf B v l W0 w) : RdP (fun g => B ≤ g) w v l := by
  have h0 := h.1
  obtain ⟨hl, hv⟩ := h0
  rcases hv with ⟨rfl, h0⟩ | ⟨g, cap, cur, fz, rfl, hh⟩
  · exact .inl ⟨rfl, List.eq_nil_of_length_eq_zero h0⟩
  · have hcell := h.1.cells (g := g) rfl
    have hlt := (h.1.lt g rfl).2
    refine .inr ⟨g, 0, cap, rfl, ?_, hlt, (h.1.lt g rfl).1, fun j hj => ?_⟩
    · obtain ⟨-, -, -, hcap, -⟩ := hh
      exact hcap
    · have e := hcell j _ (show (intCellsN l)[j]? = some (.int .i64 (l[j] : Int)) by simp [intCellsN, hj])
      rw [← e]
      by_cases h0 : j = 0
      · subst h0; rfl
      · simp [Addr.add, h0]
theorem append_int {ops : Array Oper} {rest : List Oper} {o : Oper} {a : Act} {Q : Exit → Act → World → Prop} (hgd : o.guard = none) (s x : Operand)
    (ho : o.op = .call { callee := .builtin .append, args := #[s, x], argTypes := #[24, 24] })
    {B : Nat} {v : Value} {l : List Nat} (hs : a.eval s = v) (W0 w0 : World) (c : Nat) {z : Int} (hz : z = (c : Int)) (hb : IBuf B v l W0 w0)
    (hx : a.eval x = .slice (some ⟨w0.heap.size, 0, none⟩) 1 1) (hlen : (l.length + 1) * 8 ≤ 140737488355328)
    (h : ∀ v' w', IBuf B v' (l ++ [c]) W0 w' → wpList Try.prog ops Q rest (a.put o.dst v') w') : wpList Try.prog ops Q (o :: rest) a (w0.alloc (.cells #[.int .i64 z] 3)) := by
  subst hz
  obtain ⟨i0, hi, hz0, hz1, hz2⟩ := info_parts infoInt
  have hb' := hb.alloc (.cells #[.int .i64 (c : Int)] 3)
  refine wpList_append_ownF _ hgd s x 24 ho B 3 i0 (.int .i64 0) 1 8 Try.underlying24 hi hz0 hz1 hz2 rfl (by decide) v l.length (intCellsN l) hs hb'.1 ⟨w0.heap.size, 0, none⟩ 1 1 [.int .i64 (c : Int)] hx rfl ?_ ?_ (by unfold maxLen; omega) hlen hb'.2.2 ?_
  · intro j u hj
    match j, hj with
    | 0, hj => simp at hj; subst hj; simp [Addr.add]
    | (j + 1), hj => simp at hj
  · intro u hu; simp at hu; subst hu; rfl
  · intro v' w' ho' hg _
    exact h v' w' (IBuf.congr (hb'.grown ho' hg) (by rw [List.length_append]; rfl) (intCellsN_snoc l c))
/-- a row of the call's own holds these numbers, and may be written -/
structure IRow (W0 w : World) (g n : Nat) (f : Nat → Int) : Prop where
  own : W0.heap.size ≤ g
  lt : g < w.heap.size
  below : Below W0.heap.size W0 w
  cell : ∀ j, j < n → w.cell? ⟨g, j, none⟩ = some (.int .i64 (f j))
  free : ∀ j, j < n → w.frozen? ⟨g, j, none⟩ = false
theorem IRow.store {W0 w : World} {g n : Nat} {f : Nat → Int} (h : IRow W0 w g n f) (k : Nat) (v : Int) (hk : k < n) : IRow W0 (w.setCell ⟨g, k, none⟩ (.int .i64 v)) g n (upd f k v) := by
  refine ⟨h.own, by rw [World.size_setCell]; exact h.lt, h.below.setCell (p := ⟨g, k, none⟩) h.own _, fun j hj => ?_, fun j hj => by rw [World.frozen?_setCell]; exact h.free j hj⟩
  by_cases e : j = k
  · subst e
    rw [World.cell?_setCell_same w _ _ (h.cell j hj)]
    simp [upd]
  · rw [World.cell?_setCell_other w _ _ _ (by intro e2; injection e2 with _ e3 _; exact e e3.symm), h.cell j hj]
    simp [upd, e]
theorem IRow.congr {W0 w : World} {g n : Nat} {f f' : Nat → Int} (h : IRow W0 w g n f) (he : ∀ j, j < n → f j = f' j) : IRow W0 w g n f' :=
  ⟨h.own, h.lt, h.below, fun j hj => by rw [h.cell j hj, he j hj], h.free⟩
theorem IRow.later {W0 w w' : World} {g n : Nat} {f : Nat → Int} (h : IRow W0 w g n f) (hb : Below w.heap.size w w') : IRow W0 w' g n f :=
  ⟨h.own, Nat.lt_of_lt_of_le h.lt hb.size, h.below.trans ⟨hb.os, hb.tape, hb.output, hb.size, fun k hk => hb.block k (Nat.lt_of_lt_of_le hk h.below.size)⟩,
    fun j hj => by rw [← h.cell j hj]; exact (bcell hb).1 g j h.lt, fun j hj => by rw [← h.free j hj]; exact (bcell hb).2 g j h.lt⟩
theorem IRow.rd {W0 w : World} {g n cap : Nat} {f : Nat → Int} (h : IRow W0 w g n f) (hc : n ≤ cap) (l : List Nat) (hl : l.length = n) (hf : ∀ j (hj : j < l.length), f j = (l[j] : Int)) : RdP (fun b => b = g) w (.slice (some ⟨g, 0, none⟩) n cap) l := by
  subst hl
  refine .inr ⟨g, 0, cap, rfl, hc, h.lt, rfl, fun j hj => ?_⟩
  rw [Nat.zero_add, h.cell j hj, hf j hj]
end Go.Proofs.Ytdgdeognahmpmaa
