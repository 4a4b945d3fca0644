/-
  A row of the call's own, of whatever values; a row of lists of the call's own, each of them appended to.
-/
import Derived.Test.YtkfkdlneafeglaaDoorOl
namespace Go.Proofs.YtkfkdlneafeglaaDoor
open Go.RowKit

/-- a row of the call's own -/
structure Vr (w : World) (g n : Nat) (f : Nat → Value) : Prop where
  lt : g < w.heap.size
  cell : ∀ j, j < n → w.cell? ⟨g, j, none⟩ = some (f j)
  free : ∀ j, w.frozen? ⟨g, j, none⟩ = false
def upd (f : Nat → Value) (k : Nat) (v : Value) : Nat → Value := fun j => if j = k then v else f j
theorem Vr.store {w : World} {g n : Nat} {f : Nat → Value} (h : Vr w g n f) (k : Nat) (v : Value) (hk : k < n) : Vr (w.setCell ⟨g, k, none⟩ v) g n (upd f k v) := by
  refine ⟨by rw [World.size_setCell]; exact h.lt, fun j hj => ?_, fun j => by rw [World.frozen?_setCell]; exact h.free j⟩
  by_cases e : j = k
  · subst e
    rw [World.cell?_setCell_same w _ _ (h.cell j hj)]
    simp [upd]
  · rw [World.cell?_setCell_other w _ _ _ (by intro e2; injection e2 with _ e3 _; exact e e3.symm), h.cell j hj]
    simp [upd, e]
theorem Vr.congr {w : World} {g n : Nat} {f f' : Nat → Value} (h : Vr w g n f) (he : ∀ j, j < n → f j = f' j) : Vr w g n f' :=
  ⟨h.lt, fun j hj => by rw [h.cell j hj, he j hj], h.free⟩
theorem Vr.kept {w w' : World} {g n : Nat} {f : Nat → Value} {S : Nat → Prop} (h : Vr w g n f) (ho : Ot S w w') (hg : ¬ S g) : Vr w' g n f :=
  ⟨Nat.lt_of_lt_of_le h.lt ho.size, fun j hj => by rw [ho.cell h.lt hg]; exact h.cell j hj, fun j => by rw [ho.frozen h.lt hg]; exact h.free j⟩
theorem Vr.new {w w' : World} {g n : Nat} {f : Nat → Value} (h : Vr w g n f) (hb : Below w.heap.size w w') : Vr w' g n f := h.kept (Ot.of_new (S := fun _ => False) hb) fun e => e
theorem Vr.made (w : World) (t : TypeId) (z : Value) (n : Nat) : Vr (w.alloc (.cells (madeCells #[z] n) t)) w.heap.size n (fun _ => z) := by
  have h1 : (w.alloc (.cells (madeCells #[z] n) t)).heap[w.heap.size]? = some (.cells (madeCells #[z] n) t) := heap_alloc_new w _
  refine ⟨by rw [World.size_alloc]; omega, fun j hj => ?_, fun j => ?_⟩
  · rw [World.cell?_alloc_at _ _ _ _ rfl]
    simp [madeCells, hj, Nat.mod_one]
  · unfold World.frozen?
    simp only
    rw [h1]
    simp
section
variable {α : Type} {K : El} {enc : α → List Value}
/-- what each list of the row is -/
def OW (K : El) (enc : α → List Value) (w : World) (g N : Nat) (U : Nat → List α) : Prop :=
  ∃ f : Nat → Value, Vr w g N f ∧ (∀ j, j < N → OL K enc (g + 1) w (f j) (U j)) ∧ ∀ i j, i < N → j < N → i ≠ j → ∀ k, (f i).ownBlock = some k → (f j).ownBlock ≠ some k
theorem OW.congr {w : World} {g N : Nat} {U U' : Nat → List α} (h : OW K enc w g N U) (he : ∀ j, j < N → U j = U' j) : OW K enc w g N U' := by
  obtain ⟨f, h1, h2, h3⟩ := h
  exact ⟨f, h1, fun j hj => by rw [← he j hj]; exact h2 j hj, h3⟩
theorem OW.new {w w' : World} {g N : Nat} {U : Nat → List α} (h : OW K enc w g N U) (hb : Below w.heap.size w w') : OW K enc w' g N U := by
  obtain ⟨f, h1, h2, h3⟩ := h
  exact ⟨f, h1.new hb, fun j hj => OL.new (h2 j hj) hb, h3⟩
/-- the j-th list: where it lies, what it reads as; what is needed to put a longer one in its place -/
theorem OW.at {w : World} {g N : Nat} {U : Nat → List α} (h : OW K enc w g N U) {x : Nat} (hx : x < N) :
    ∃ v, w.cell? ⟨g, x, none⟩ = some v ∧ OL K enc (g + 1) w v (U x) ∧ (∀ j, w.frozen? ⟨g, j, none⟩ = false) ∧ g < w.heap.size ∧
      (∀ w2, Ot (fun k => v.ownBlock = some k) w w2 → w2.cell? ⟨g, x, none⟩ = some v ∧ w2.frozen? ⟨g, x, none⟩ = false) ∧
      (∀ c g2 cap2 w2, OL K enc (g + 1) w2 (.slice (some ⟨g2, 0, none⟩) ((U x).length + 1) cap2) (U x ++ [c]) → Ot (fun k => v.ownBlock = some k) w w2 → (v.ownBlock = some g2 ∨ w.heap.size ≤ g2) →
        OW K enc (w2.setCell ⟨g, x, none⟩ (.slice (some ⟨g2, 0, none⟩) ((U x).length + 1) cap2)) g N (fun t => if t = x then U x ++ [c] else U t) ∧ Ot (fun k => k = g ∨ v.ownBlock = some k) w (w2.setCell ⟨g, x, none⟩ (.slice (some ⟨g2, 0, none⟩) ((U x).length + 1) cap2))) := by
  obtain ⟨f, hrow, hob, hdis⟩ := h
  have hne : ∀ j, j < N → ∀ k, (f j).ownBlock = some k → g + 1 ≤ k := fun j hj k hk => (World.ownsRow.lt (hob j hj) k hk).1
  refine ⟨f x, hrow.cell x hx, hob x hx, hrow.free, hrow.lt, fun w2 ho => ?_, fun c g2 cap2 w2 hob3 hoth hat => ⟨?_, ?_⟩⟩
  · have := hrow.kept ho (fun e => by have := hne x hx g e; omega)
    exact ⟨this.cell x hx, this.free x⟩
  · have hrow2 : Vr w2 g N f := hrow.kept hoth (fun e => by have := hne x hx g e; omega)
    have hset : Ot (· = g) w2 (w2.setCell ⟨g, x, none⟩ (.slice (some ⟨g2, 0, none⟩) ((U x).length + 1) cap2)) := (Ot.refl (· = g) w2).set ⟨g, x, none⟩ (.inl rfl) _
    refine ⟨upd f x (.slice (some ⟨g2, 0, none⟩) ((U x).length + 1) cap2), hrow2.store x _ hx, fun j hj => ?_, fun i j hi hj hij k hk => ?_⟩
    · show OL K enc (g + 1) _ (if j = x then _ else f j) (if j = x then U x ++ [c] else U j)
      by_cases e : j = x
      · subst e
        rw [if_pos rfl, if_pos rfl]
        exact OL.kept hob3 hset (fun k hk e2 => by have := (World.ownsRow.lt hob3 k hk).1; omega)
      · rw [if_neg e, if_neg e]
        exact OL.kept (OL.kept (hob j hj) hoth (fun k hk => hdis j x hj hx e k hk)) hset (fun k hk e2 => by have := hne j hj k hk; omega)
    · unfold upd at hk ⊢
      by_cases e : i = x
      · subst e
        rw [if_pos rfl] at hk
        rw [if_neg (fun h => hij h.symm)]
        obtain rfl : g2 = k := Option.some.inj hk
        intro h
        rcases hat with ha | ha
        · exact hdis i j hi hj hij g2 ha h
        · have := (World.ownsRow.lt (hob j hj) g2 h).2; omega
      · rw [if_neg e] at hk
        by_cases e2 : j = x
        · subst e2
          rw [if_pos rfl]
          intro h
          obtain rfl : g2 = k := Option.some.inj h
          rcases hat with ha | ha
          · exact hdis i j hi hj hij g2 hk ha
          · have := (World.ownsRow.lt (hob i hi) g2 hk).2; omega
        · rw [if_neg e2]
          exact hdis i j hi hj hij k hk
  · exact (Ot.more (S' := fun k => k = g ∨ (f x).ownBlock = some k) hoth (fun k _ hk => .inr hk)).set ⟨g, x, none⟩ (.inl (.inl rfl)) _
end
end Go.Proofs.YtkfkdlneafeglaaDoor
