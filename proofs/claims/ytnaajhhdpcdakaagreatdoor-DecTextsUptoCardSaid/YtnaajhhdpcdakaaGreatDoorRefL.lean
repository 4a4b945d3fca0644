/-
  The document's Shift, and the beginning of Quo.
-/
import Derived.Test.YtnaajhhdpcdakaaGreatDoorRefK
import Derived.Test.YtnaajhhdpcdakaaGreatDoorDigQ
namespace Go.Proofs.YtnaajhhdpcdakaaGreatDoor
open Go.RowKit Num Word
attribute [local go_sem] setCell_drewN cell?_ext frozen?_ext shape?_ext setCell_ext lt_1' ne_1' en_1' le_1' lt_2' ne_2' en_2' le_2' lt_3' ne_3' en_3' le_3' lt_4' ne_4' en_4' le_4' lt_5' ne_5' en_5' le_5' lt_6' ne_6' en_6' le_6' lt_7' ne_7' en_7' le_7' lt_8' ne_8' en_8' le_8' lt_9' ne_9' en_9' le_9' lt_10' ne_10' en_10' le_10' lt_11' ne_11' en_11' le_11' lt_12' ne_12' en_12' le_12'

/-- a slice put behind a row of the call's own -/
theorem append_rd {ops : Array Oper} {rest : List Oper} {o : Oper} {a : Act} {Q : Exit → Act → World → Prop} {w : World} (hgd : o.guard = none) (s x : Operand)
    (ho : o.op = .call { callee := .builtin .append, args := #[s, x], argTypes := #[36, 36] })
    {B : Nat} {v : Value} {l : List Nat} {W0 : World} (hs : a.eval s = v) (hb : IBuf B v l W0 w) {g off cap : Nat} {m : List Nat} (hx : a.eval x = .slice (some ⟨g, off, none⟩) m.length cap)
    (hc : ∀ j (hj : j < m.length), w.cell? ⟨g, off + j, none⟩ = some (.int .i64 (m[j] : Int))) (hlen : l.length + m.length ≤ 1000000)
    (h : ∀ v' w', IBuf B v' (l ++ m) W0 w' → wpList Tryz.prog ops Q rest (a.put o.dst v') w') : wpList Tryz.prog ops Q (o :: rest) a w := by
  obtain ⟨i0, hi, hz0, hz1, hz2⟩ := info_parts infoInt
  refine wpList_append_ownF _ hgd s x 36 ho B 3 i0 (.int .i64 0) 1 8 Tryz.underlying36 hi hz0 hz1 hz2 rfl (by decide) v l.length (intCellsN l) hs hb.1 ⟨g, off, none⟩ m.length cap (intCellsN m) hx (by simp [intCellsN]) ?_ ?_ (by unfold maxLen; omega) (by omega) hb.2.2 ?_
  · intro j u hj
    obtain ⟨hlt, e⟩ : ∃ h : j < m.length, .int .i64 (m[j] : Int) = u := by
      obtain ⟨h1, h2⟩ := List.getElem?_eq_some_iff.1 hj
      have h3 : j < m.length := by simpa [intCellsN] using h1
      exact ⟨h3, by simpa [intCellsN] using h2⟩
    have ead : (⟨g, off, none⟩ : Addr).add j = ⟨g, off + j, none⟩ := by
      by_cases h0 : j = 0
      · subst h0; rfl
      · simp [Addr.add, h0]
    rw [ead, ← e, ← hc j hlt]
  · intro u hu
    simp only [intCellsN, List.mem_map] at hu
    obtain ⟨c, _, rfl⟩ := hu
    rfl
  · intro v' w' ho' hg _
    exact h v' w' (IBuf.congr (hb.grown ho' hg) (by rw [List.length_append]) (by simp [intCellsN]))
theorem IBuf.lit {W0 W : World} (hb : Below W0.heap.size W0 W) (C : Array Value) (l : List Nat) (hC : C.toList = intCellsN l) (hl : l.length ≤ 1000000) : IBuf W0.heap.size (.slice (some ⟨W.heap.size, 0, none⟩) l.length l.length) l W0 (W.alloc (.cells C 3)) := by
  have h := World.ownsRow_lit (w := W) (base := W0.heap.size) (e := 3) (size := 1) C l.length hb.size (by unfold maxLen; omega) (by rw [← Array.length_toList, hC]; simp [intCellsN])
  rw [hC] at h
  exact ⟨World.ownsRowF_of h, hb.alloc hb.size _, by rw [World.size_alloc]; have := hb.size; omega⟩
end Go.Proofs.YtnaajhhdpcdakaaGreatDoor
