/-
  The document's Less.
-/
import Derived.Test.YtnaajhhdpcdakaaGreatDoorRefG
namespace Go.Proofs.YtnaajhhdpcdakaaGreatDoor
open Go.RowKit Num Word
attribute [local go_sem] setCell_drewN cell?_ext frozen?_ext shape?_ext setCell_ext lt_1' ne_1' en_1' le_1' lt_2' ne_2' en_2' le_2' lt_3' ne_3' en_3' le_3' lt_4' ne_4' en_4' le_4' lt_5' ne_5' en_5' le_5' lt_6' ne_6' en_6' le_6' lt_7' ne_7' en_7' le_7' lt_8' ne_8' en_8' le_8' lt_9' ne_9' en_9' le_9' lt_10' ne_10' en_10' le_10' lt_11' ne_11' en_11' le_11' lt_12' ne_12' en_12' le_12'

theorem IRow.drew {W0 w : World} {g n : Nat} {f : Nat → Int} (h : IRow W0 w g n f) : IRow W0 w.drew g n f := ⟨h.own, h.lt, below_drew h.below, h.cell, h.free⟩
/-- a copy of a slice in a row of the call's own -/
theorem append_copy {ops : Array Oper} {rest : List Oper} {o : Oper} {a : Act} {Q : Exit → Act → World → Prop} {W0 w : World} (hgd : o.guard = none) (s x : Operand)
    (ho : o.op = .call { callee := .builtin .append, args := #[s, x], argTypes := #[36, 36] })
    (hb : Below W0.heap.size W0 w) (hs : a.eval s = .slice (some ⟨w.heap.size, 0, none⟩) 0 0) {g off cap : Nat} {l : List Nat} (hx : a.eval x = .slice (some ⟨g, off, none⟩) l.length cap)
    (hg : g < w.heap.size) (hc : ∀ j (hj : j < l.length), w.cell? ⟨g, off + j, none⟩ = some (.int .i64 (l[j] : Int))) (hl : 0 < l.length) (hlen : l.length ≤ 1000000)
    (h : ∀ g' cap' w', l.length ≤ cap' → IRow W0 w' g' l.length (fun j => ((l.getD j 0 : Nat) : Int)) → wpList Tryz.prog ops Q rest (a.put o.dst (.slice (some ⟨g', 0, none⟩) l.length cap')) w') :
    wpList Tryz.prog ops Q (o :: rest) a (w.alloc (.cells #[] 3)) := by
  obtain ⟨i0, hi, hz0, hz1, hz2⟩ := info_parts infoInt
  have hown := World.ownsRow_lit (w := w) (base := W0.heap.size) (e := 3) (size := 1) #[] 0 hb.size (by unfold maxLen; omega) rfl
  have hb2 : Below W0.heap.size W0 (w.alloc (.cells #[] 3)) := hb.alloc hb.size _
  have hsz : W0.heap.size ≤ (w.alloc (.cells #[] 3)).heap.size := by rw [World.size_alloc]; have := hb.size; omega
  refine wpList_append_own _ hgd s x 36 ho W0.heap.size 3 i0 (.int .i64 0) 1 8 Tryz.underlying36 hi hz0 hz1 hz2 rfl (by decide) _ 0 [] hs hown ⟨g, off, none⟩ l.length cap (intCellsN l) hx (by simp [intCellsN]) ?_ ?_ (by unfold maxLen; omega) (by omega) hsz ?_
  · intro j u hj
    obtain ⟨hlt, e⟩ : ∃ h : j < l.length, .int .i64 (l[j] : Int) = u := by
      obtain ⟨h1, h2⟩ := List.getElem?_eq_some_iff.1 hj
      have h3 : j < l.length := by simpa [intCellsN] using h1
      exact ⟨h3, by simpa [intCellsN] using h2⟩
    have ead : (⟨g, off, none⟩ : Addr).add j = ⟨g, off + j, none⟩ := by
      by_cases h0 : j = 0
      · subst h0; rfl
      · simp [Addr.add, h0]
    rw [ead, ← e, ← hc j hlt]
    exact World.cell?_alloc_past _ g (off + j) hg
  · intro u hu
    simp only [intCellsN, List.mem_map] at hu
    obtain ⟨c, _, rfl⟩ := hu
    rfl
  · intro v' w' ho' hgr _
    rw [Nat.zero_add, List.nil_append] at ho'
    obtain ⟨hlen2, hv⟩ := ho'
    rcases hv with ⟨-, h0⟩ | ⟨g', cap', cur, rfl, hbase, hheap, hcap, -, hcs, htk⟩
    · omega
    · have hbel := hb2.grown hgr hsz (fun k e => by
        have e2 : k = w.heap.size := by cases e; rfl
        rw [e2]; exact hb.size)
      refine h g' cap' w' hcap ⟨hbase, ?_, hbel, fun j hj => ?_, fun j hj => Joins.unfrozen_of_block hheap j⟩
      · by_cases h0 : g' < w'.heap.size
        · exact h0
        · rw [Array.getElem?_eq_none (by omega)] at hheap; cases hheap
      · have e : (intCellsN l)[j]? = some (.int .i64 ((l.getD j 0 : Nat) : Int)) := by simp [intCellsN, hj, List.getD_eq_getElem?_getD]
        rw [Joins.cell_of_block hheap j, ← e, ← htk, List.getElem?_take, if_pos (by omega), Array.getElem?_toList]
end Go.Proofs.YtnaajhhdpcdakaaGreatDoor
