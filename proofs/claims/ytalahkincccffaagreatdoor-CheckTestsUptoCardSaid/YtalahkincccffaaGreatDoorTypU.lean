/-
  Lists put behind lists of the call's own; rows with spare room; whole elements stored.
-/
import Derived.Test.YtalahkincccffaaGreatDoorNodV
namespace Go.Proofs.YtalahkincccffaaGreatDoor
open Go.RowKit Num Word Txt

section
variable {α : Type} {K : El} {enc : α → List Value} {B : Nat} {w w' : World} {v : Value} {l : List α}
theorem OL.lit0 (K : El) (enc : α → List Value) {B : Nat} {w : World} (hB : B ≤ w.heap.size) : OL K enc B (w.alloc (.cells #[] K.T)) (.slice (some ⟨w.heap.size, 0, none⟩) 0 0) [] :=
  ⟨by simp, .inr ⟨w.heap.size, 0, #[], rfl, hB, heap_alloc_new w _, Nat.le_refl _, by unfold maxLen; omega, by simp, by simp⟩⟩
theorem wpList_append_ols {P : Program} {ops : Array Oper} {rest : List Oper} {o : Oper} {a : Act} {Q : Exit → Act → World → Prop} (hK : K.Ok P) (hc : Cells K enc) (hgd : o.guard = none) (s x : Operand)
    (ho : o.op = .call { callee := .builtin .append, args := #[s, x], argTypes := #[K.S, K.S] })
    (hs : a.eval s = v) (w0 : World) (hb : OL K enc B w0 v l) {m : List α} {g off cap k : Nat} (hk : m.length = k) (hx : a.eval x = .slice (some ⟨g, off, none⟩) k cap)
    (hcell : ∀ j (h : j < m.length) i u, (enc m[j])[i]? = some u → w0.cell? ⟨g, off + j * K.size + i, none⟩ = some u) (hm : 0 < m.length) (hlen : l.length + m.length ≤ 1000000) (hB : B ≤ w0.heap.size)
    (h : ∀ g' cap' w', OL K enc B w' (.slice (some ⟨g', 0, none⟩) (l.length + k) cap') (l ++ m) → Ot (fun k => v.ownBlock = some k) w0 w' → (v.ownBlock = some g' ∨ w0.heap.size ≤ g') → g' < w'.heap.size → w0.heap.size ≤ w'.heap.size → wpList P ops Q rest (a.put o.dst (.slice (some ⟨g', 0, none⟩) (l.length + k) cap')) w') : wpList P ops Q (o :: rest) a w0 := by
  subst hk
  obtain ⟨i0, hi, hz0, hz1, hz2⟩ := info_parts hK.info
  have hpos := hK.pos
  refine wpList_append_lies _ hgd s x K.S ho B K.T i0 K.zero K.size K.bytes hK.und hi hz0 hz1 hz2 hK.cells hK.pos v l.length (l.flatMap enc) hs hb ⟨g, off, none⟩ m.length cap (m.flatMap enc) hx (flat_len hc m) ?_ ?_ hm (by unfold maxLen; omega) ?_ hB w0.heap.size rfl ?_
  · intro j u hj
    have hjl : j < m.length * K.size := by rw [← flat_len hc m]; exact (List.getElem?_eq_some_iff.1 hj).1
    obtain ⟨q, hq⟩ : ∃ q, q = j / K.size := ⟨_, rfl⟩
    obtain ⟨r, hr⟩ : ∃ r, r = j % K.size := ⟨_, rfl⟩
    have hj2 : j = q * K.size + r := by rw [hq, hr, Nat.mul_comm]; exact (Nat.div_add_mod j K.size).symm
    have hrl : r < K.size := hr ▸ Nat.mod_lt _ hpos
    have hql : q < m.length := by rw [hq]; exact Nat.div_lt_of_lt_mul (by rw [Nat.mul_comm]; exact hjl)
    rw [hj2, flat_at hc m q r hql hrl] at hj
    have h1 := hcell q hql r u hj
    have ead : (⟨g, off, none⟩ : Addr).add j = ⟨g, off + j, none⟩ := by
      by_cases h0 : j = 0
      · subst h0; rfl
      · simp [Addr.add, h0]
    rw [ead, hj2, ← Nat.add_assoc]
    exact h1
  · intro u hu
    obtain ⟨c, _, hu2⟩ := List.mem_flatMap.1 hu
    exact (hc c).2 u hu2
  · have := hK.few
    calc (l.length + m.length) * K.bytes ≤ 1000001 * 1000 := Nat.mul_le_mul (by omega) this
      _ ≤ 140737488355328 := by decide
  · intro g2 cap2 w2 hown hgrow hat hlt
    have hsz := hgrow.size
    refine h g2 cap2 w2 ⟨flat_len hc _, ?_⟩ ⟨hgrow.os, hgrow.tape, hgrow.output, hsz, fun k hk hne => hgrow.block k hk (fun e => hne e.symm)⟩ (hat.imp id (fun e => by omega)) hlt hsz
    have h2 := hown.2
    rw [List.length_append, List.flatMap_append]
    exact h2
theorem OL.low {B' : Nat} (h : OL K enc B w v l) (hb : B' ≤ B) : OL K enc B' w v l := by
  refine ⟨h.1, ?_⟩
  rcases h.2 with hn0 | ⟨g, cap, cur, rfl, hbg, rest⟩
  · exact .inl hn0
  · exact .inr ⟨g, cap, cur, rfl, Nat.le_trans hb hbg, rest⟩
theorem OL.below {w0 w1 w2 : World} (h : OL K enc B w1 v l) (hb : Below w0.heap.size w0 w1) (hB : w0.heap.size ≤ B) (ho : Ot (fun k => v.ownBlock = some k) w1 w2) : Below w0.heap.size w0 w2 :=
  hb.trans (ho.below hb.size fun k e => Nat.le_trans hB (World.ownsRow.lt h k e).1)
end
theorem append_none {α : Type} {K : El} {enc : α → List Value} {ops : Array Oper} {rest : List Oper} {o : Oper} {a : Act} {Q : Exit → Act → World → Prop} {w : World} (hK : K.Ok Tryz.prog) (hgd : o.guard = none) (s x : Operand)
    (ho : o.op = .call { callee := .builtin .append, args := #[s, x], argTypes := #[K.S, K.S] })
    {v : Value} {B : Nat} {l : List α} (hs : a.eval s = v) (hb : OL K enc B w v l) {p : Option Addr} {c : Nat} (hx : a.eval x = .slice p 0 c)
    (h : wpList Tryz.prog ops Q rest (a.put o.dst v) w) : wpList Tryz.prog ops Q (o :: rest) a w := by
  obtain ⟨i0, hi, hz0, hz1, hz2⟩ := info_parts hK.info
  obtain ⟨q, cap, rfl, -, hle⟩ := OL.form hb
  refine wpList_plain hgd fun K2 hK2 => ?_
  have hr := run_append_nothing (P := Tryz.prog) w K.S K.S o.type K.T i0 hK.und hi q l.length cap hle (.slice p 0 c) (src_none0 hK.und w p c)
  unfold Oper.wp execOp
  simp only [ho, resolve, invoke, builtin, Sem.run_bind, Sem.run_pure, Result.andThen_ok, List.map_toArray, List.map_cons, List.map_nil, hs, hx, hr]
  exact hK2 _ _ h
def SpR {α : Type} (K : El) (enc : α → List Value) (w : World) (g : Nat) (l : List α) (m : Nat) : Prop :=
  ∃ cur : Array Value, w.heap[g]? = some (.cells cur K.T (0, 0)) ∧ cur.size = (l.length + m) * K.size ∧ cur.toList.take (l.length * K.size) = l.flatMap enc ∧ ∀ j, l.length * K.size ≤ j → j < (l.length + m) * K.size → cur[j]? = K.zero.cells[j % K.size]?
section
variable {α : Type} {K : El} {enc : α → List Value} {w w' : World} {g m : Nat} {l : List α}
theorem SpR.lt (h : SpR K enc w g l m) : g < w.heap.size := by
  obtain ⟨cur, hg, -⟩ := h
  exact (Array.getElem?_eq_some_iff.1 hg).1
theorem SpR.kept {S : Nat → Prop} (h : SpR K enc w g l m) (ho : Ot S w w') (hn : ¬ S g) : SpR K enc w' g l m := by
  have hlt := h.lt
  obtain ⟨cur, hg, r⟩ := h
  exact ⟨cur, by rw [ho.block g hlt hn]; exact hg, r⟩
theorem SpR.ol (hc : Cells K enc) (h : SpR K enc w g l m) {B : Nat} (hB : B ≤ g) (hm : l.length + m ≤ 2000000) : OL K enc B w (.slice (some ⟨g, 0, none⟩) l.length (l.length + m)) l := by
  obtain ⟨cur, hg, hs, ht, -⟩ := h
  exact ⟨flat_len hc _, .inr ⟨g, l.length + m, cur, rfl, hB, hg, Nat.le_add_right _ _, by unfold maxLen; omega, hs, ht⟩⟩
theorem SpR.spare (h : SpR K enc w g l m) {j i : Nat} (h1 : l.length ≤ j) (h2 : j < l.length + m) (hi : i < K.size) {u : Value} (hu : K.zero.cells[i]? = some u) : w.cell? ⟨g, j * K.size + i, none⟩ = some u := by
  obtain ⟨cur, hg, hs, ht, hz⟩ := h
  rw [cell_of_row _ _ _ _ _ _ hg, hz _ (by have := Nat.mul_le_mul_right K.size h1; omega) (by have := Nat.mul_le_mul_right K.size (show j + 1 ≤ l.length + m by omega); rw [Nat.add_mul, Nat.one_mul] at this; omega), Nat.add_comm, Nat.add_mul_mod_self_right, Nat.mod_eq_of_lt hi]
  exact hu
end
def WrR (K : El) (w : World) (g n : Nat) : Prop := ∃ cur : Array Value, w.heap[g]? = some (.cells cur K.T (0, 0)) ∧ n * K.size ≤ cur.size
section
variable {α : Type} {K : El} {enc : α → List Value} {w w' : World} {g n : Nat} {l : List α}
theorem WrR.kept {S : Nat → Prop} (h : WrR K w g n) (ho : Ot S w w') (hn : ¬ S g) : WrR K w' g n := by
  obtain ⟨cur, hg, r⟩ := h
  exact ⟨cur, by rw [ho.block g (Array.getElem?_eq_some_iff.1 hg).1 hn]; exact hg, r⟩
theorem OL.wr {B cap : Nat} (h : OL K enc B w (.slice (some ⟨g, 0, none⟩) n cap) l) : WrR K w g l.length := by
  rcases h.2 with ⟨h', _⟩ | ⟨g', cap', cur, h', _, hg, hnc, _, hcs, _⟩
  · simp at h'
  · simp only [Value.slice.injEq, Option.some.injEq, Addr.mk.injEq, and_true] at h'
    obtain ⟨rfl, h1, rfl⟩ := h'
    exact ⟨cur, hg, by rw [hcs]; exact Nat.mul_le_mul_right _ hnc⟩
end
end Go.Proofs.YtalahkincccffaaGreatDoor
