/-
  Lists of the call's own, of elements of any type: each element is so many cells; appended to, cut, read, written.
-/
import Derived.Test.YtalahkincccffaaGreatDoorExt
import Derived.Below
import Derived.OwnWalk
import Derived.Laws.OwnMore
import Derived.Deep.AppendLies
namespace Go.Proofs.YtalahkincccffaaGreatDoor
open Go.RowKit

structure Ot (S : Nat → Prop) (w w' : World) : Prop where
  os : w'.os = w.os
  tape : w'.tape = w.tape
  output : w'.output = w.output
  size : w.heap.size ≤ w'.heap.size
  block : ∀ k, k < w.heap.size → ¬ S k → w'.heap[k]? = w.heap[k]?
section
variable {S S' : Nat → Prop} {a b c w w' : World}
theorem Ot.refl (S : Nat → Prop) (w : World) : Ot S w w := ⟨rfl, rfl, rfl, Nat.le_refl _, fun _ _ _ => rfl⟩
theorem Ot.trans (h : Ot S a b) (h' : Ot S b c) : Ot S a c := ⟨h'.os.trans h.os, h'.tape.trans h.tape, h'.output.trans h.output, Nat.le_trans h.size h'.size, fun k hk hn => (h'.block k (Nat.lt_of_lt_of_le hk h.size) hn).trans (h.block k hk hn)⟩
theorem Ot.more (h : Ot S a b) (hs : ∀ k, k < a.heap.size → S k → S' k) : Ot S' a b := ⟨h.os, h.tape, h.output, h.size, fun k hk hn => h.block k hk fun e => hn (hs k hk e)⟩
theorem Ot.drew (h : Ot S a b) (d : Nat) : Ot S a (b.drewN d) := ⟨h.os, h.tape, h.output, h.size, h.block⟩
theorem Ot.alloc (h : Ot S a b) (o : Obj) : Ot S a (b.alloc o) := h.trans ⟨rfl, rfl, rfl, by simp, fun k hk _ => heap_alloc_old b o hk⟩
theorem Ot.set (h : Ot S a b) (p : Addr) (hp : S p.block ∨ a.heap.size ≤ p.block) (v : Value) : Ot S a (b.setCell p v) := by
  refine ⟨h.os, h.tape, h.output, by rw [World.size_setCell]; exact h.size, fun k hk hn => ?_⟩
  have hne : ¬ p.block = k := fun e => by
    rcases hp with hp | hp
    · exact hn (e ▸ hp)
    · omega
  rw [show (b.setCell p v).heap[k]? = b.heap[k]? by simp [World.setCell, Array.getElem?_modify, hne]]
  exact h.block k hk hn
theorem Ot.below {n : Nat} (h : Ot S a b) (hn : n ≤ a.heap.size) (hs : ∀ k, S k → n ≤ k) : Below n a b :=
  ⟨h.os, h.tape, h.output, h.size, fun k hk => h.block k (Nat.lt_of_lt_of_le hk hn) fun e => by have := hs k e; omega⟩
theorem Ot.of_new (h : Below a.heap.size a b) : Ot S a b := ⟨h.os, h.tape, h.output, h.size, fun k hk _ => h.block k hk⟩
theorem Ot.cell (h : Ot S a b) {g j : Nat} (hg : g < a.heap.size) (hn : ¬ S g) : b.cell? ⟨g, j, none⟩ = a.cell? ⟨g, j, none⟩ := World.cell?_of_block (a := ⟨g, j, none⟩) (h.block g hg hn)
theorem Ot.frozen (h : Ot S a b) {g j : Nat} (hg : g < a.heap.size) (hn : ¬ S g) : b.frozen? ⟨g, j, none⟩ = a.frozen? ⟨g, j, none⟩ := World.frozen?_of_block (a := ⟨g, j, none⟩) (h.block g hg hn)
theorem Ot.grown {A : Obj} {r : Option Nat} (hg : (w.alloc A).grownBy w' r) : Ot (fun k => r = some k) w w' := by
  have hs : w.heap.size ≤ (w.alloc A).heap.size := by simp
  refine ⟨hg.os, hg.tape, hg.output, Nat.le_trans hs hg.size, fun k hk hne => ?_⟩
  rw [hg.block k (Nat.lt_of_lt_of_le hk hs) (fun e => hne e.symm)]
  exact heap_alloc_old w A hk
end
structure El where
  T : TypeId
  S : TypeId
  size : Nat
  bytes : Nat
  zero : Value
structure El.Ok (P : Program) (K : El) : Prop where
  und : P.underlying K.S = some (.slice K.T)
  info : (P.info? K.T).map (fun i => (i.zero, i.size, i.bytes)) = some (some K.zero, K.size, K.bytes)
  cells : K.zero.cells.size = K.size
  pos : 0 < K.size
  few : K.bytes ≤ 1000
  few2 : K.size ≤ 1000
section
variable {α : Type} {K : El} {enc : α → List Value} {B : Nat} {w w' : World} {v : Value} {l : List α}
abbrev OL (K : El) (enc : α → List Value) (B : Nat) (w : World) (v : Value) (l : List α) : Prop := w.ownsRow B K.T K.size v l.length (l.flatMap enc)
abbrev Cells (K : El) (enc : α → List Value) : Prop := ∀ x, (enc x).length = K.size ∧ ∀ u ∈ enc x, u.oneCell' = true
theorem OL.nil (K : El) (enc : α → List Value) (B : Nat) (w : World) : OL K enc B w (.slice none 0 0) [] := World.ownsRow_nil _ _ _ _
theorem OL.kept {S : Nat → Prop} (h : OL K enc B w v l) (ho : Ot S w w') (hn : ∀ k, v.ownBlock = some k → ¬ S k) : OL K enc B w' v l := by
  refine ⟨h.1, ?_⟩
  rcases h.2 with hn0 | ⟨g, cap, cur, rfl, hb, hgg, rest⟩
  · exact .inl hn0
  · exact .inr ⟨g, cap, cur, rfl, hb, by rw [ho.block g (Array.getElem?_eq_some_iff.1 hgg).1 (hn g rfl)]; exact hgg, rest⟩
theorem OL.new (h : OL K enc B w v l) (hb : Below w.heap.size w w') : OL K enc B w' v l := h.kept (Ot.of_new (S := fun _ => False) hb) fun _ _ e => e
theorem OL.drew (h : OL K enc B w v l) (d : Nat) : OL K enc B (w.drewN d) v l := h
theorem OL.form (h : OL K enc B w v l) : ∃ q c, v = .slice q l.length c ∧ (0 < l.length → ∃ g, q = some ⟨g, 0, none⟩ ∧ B ≤ g ∧ g < w.heap.size) ∧ l.length ≤ c := by
  rcases h.2 with ⟨rfl, h0⟩ | ⟨g, cap, cur, rfl, hb, hg, hc, _⟩
  · exact ⟨none, 0, by rw [h0], fun h1 => by omega, by omega⟩
  · exact ⟨_, _, rfl, fun _ => ⟨g, rfl, hb, (Array.getElem?_eq_some_iff.1 hg).1⟩, hc⟩
theorem flat_len (hc : Cells K enc) : ∀ l : List α, (l.flatMap enc).length = l.length * K.size
  | [] => by simp
  | x :: r => by rw [List.flatMap_cons, List.length_append, (hc x).1, flat_len hc r, List.length_cons, Nat.add_mul]; omega
theorem flat_at (hc : Cells K enc) : ∀ (l : List α) (j i : Nat) (hj : j < l.length), i < K.size → (l.flatMap enc)[j * K.size + i]? = (enc l[j])[i]?
  | x :: r, 0, i, _, hi => by
    rw [List.flatMap_cons, Nat.zero_mul, Nat.zero_add, List.getElem?_append_left (by rw [(hc x).1]; exact hi)]; rfl
  | x :: r, j + 1, i, hj, hi => by
    rw [List.flatMap_cons, List.getElem?_append_right (by rw [(hc x).1, Nat.add_mul]; omega), (hc x).1, show (j + 1) * K.size + i - K.size = j * K.size + i by rw [Nat.add_mul]; omega]
    exact flat_at hc r j i (by simpa using hj) hi
theorem OL.cell (hc : Cells K enc) {g cap n : Nat} (h : OL K enc B w (.slice (some ⟨g, 0, none⟩) n cap) l) (j i : Nat) (hj : j < l.length) {u : Value} (hu : (enc l[j])[i]? = some u) : w.cell? ⟨g, j * K.size + i, none⟩ = some u := by
  have hi : i < K.size := by rw [← (hc l[j]).1]; exact (List.getElem?_eq_some_iff.1 hu).1
  rcases h.2 with ⟨e, _⟩ | ⟨g', cap', cur, e, hb, hg, hn, hm, hz, ht⟩
  · cases e
  · injection e with e1 e2 e3
    injection e1 with e1
    injection e1 with e4 _ _
    subst e4
    rw [cell_of_row _ _ _ _ _ _ hg, ← Array.getElem?_toList]
    have e5 : (cur.toList.take (l.length * K.size))[j * K.size + i]? = some u := by rw [ht, flat_at hc l j i hj hi]; exact hu
    have hlt : j * K.size + i < l.length * K.size := by
      have : (j + 1) * K.size ≤ l.length * K.size := Nat.mul_le_mul_right _ hj
      rw [Nat.add_mul] at this; omega
    rwa [List.getElem?_take, if_pos hlt] at e5
theorem OL.free {g cap n j : Nat} (h : OL K enc B w (.slice (some ⟨g, 0, none⟩) n cap) l) : w.frozen? ⟨g, j, none⟩ = false := by
  rcases h.2 with ⟨e, _⟩ | ⟨g', cap', cur, e, hb, hg, hn, hm, hz, ht⟩
  · cases e
  · injection e with e1 e2 e3
    injection e1 with e1
    injection e1 with e4 _ _
    subst e4
    unfold World.frozen?
    simp only
    rw [hg]
    simp
theorem OL.take (hc : Cells K enc) {q : Option Addr} {n cap m : Nat} (h : OL K enc B w (.slice q n cap) l) (hm : m ≤ l.length) : OL K enc B w (.slice q m cap) (l.take m) := by
  have hl : (l.take m).length = m := by rw [List.length_take]; omega
  refine ⟨flat_len hc _, ?_⟩
  rcases h.2 with ⟨e, h0⟩ | ⟨g', cap', cur, e, hb, hg, hn, hx, hz, ht⟩
  · left
    injection e with e1 e2 e3
    have : m = 0 := by omega
    subst this
    exact ⟨by rw [e1, e3], by rw [hl]⟩
  · right
    injection e with e1 e2 e3
    subst e1 e3
    refine ⟨g', cap, cur, by rw [hl], hb, hg, by omega, hx, hz, ?_⟩
    have e6 : l.flatMap enc = (l.take m).flatMap enc ++ (l.drop m).flatMap enc := by rw [← List.flatMap_append, List.take_append_drop]
    have hlm : ((l.take m).flatMap enc).length = m * K.size := by rw [flat_len hc, hl]
    have e7 : (cur.toList.take (l.length * K.size)).take (m * K.size) = (l.take m).flatMap enc := by
      rw [ht, e6, List.take_left' hlm]
    rw [hl, ← e7, List.take_take, Nat.min_eq_left (Nat.mul_le_mul_right _ hm)]
theorem OL.one (hc : Cells K enc) (w : World) (B : Nat) (hB : B ≤ w.heap.size) (x : α) : OL K enc B (w.alloc (.cells (enc x).toArray K.T)) (.slice (some ⟨w.heap.size, 0, none⟩) 1 1) [x] := by
  refine ⟨by rw [flat_len hc], .inr ⟨w.heap.size, 1, (enc x).toArray, rfl, hB, heap_alloc_new w _, Nat.le_refl _, by unfold maxLen; omega, by simp [(hc x).1], ?_⟩⟩
  simp only [List.flatMap_cons, List.flatMap_nil, List.append_nil, List.length_cons, List.length_nil, Nat.zero_add, Nat.one_mul]
  exact List.take_of_length_le (by rw [(hc x).1]; exact Nat.le_refl _)
theorem wpList_append_ol {P : Program} {ops : Array Oper} {rest : List Oper} {o : Oper} {a : Act} {Q : Exit → Act → World → Prop} (hK : K.Ok P) (hc : Cells K enc) (hgd : o.guard = none) (s x : Operand)
    (ho : o.op = .call { callee := .builtin .append, args := #[s, x], argTypes := #[K.S, K.S] })
    (hs : a.eval s = v) (w0 : World) (c : α) {row : Array Value} (hrow : row = (enc c).toArray) (hb : OL K enc B w0 v l)
    (hx : a.eval x = .slice (some ⟨w0.heap.size, 0, none⟩) 1 1) (hlen : l.length ≤ 1000000) (hB : B ≤ w0.heap.size)
    (h : ∀ g cap w', OL K enc B w' (.slice (some ⟨g, 0, none⟩) (l.length + 1) cap) (l ++ [c]) → Ot (fun k => v.ownBlock = some k) w0 w' → (v.ownBlock = some g ∨ w0.heap.size ≤ g) → g < w'.heap.size → w0.heap.size < w'.heap.size → wpList P ops Q rest (a.put o.dst (.slice (some ⟨g, 0, none⟩) (l.length + 1) cap)) w') : wpList P ops Q (o :: rest) a (w0.alloc (.cells row K.T)) := by
  subst hrow
  obtain ⟨i0, hi, hz0, hz1, hz2⟩ := info_parts hK.info
  have hx1 : (w0.alloc (.cells (enc c).toArray K.T)).heap[w0.heap.size]? = some (.cells (enc c).toArray K.T) := heap_alloc_new w0 _
  refine wpList_append_lies _ hgd s x K.S ho B K.T i0 K.zero K.size K.bytes hK.und hi hz0 hz1 hz2 hK.cells hK.pos v l.length (l.flatMap enc) hs (hb.alloc _) ⟨w0.heap.size, 0, none⟩ 1 1 (enc c) hx (by rw [(hc c).1]; omega) (World.news_of_block (cs := (enc c).toArray) (t := K.T) (fr := (0, 0)) hx1) (hc c).2 (by omega) (by unfold maxLen; omega) ?_ (by simp; omega) (w0.heap.size + 1) (by simp) ?_
  · have := hK.few
    calc (l.length + 1) * K.bytes ≤ 1000001 * 1000 := Nat.mul_le_mul (by omega) this
      _ ≤ 140737488355328 := by decide
  · intro g cap w' hown hgrow hat hlt
    have hsz := hgrow.size
    simp only [World.size_alloc] at hsz
    refine h g cap w' ⟨flat_len hc _, ?_⟩ (Ot.grown hgrow) (hat.imp id (fun e => by omega)) hlt (by omega)
    have h2 := hown.2
    rw [List.length_append, List.flatMap_append, show [c].flatMap enc = enc c by simp]
    exact h2
theorem step_append_ol {P : Program} {ops : Array Oper} {o : Oper} {a : Act} {K2 : Act → World → Prop} {Q : Exit → Act → World → Prop} {E : Prop} (hK : K.Ok P) (hc : Cells K enc) (hgd : o.guard = none) (s x : Operand)
    (ho : o.op = .call { callee := .builtin .append, args := #[s, x], argTypes := #[K.S, K.S] })
    (hs : a.eval s = v) (w0 : World) (c : α) {W : World} (hW : Below w0.heap.size w0 W) {gr : Nat} (hblk : W.heap[gr]? = some (.cells (enc c).toArray K.T)) (hb : OL K enc B w0 v l)
    (hx : a.eval x = .slice (some ⟨gr, 0, none⟩) 1 1) (hlen : l.length ≤ 1000000) (hB : B ≤ w0.heap.size)
    (h : ∀ g cap w', OL K enc B w' (.slice (some ⟨g, 0, none⟩) (l.length + 1) cap) (l ++ [c]) → Ot (fun k => v.ownBlock = some k) w0 w' → (v.ownBlock = some g ∨ w0.heap.size ≤ g) → g < w'.heap.size → w0.heap.size ≤ w'.heap.size → K2 (a.put o.dst (.slice (some ⟨g, 0, none⟩) (l.length + 1) cap)) w') :
    if Region.wanted o (yielded ops a.tmps) = true then Oper.wp P o a W K2 Q else E := by
  obtain ⟨i0, hi, hz0, hz1, hz2⟩ := info_parts hK.info
  refine step_append_lies _ hgd s x K.S ho B K.T i0 K.zero K.size K.bytes hK.und hi hz0 hz1 hz2 hK.cells hK.pos v l.length (l.flatMap enc) hs (OL.new hb hW) ⟨gr, 0, none⟩ 1 1 (enc c) hx (by rw [(hc c).1]; omega) (World.news_of_block (cs := (enc c).toArray) (t := K.T) (fr := (0, 0)) hblk) (hc c).2 (by omega) (by unfold maxLen; omega) ?_ (Nat.le_trans hB hW.size) W.heap.size rfl ?_
  · have := hK.few
    calc (l.length + 1) * K.bytes ≤ 1000001 * 1000 := Nat.mul_le_mul (by omega) this
      _ ≤ 140737488355328 := by decide
  · intro g cap w' hown hgrow hat hlt
    have hsz := hgrow.size
    have hsW := hW.size
    refine h g cap w' ⟨flat_len hc _, ?_⟩ ⟨hgrow.os.trans hW.os, hgrow.tape.trans hW.tape, hgrow.output.trans hW.output, Nat.le_trans hsW hsz, fun k hk hne => ?_⟩ (hat.imp id (fun e => by omega)) hlt (by omega)
    · have h2 := hown.2
      rw [List.length_append, List.flatMap_append, show [c].flatMap enc = enc c by simp]
      exact h2
    · rw [hgrow.block k (Nat.lt_of_lt_of_le hk hsW) (fun e => hne e.symm), hW.block k hk]
end
end Go.Proofs.YtalahkincccffaaGreatDoor
