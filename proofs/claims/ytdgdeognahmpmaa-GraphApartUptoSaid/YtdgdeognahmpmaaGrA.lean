/-
  The heap of what is ready, in memory: its header and its row; Less, Swap.
-/
import Derived.Test.YtdgdeognahmpmaaGrH
import Derived.Test.YtdgdeognahmpmaaRd
namespace Go.Proofs.Ytdgdeognahmpmaa
open Go.RowKit
open Hp (at_ swp)
attribute [local go_sem] setCell_drewN cell?_ext frozen?_ext shape?_ext setCell_ext lt_1' ne_1' en_1' le_1' lt_2' ne_2' en_2' le_2' lt_3' ne_3' en_3' le_3' lt_4' ne_4' en_4' le_4' lt_5' ne_5' en_5' le_5' lt_6' ne_6' en_6' le_6' lt_7' ne_7' en_7' le_7' lt_8' ne_8' en_8' le_8' lt_9' ne_9' en_9' le_9' lt_10' ne_10' en_10' le_10' lt_11' ne_11' en_11' le_11' lt_12' ne_12' en_12' le_12'

/-- but for some blocks the world is as it was -/
structure Oth (S : Nat → Prop) (w w' : World) : Prop where
  os : w'.os = w.os
  tape : w'.tape = w.tape
  output : w'.output = w.output
  size : w.heap.size ≤ w'.heap.size
  block : ∀ k, k < w.heap.size → ¬ S k → w'.heap[k]? = w.heap[k]?
theorem Oth.refl (S : Nat → Prop) (w : World) : Oth S w w := ⟨rfl, rfl, rfl, Nat.le_refl _, fun _ _ _ => rfl⟩
theorem Oth.trans {S : Nat → Prop} {a b c : World} (h : Oth S a b) (k : Oth S b c) : Oth S a c :=
  ⟨k.os.trans h.os, k.tape.trans h.tape, k.output.trans h.output, Nat.le_trans h.size k.size, fun i hi hs => (k.block i (Nat.lt_of_lt_of_le hi h.size) hs).trans (h.block i hi hs)⟩
theorem Oth.mono {S T : Nat → Prop} {a b : World} (h : Oth S a b) (hs : ∀ k, k < a.heap.size → S k → T k) : Oth T a b := ⟨h.os, h.tape, h.output, h.size, fun k hk ht => h.block k hk (fun e => ht (hs k hk e))⟩
theorem Oth.drew {S : Nat → Prop} {a b : World} (h : Oth S a b) (d : Nat) : Oth S a (b.drewN d) := ⟨h.os, h.tape, h.output, h.size, h.block⟩
theorem Oth.set {S : Nat → Prop} {a b : World} (h : Oth S a b) (p : Addr) (hp : S p.block) (u : Value) : Oth S a (b.setCell p u) :=
  h.trans ⟨rfl, rfl, rfl, by simp [World.setCell], fun k _ hk9 => Below.heap_setCell _ _ _ _ (fun e => hk9 (e ▸ hp))⟩
theorem Oth.of_below {S : Nat → Prop} {a b c : World} (h : Oth S a b) (hb : Below b.heap.size b c) : Oth S a c :=
  h.trans ⟨hb.os, hb.tape, hb.output, hb.size, fun k hk _ => hb.block k hk⟩
theorem Oth.below {S : Nat → Prop} {a b : World} (h : Oth S a b) (n : Nat) (hn : n ≤ a.heap.size) (hs : ∀ k, k < n → ¬ S k) : Below n a b :=
  ⟨h.os, h.tape, h.output, h.size, fun k hk => h.block k (Nat.lt_of_lt_of_le hk hn) (hs k hk)⟩
abbrev iv (n : Nat) : Value := .int .i64 (n : Int)
/-- the heap in memory: its header, its row -/
structure HC (w : World) (p g cap : Nat) (l : List Nat) : Prop where
  ne : g ≠ p
  plt : p < w.heap.size
  glt : g < w.heap.size
  hd : w.cell? ⟨p, 0, none⟩ = some (.slice (some ⟨g, 0, none⟩) l.length cap)
  hf : w.frozen? ⟨p, 0, none⟩ = false
  few : l.length ≤ 1000
  row : ∃ cur : Array Value, w.heap[g]? = some (.cells cur 3 (0, 0)) ∧ l.length ≤ cap ∧ cap ≤ maxLen ∧ cur.size = cap ∧ cur.toList.take l.length = l.map iv
theorem HC.cell {w : World} {p g cap : Nat} {l : List Nat} (h : HC w p g cap l) (j : Nat) (hj : j < l.length) : w.cell? ⟨g, j, none⟩ = some (iv (at_ l j)) := by
  obtain ⟨cur, h1, h2, h3, h4, h5⟩ := h.row
  rw [cell_of_row _ _ j _ _ _ h1]
  have e : (cur.toList.take l.length)[j]? = some (iv l[j]) := by rw [h5]; simp [hj]
  rw [List.getElem?_take, if_pos hj] at e
  rw [← Array.getElem?_toList, e, Hp.at_of hj]
theorem HC.free {w : World} {p g cap : Nat} {l : List Nat} (h : HC w p g cap l) (j : Nat) : w.frozen? ⟨g, j, none⟩ = false := by
  obtain ⟨cur, h1, _⟩ := h.row
  unfold World.frozen?
  simp only
  rw [h1]
  simp
theorem HC.store {w : World} {p g cap : Nat} {l : List Nat} (h : HC w p g cap l) (k v : Nat) : HC (w.setCell ⟨g, k, none⟩ (iv v)) p g cap (l.set k v) := by
  obtain ⟨cur, h1, h2, h3, h4, h5⟩ := h.row
  have hz : (w.setCell ⟨g, k, none⟩ (iv v)).heap.size = w.heap.size := World.size_setCell _ _ _
  refine ⟨h.ne, by rw [hz]; exact h.plt, by rw [hz]; exact h.glt, ?_, by rw [World.frozen?_setCell]; exact h.hf, by rw [List.length_set]; exact h.few, cur.setIfInBounds k (iv v), ?_, by rw [List.length_set]; exact h2, h3, by simp [h4], ?_⟩
  · rw [World.cell?_setCell_other w _ _ _ (by intro e; injection e with e1 _ _; exact h.ne e1), h.hd, List.length_set]
  · simp [World.setCell, Array.getElem?_modify, h1]
  · rw [Array.toList_setIfInBounds, List.length_set, List.take_set, h5, List.map_set]
theorem HC.swap {w : World} {p g cap : Nat} {l : List Nat} (h : HC w p g cap l) (i j : Nat) : HC ((w.setCell ⟨g, i, none⟩ (iv (at_ l j))).setCell ⟨g, j, none⟩ (iv (at_ l i))) p g cap (swp l i j) :=
  (h.store i (at_ l j)).store j (at_ l i)
theorem HC.drew {w : World} {p g cap : Nat} {l : List Nat} (h : HC w p g cap l) (d : Nat) : HC (w.drewN d) p g cap l := ⟨h.ne, h.plt, h.glt, h.hd, h.hf, h.few, h.row⟩
/-- where neither of its blocks has turned -/
theorem HC.kept {w w' : World} {p g cap : Nat} {l : List Nat} (h : HC w p g cap l) {S : Nat → Prop} (ho : Oth S w w') (hp : ¬ S p) (hg : ¬ S g) : HC w' p g cap l := by
  have h1 := ho.block p h.plt hp
  have h2 := ho.block g h.glt hg
  refine ⟨h.ne, Nat.lt_of_lt_of_le h.plt ho.size, Nat.lt_of_lt_of_le h.glt ho.size, ?_, ?_, h.few, ?_⟩
  · rw [World.cell?_of_block (a := ⟨p, 0, none⟩) h1]; exact h.hd
  · rw [World.frozen?_of_block (a := ⟨p, 0, none⟩) h1]; exact h.hf
  · rw [h2]; exact h.row
set_option maxHeartbeats 4000000 in
theorem less_any {w : World} {p g cap : Nat} {l : List Nat} (h : HC w p g cap l) (i j : Nat) (hi : i < l.length) (hj : j < l.length) :
    Calls Try.prog 46 #[.slice (some ⟨g, 0, none⟩) l.length cap, .int .i64 (i : Int), .int .i64 (j : Int)] w fun e w' => e = .returned (.bool (decide ((at_ l i : Int) < (at_ l j : Int)))) ∧ ∃ d, w' = w.drewN d := by
  have ci := h.cell i hi; have cj := h.cell j hj
  obtain ⟨a, ha⟩ : ∃ a : Int, a = (at_ l i : Int) := ⟨_, rfl⟩
  obtain ⟨b, hb⟩ : ∃ b : Int, b = (at_ l j : Int) := ⟨_, rfl⟩
  unfold iv at ci cj
  rw [← ha] at ci; rw [← hb] at cj
  rw [← ha, ← hb]
  clear h ha hb
  go_enter Try.func46, Try.ntmps46
  go_wp2
  go_region
  all_goals
    go_wp2
    go_ret
    exact ⟨rfl, _, rfl⟩
set_option maxHeartbeats 4000000 in
theorem swap_any {w : World} {p g cap : Nat} {l : List Nat} (h : HC w p g cap l) (i j : Nat) (hi : i < l.length) (hj : j < l.length) :
    Calls Try.prog 49 #[.slice (some ⟨g, 0, none⟩) l.length cap, .int .i64 (i : Int), .int .i64 (j : Int)] w fun e w' => e = .returned (.tuple #[]) ∧ HC w' p g cap (swp l i j) ∧ Oth (· = g) w w' := by
  have ci := h.cell i hi; have cj := h.cell j hj
  have fi := h.free i; have fj := h.free j
  have HS := Lib.hid (h.swap i j)
  obtain ⟨a, ha⟩ : ∃ a : Int, a = (at_ l i : Int) := ⟨_, rfl⟩
  obtain ⟨b, hb⟩ : ∃ b : Int, b = (at_ l j : Int) := ⟨_, rfl⟩
  unfold iv at ci cj HS
  rw [← ha] at ci HS; rw [← hb] at cj HS
  clear h
  by_cases e : i = j
  · subst e
    obtain rfl : a = b := ha.trans hb.symm
    have c2 : (w.setCell ⟨g, i, none⟩ (.int .i64 a)).cell? ⟨g, i, none⟩ = some (.int .i64 a) := World.cell?_setCell_same w _ _ ci
    clear ha hb
    go_enter Try.func49, Try.ntmps49
    go_wp2
    go_region
    all_goals
      go_wp2
      refine bodyPost_end (results_none rfl _ _ _) rfl ?_
      exact ⟨rfl, HS.out.drew 1, (((Oth.refl (· = g) w).set ⟨g, i, none⟩ rfl _).set ⟨g, i, none⟩ rfl _).drew 1⟩
  · have c2 : (w.setCell ⟨g, i, none⟩ (.int .i64 b)).cell? ⟨g, j, none⟩ = some (.int .i64 b) := by
      rw [World.cell?_setCell_other w _ _ _ (by intro e2; injection e2 with _ e3 _; exact e e3), cj]
    have c3 : (w.setCell ⟨g, j, none⟩ (.int .i64 a)).cell? ⟨g, i, none⟩ = some (.int .i64 a) := by
      rw [World.cell?_setCell_other w _ _ _ (by intro e2; injection e2 with _ e3 _; exact e e3.symm), ci]
    have e' : ¬ j = i := fun h => e h.symm
    clear ha hb
    go_enter Try.func49, Try.ntmps49
    go_wp2
    go_region
    all_goals
      go_wp2
      refine bodyPost_end (results_none rfl _ _ _) rfl ?_
      exact ⟨rfl, HS.out.drew 1, (((Oth.refl (· = g) w).set ⟨g, i, none⟩ rfl _).set ⟨g, j, none⟩ rfl _).drew 1⟩
end Go.Proofs.Ytdgdeognahmpmaa
