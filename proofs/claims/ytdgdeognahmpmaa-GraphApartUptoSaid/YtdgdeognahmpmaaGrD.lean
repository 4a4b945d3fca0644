/-
  The heap's own Push and Pop; container/heap's Push and Pop.
-/
import Derived.Test.YtdgdeognahmpmaaGrC
import Derived.Deep.AppendLies
import Derived.Deep.RegionHeld3
import Derived.Deep.RegionLaw
namespace Go.Proofs.Ytdgdeognahmpmaa
open Go.RowKit
open Hp (at_ swp)
attribute [local go_sem] setCell_drewN cell?_ext frozen?_ext shape?_ext setCell_ext lt_1' ne_1' en_1' le_1' lt_2' ne_2' en_2' le_2' lt_3' ne_3' en_3' le_3' lt_4' ne_4' en_4' le_4' lt_5' ne_5' en_5' le_5' lt_6' ne_6' en_6' le_6' lt_7' ne_7' en_7' le_7' lt_8' ne_8' en_8' le_8' lt_9' ne_9' en_9' le_9' lt_10' ne_10' en_10' le_10' lt_11' ne_11' en_11' le_11' lt_12' ne_12' en_12' le_12'

theorem infoIntG : (Try.prog.info? 3).map (fun i => (i.zero, i.size, i.bytes)) = some (some (.int .i64 0), 1, 8) := by kernel_rfl
theorem HC.owns {w : World} {p g cap : Nat} {l : List Nat} (h : HC w p g cap l) : w.ownsRow 0 3 1 (.slice (some ⟨g, 0, none⟩) l.length cap) l.length (l.map iv) := by
  obtain ⟨cur, h1, h2, h3, h4, h5⟩ := h.row
  exact ⟨by simp, .inr ⟨g, cap, cur, rfl, Nat.zero_le _, h1, h2, h3, by rw [h4, Nat.mul_one], by rw [Nat.mul_one]; exact h5⟩⟩
theorem one_blk (w : World) (A : Obj) : (w.alloc A).heap[w.heap.size]? = some A := by
  show (w.heap.push A)[w.heap.size]? = some A
  rw [Array.getElem?_push_size]
theorem unbox_int (z : Int) (w : World) : (Instr.typeAssert (.iface 3 (.int .i64 z)) 20 3 false).run Try.prog w = .ok (.int .i64 z) w := by kernel_rfl
theorem grown_old {w w1 : World} {A : Obj} {g : Nat} (hg : (w.drew.alloc A).grownBy w1 (some g)) : Oth (· = g) w w1 := by
  have hs : w.heap.size ≤ (w.drew.alloc A).heap.size := by show _ ≤ (w.heap.push A).size; simp
  refine ⟨hg.os, hg.tape, hg.output, Nat.le_trans hs hg.size, fun k hk hne => ?_⟩
  rw [hg.block k (Nat.lt_of_lt_of_le hk hs) (fun e => hne (Option.some.inj e))]
  show (w.heap.push A)[k]? = w.heap[k]?
  rw [Array.getElem?_push, if_neg (by omega)]
theorem HC.pushed {w w1 : World} {p g cap gg cap' x : Nat} {l : List Nat} {A : Obj} (h : HC w p g cap l) (hl : l.length < 1000) (hg : (w.drew.alloc A).grownBy w1 (some g))
    (ho : w1.ownsRow 0 3 1 (.slice (some ⟨gg, 0, none⟩) (l.length + 1) cap') (l.length + 1) (l.map iv ++ [iv x])) (hgg : some g = some gg ∨ gg = w.heap.size + 1) :
    HC (w1.setCell ⟨p, 0, none⟩ (.slice (some ⟨gg, 0, none⟩) (l.length + 1) cap')) p gg cap' (l ++ [x]) ∧ (gg = g ∨ w.heap.size ≤ gg) ∧ Oth (fun k => k = p ∨ k = g) w (w1.setCell ⟨p, 0, none⟩ (.slice (some ⟨gg, 0, none⟩) (l.length + 1) cap')) := by
  have hO := grown_old hg
  have hpb := hO.block p h.plt (Ne.symm h.ne)
  have hgg2 : gg = g ∨ w.heap.size ≤ gg := by
    rcases hgg with e | e
    · exact .inl (Option.some.inj e).symm
    · exact .inr (by omega)
  have hgp : gg ≠ p := by
    have := h.plt; have := h.ne
    rcases hgg2 with e | e
    · rw [e]; exact h.ne
    · omega
  have hlt := (ho.lt gg rfl).2
  obtain ⟨h1, h2⟩ := ho
  rcases h2 with ⟨e, _⟩ | ⟨g', cap2, cur, e, _, hb, hc, hm, hz, ht⟩
  · cases e
  · injection e with e1 e2 e3
    injection e1 with e4
    injection e4 with e5 _ _
    subst e5; subst e3
    refine ⟨⟨hgp, by rw [World.size_setCell]; exact Nat.lt_of_lt_of_le h.plt hO.size, by rw [World.size_setCell]; exact hlt, ?_, ?_, by rw [List.length_append]; simp; omega, cur, ?_, by rw [List.length_append]; exact hc, hm, by rw [hz, Nat.mul_one], ?_⟩, hgg2, ?_⟩
    · rw [World.cell?_setCell_same w1 _ _ ((World.cell?_of_block (a := ⟨p, 0, none⟩) hpb).trans h.hd), List.length_append]; rfl
    · rw [World.frozen?_setCell, World.frozen?_of_block (a := ⟨p, 0, none⟩) hpb]; exact h.hf
    · rw [Below.heap_setCell _ _ _ _ hgp, hb]
    · rw [List.length_append, List.map_append]
      rw [Nat.mul_one] at ht
      exact ht
    · exact (hO.mono (fun k _ e => .inr e)).set ⟨p, 0, none⟩ (.inl rfl) _
set_option maxRecDepth 100000 in
set_option maxHeartbeats 8000000 in
theorem pushM_any {w : World} {p g cap : Nat} {l : List Nat} (h : HC w p g cap l) (x : Nat) (hl : l.length < 1000) :
    Calls Try.prog 48 #[.pointer (some ⟨p, 0, none⟩), .iface 3 (.int .i64 (x : Int))] w fun e w' => e = .returned (.tuple #[]) ∧ ∃ g' cap', HC w' p g' cap' (l ++ [x]) ∧ (g' = g ∨ w.heap.size ≤ g') ∧ Oth (fun k => k = p ∨ k = g) w w' := by
  have c0 := h.hd
  have f0 := h.hf
  have hplt := h.plt
  have hglt := h.glt
  have hne := h.ne
  have HO := Lib.hid h.owns
  have HH := Lib.hid h
  clear h
  have hta := unbox_int (x : Int)
  obtain ⟨i0, hi0, hz0, hz1, hz2⟩ := info_parts infoIntG
  go_enter Try.func48, Try.ntmps48
  go_wp2_with fail
  go_region_law
   (refine step_append_lies _ rfl (.tmp 7) (.tmp 10) 41 rfl 0 3 i0 _ 1 8 Try.underlying41 hi0 hz0 hz1 hz2 rfl (by omega) (.slice (some ⟨g, 0, none⟩) l.length cap) l.length (l.map iv) (by simp [Act.eval]) (HO.out.drew.alloc _)
      (Addr.mk w.heap.size 0 none) 1 1 [iv x] (by simp [Act.eval]) (by rfl) (World.news_of_block (cs := #[iv x]) (t := 3) (fr := (0, 0)) (one_blk w _)) (by simp [Value.oneCell'])
      (by omega) (by unfold maxLen; omega) (by omega) (by simp) (w.heap.size + 1) (by simp) ?_; intro gg cap' w1 hown1 hgrow hat hlt1; have hp1 := (grown_old hgrow).block p hplt (Ne.symm hne); have x3 := (World.cell?_of_block (a := Addr.mk p 0 none) hp1).trans c0; have y3 := (World.frozen?_of_block (a := Addr.mk p 0 none) hp1).trans f0)
  all_goals
    go_wp2
    refine bodyPost_end (results_none rfl _ _ _) rfl ?_
    exact ⟨rfl, gg, cap', HH.out.pushed hl hgrow hown1 hat⟩
end Go.Proofs.Ytdgdeognahmpmaa
