/-
  The lexer tells a token.
-/
import Derived.Test.YtonajmngchfjeaaDoorLexA
import Derived.Deep.AppendLies
import Derived.Deep.RegionHeld3
import Derived.Deep.RegionLaw
namespace Go.Proofs.YtonajmngchfjeaaDoor
open Go.RowKit Word
open Lx (Tok)
attribute [local go_sem] setCell_drewN cell?_ext frozen?_ext shape?_ext setCell_ext lt_1' ne_1' en_1' le_1' lt_2' ne_2' en_2' le_2' lt_3' ne_3' en_3' le_3' lt_4' ne_4' en_4' le_4' lt_5' ne_5' en_5' le_5' lt_6' ne_6' en_6' le_6' lt_7' ne_7' en_7' le_7' lt_8' ne_8' en_8' le_8' lt_9' ne_9' en_9' le_9' lt_10' ne_10' en_10' le_10' lt_11' ne_11' en_11' le_11' lt_12' ne_12' en_12' le_12'

theorem infoTok : (Tryd.prog.info? 33).map (fun i => (i.zero, i.size, i.bytes)) = some (some (.agg #[.int .i64 0, .string ⟨#[]⟩, .bool false, .int .u64 0, .int .u64 0, .int .i64 0, .int .i64 0, .int .i64 0]), 8, 72) := by kernel_rfl
theorem two_blk (w : World) (A B : Obj) : ((w.alloc A).alloc B).heap[w.heap.size + 1]? = some B := by
  show ((w.heap.push A).push B)[w.heap.size + 1]? = _
  rw [show w.heap.size + 1 = (w.heap.push A).size by simp, Array.getElem?_push_size]
theorem two_old {w w1 : World} {A B : Obj} {r : Option Nat} {p : Nat} (h : ((w.alloc A).alloc B).drew.grownBy w1 r) (hp : p < w.heap.size) (hne : some p ≠ r) : w1.heap[p]? = w.heap[p]? := by
  have h1 := h.block p (by show p < ((w.heap.push A).push B).size; simp; omega) hne
  rw [h1]
  show ((w.heap.push A).push B)[p]? = w.heap[p]?
  rw [Array.getElem?_push, if_neg (by simp; omega), Array.getElem?_push, if_neg (by omega)]
theorem two_new {w w1 : World} {A B : Obj} {r : Option Nat} (h : ((w.alloc A).alloc B).drew.grownBy w1 r) (hne : some w.heap.size ≠ r) (j : Nat) : w1.cell? ⟨w.heap.size, j, none⟩ = (w.alloc A).cell? ⟨w.heap.size, j, none⟩ := by
  refine World.cell?_of_block (a := ⟨w.heap.size, j, none⟩) ?_
  have h1 := h.block w.heap.size (by show w.heap.size < ((w.heap.push A).push B).size; simp; omega) hne
  show w1.heap[w.heap.size]? = _
  rw [h1]
  show ((w.heap.push A).push B)[w.heap.size]? = (w.heap.push A)[w.heap.size]?
  rw [Array.getElem?_push, if_neg (by simp)]
theorem two_grown {w w1 : World} {A B : Obj} {r : Option Nat} (h : ((w.alloc A).alloc B).drew.grownBy w1 r) : w.grownBy w1 r := by
  have hs : w.heap.size ≤ ((w.alloc A).alloc B).drew.heap.size := by show _ ≤ ((w.heap.push A).push B).size; simp; omega
  exact ⟨h.os, h.tape, h.output, Nat.le_trans hs h.size, fun k hk hne => two_old h hk hne⟩
/-- a token has been told -/
theorem LxSt.told {W0 w w1 : World} {p : Nat} {s : ByteArray} {a b : Nat} {lv : Value} {ts : List Tok} {ov fr : Bool} {A B : Obj} {gg cap : Nat} (h : Rdr W0 w p s a b lv ts ov fr) (t : Tok)
    (hg : ((w.alloc A).alloc B).drew.grownBy w1 lv.ownBlock) (ho : w1.ownsRow W0.heap.size 33 8 (.slice (some ⟨gg, 0, none⟩) (ts.length + 1) cap) (ts.length + 1) (tkCs ts ++ tkC t)) :
    Rdr W0 (w1.setCell ⟨p, 3, none⟩ (.slice (some ⟨gg, 0, none⟩) (ts.length + 1) cap)) p s a b (.slice (some ⟨gg, 0, none⟩) (ts.length + 1) cap) (ts ++ [t]) ov fr := by
  have hg2 := two_grown hg
  have hne : some p ≠ lv.ownBlock := Ne.symm h.off
  have hp1 : w1.heap[p]? = w.heap[p]? := hg2.block p h.lt hne
  have hT : TB W0.heap.size (.slice (some ⟨gg, 0, none⟩) (ts.length + 1) cap) (ts ++ [t]) W0 w1 := by
    refine ⟨?_, h.buf.2.1.grown hg2 h.buf.2.2 (fun k hk => (h.buf.1.lt k hk).1), Nat.le_trans h.buf.2.2 hg2.size⟩
    rw [tkCs_snoc] at ho
    rw [List.length_append]
    exact ho
  have hty : ∃ cs fz, w1.heap[p]? = some (.cells cs 38 fz) := by rw [hp1]; exact h.ty
  have hoff := row_ne hT hty
  refine ⟨h.own, by rw [World.size_setCell]; exact Nat.lt_of_lt_of_le h.lt hg2.size, fun j hj => ?_, fun j hj => ?_, hT.store p 3 _ h.own hoff, hoff, ty_set hty 3 _⟩
  · by_cases e : j = 3
    · subst e
      rw [World.cell?_setCell_same w1 _ _ ((World.cell?_of_block (a := ⟨p, 3, none⟩) hp1).trans (h.cell 3 hj))]; rfl
    · rw [World.cell?_setCell_other w1 _ _ _ (by intro e2; injection e2 with _ e3 _; exact e e3.symm), World.cell?_of_block (a := ⟨p, j, none⟩) hp1, h.cell j hj]
      rcases (show j = 0 ∨ j = 1 ∨ j = 2 ∨ j = 4 ∨ j = 5 by omega) with rfl | rfl | rfl | rfl | rfl <;> rfl
  · rw [World.frozen?_setCell, World.frozen?_of_block (a := ⟨p, j, none⟩) hp1]; exact h.free j hj
set_option maxRecDepth 100000 in
set_option maxHeartbeats 8000000 in
theorem tell_any {W0 : World} {p : Nat} {s : ByteArray} {a b : Nat} {lv : Value} {ts : List Tok} {ov fr : Bool} (t : Tok) (hl : ts.length ≤ 2000) (w : World) (hR : Rdr W0 w p s a b lv ts ov fr) :
    Calls Tryd.prog 21 #[.pointer (some ⟨p, 0, none⟩), .agg #[.int .i64 t.kind, .string ⟨t.text.toArray⟩, .bool t.neg, .int .u64 (hi t.c : Int), .int .u64 (lo t.c : Int), .int .i64 t.s, .int .i64 t.day, .int .i64 0]] w
      fun e w' => e = .returned (.tuple #[]) ∧ ∃ lv', Rdr W0 w' p s a b lv' (ts ++ [{ t with at_ := b }]) ov fr := by
  have c2 := hR.c2; have c3 := hR.c3
  have f3 := hR.free 3 (by decide)
  have hlt := hR.lt
  have hsz := hR.buf.2.2
  have hown : w.ownsRow W0.heap.size 33 8 lv ts.length (tkCs ts) := hR.buf.1
  have hoff : ∀ k, lv.ownBlock = some k → k < w.heap.size := fun k hk => (hown.lt k hk).2
  have ag : lv.ownBlock ≠ some p := hR.off
  have aw : lv.ownBlock ≠ some w.heap.size := fun e => absurd (hoff _ e) (by omega)
  have HR := Lib.hid hR
  have HO := Lib.hid hown
  clear hR hown hoff
  obtain ⟨i0, hi0, hz0, hz1, hz2⟩ := info_parts infoTok
  have HAW := Lib.hid aw; have HAG := Lib.hid ag
  clear aw ag
  go_enter Tryd.func21, Tryd.ntmps21
  go_wp2_with fail
  go_region_law
   (refine step_append_lies _ rfl (.tmp 13) (.tmp 15) 24 rfl W0.heap.size 33 i0 _ 8 72 Tryd.underlying24 hi0 hz0 hz1 hz2 rfl (by omega) lv ts.length (tkCs ts) (by simp [Act.eval]) ((HO.out.alloc _).drew.alloc _)
      (Addr.mk (w.heap.size + 1) 0 none) 1 1 (tkC { t with at_ := b }) (by simp [Act.eval]) (by rfl) (World.news_of_block (cs := (tkC { t with at_ := b }).toArray) (t := 33) (fr := (0, 0)) (two_blk w _ _)) (by simp [tkC, Value.oneCell'])
      (by omega) (by unfold maxLen; omega) (by omega) (by simp; omega) (w.heap.size + 2) (by simp) ?_; intro gg cap w1 hown1 hgrow hat hlt1; have hp1 := two_old hgrow hlt (Ne.symm HAG.out); have x3 := (World.cell?_of_block (a := Addr.mk p 3 none) hp1).trans c3; have y3 := (World.frozen?_of_block (a := Addr.mk p 3 none) hp1).trans f3)
  all_goals
    go_wp2
    refine bodyPost_end (results_none rfl _ _ _) rfl ?_
    exact ⟨rfl, _, HR.out.told { t with at_ := b } hgrow hown1⟩
end Go.Proofs.YtonajmngchfjeaaDoor
