/-
  A world with more blocks, and what the walk asks of its addresses.
-/
import Derived.Test.YtalahkincccffaaGreatDoorRows
import Derived.WalkKit
import Derived.Handy
import Derived.Deep.RegionWith
import Derived.Deep.RegionHeld3
import Derived.Deep.QuietTactic
import Derived.BigQuiet
import Derived.Deep.Draws
import Derived.Lib.Hide
import Derived.WalkSpells
import Derived.IntWalk
import Derived.Deep.DeepFit
namespace Go.Proofs.YtalahkincccffaaGreatDoor
open Go.RowKit

theorem setCell_drewN (w : World) (n : Nat) (a : Addr) (v : Value) : (w.drewN n).setCell a v = (w.setCell a v).drewN n := rfl
theorem below_drewN {B : Nat} {a w : World} (h : Below B a w) (n : Nat) : Below B a (w.drewN n) := ⟨h.os, h.tape, h.output, h.size, h.block⟩
theorem below_drew {B : Nat} {a w : World} (h : Below B a w) : Below B a w.drew := ⟨h.os, h.tape, h.output, h.size, h.block⟩
theorem bcell {w w1 : World} (hb : Below w.heap.size w w1) : (∀ b o, b < w.heap.size → w1.cell? ⟨b, o, none⟩ = w.cell? ⟨b, o, none⟩) ∧ (∀ b o, b < w.heap.size → w1.frozen? ⟨b, o, none⟩ = w.frozen? ⟨b, o, none⟩) :=
  ⟨fun b o h => hb.cell (p := ⟨b, o, none⟩) h, fun b o h => hb.frozen (p := ⟨b, o, none⟩) h⟩

def ext (w : World) (os : Array Obj) (d : Nat) : World := { heap := w.heap ++ os, tape := w.tape, drawn := d, os := w.os, output := w.output }
theorem ext_of_below {w w' : World} (h : Below w.heap.size w w') : ∃ os d, w' = ext w os d := by
  obtain ⟨hos, htape, hout, hsz, hblk⟩ := h
  refine ⟨w'.heap.extract w.heap.size w'.heap.size, w'.drawn, ?_⟩
  have hh : w'.heap = w.heap ++ w'.heap.extract w.heap.size w'.heap.size := by
    apply Array.ext_getElem?
    intro k
    rw [Array.getElem?_append]
    by_cases hk : k < w.heap.size
    · rw [if_pos hk, hblk k hk]
    · rw [if_neg hk, Array.getElem?_extract]
      by_cases hk2 : k - w.heap.size < min w'.heap.size w'.heap.size - w.heap.size
      · rw [if_pos hk2]; congr 1; omega
      · rw [if_neg hk2, Array.getElem?_eq_none (by omega)]
  cases w'
  simp only [ext] at *
  subst hos htape hout
  rw [← hh]
@[simp, go_sem] theorem ext_size (w : World) (os : Array Obj) (d : Nat) : (ext w os d).heap.size = w.heap.size + os.size := by simp [ext]
theorem heap_ext (w : World) (os : Array Obj) (d : Nat) {n : Nat} (hn : n < w.heap.size) : (ext w os d).heap[n]? = w.heap[n]? := by simp [ext, Array.getElem?_append, hn]
theorem cell?_ext (w : World) (os : Array Obj) (d : Nat) (n i : Nat) (hn : n < w.heap.size) : (ext w os d).cell? ⟨n, i, none⟩ = w.cell? ⟨n, i, none⟩ := World.cell?_of_block (heap_ext w os d hn)
theorem frozen?_ext (w : World) (os : Array Obj) (d : Nat) (n i : Nat) (hn : n < w.heap.size) : (ext w os d).frozen? ⟨n, i, none⟩ = w.frozen? ⟨n, i, none⟩ := World.frozen?_of_block (heap_ext w os d hn)
theorem shape?_ext (w : World) (os : Array Obj) (d : Nat) (n : Nat) (hn : n < w.heap.size) : (ext w os d).shape? n = w.shape? n := by simp only [World.shape?, heap_ext w os d hn]
theorem setCell_ext (w : World) (os : Array Obj) (d : Nat) (n i : Nat) (v : Value) (hn : n < w.heap.size) : (ext w os d).setCell ⟨n, i, none⟩ v = ext (w.setCell ⟨n, i, none⟩ v) os d := by
  unfold ext World.setCell
  congr 1
  apply Array.ext_getElem?
  intro k
  simp only [Array.getElem?_modify, Array.getElem?_append, Array.size_modify]
  by_cases hk : k = n
  · subst hk; simp [hn]
  · have : n ≠ k := fun e => hk e.symm
    simp [this]
theorem below_ext {B : Nat} {a w : World} (h : Below B a w) (hB : B ≤ w.heap.size) (os : Array Obj) (d : Nat) : Below B a (ext w os d) :=
  h.trans ⟨rfl, rfl, rfl, by rw [ext_size]; omega, fun _ hk => heap_ext w os d (Nat.lt_of_lt_of_le hk hB)⟩
theorem lt_1' (a k1 : Nat) : a < a + 1 + k1 := by omega
theorem ne_1' (a k1 : Nat) : (a = a + 1 + k1) = False := by simp; omega
theorem en_1' (a k1 : Nat) : (a + 1 + k1 = a) = False := by simp; omega
theorem le_1' (a k1 : Nat) : a ≤ a + k1 := by omega
theorem lt_2' (a k1 k2 : Nat) : a < a + 1 + k1 + k2 := by omega
theorem ne_2' (a k1 k2 : Nat) : (a = a + 1 + k1 + k2) = False := by simp; omega
theorem en_2' (a k1 k2 : Nat) : (a + 1 + k1 + k2 = a) = False := by simp; omega
theorem le_2' (a k1 k2 : Nat) : a ≤ a + k1 + k2 := by omega
theorem lt_3' (a k1 k2 k3 : Nat) : a < a + 1 + k1 + k2 + k3 := by omega
theorem ne_3' (a k1 k2 k3 : Nat) : (a = a + 1 + k1 + k2 + k3) = False := by simp; omega
theorem en_3' (a k1 k2 k3 : Nat) : (a + 1 + k1 + k2 + k3 = a) = False := by simp; omega
theorem le_3' (a k1 k2 k3 : Nat) : a ≤ a + k1 + k2 + k3 := by omega
theorem lt_4' (a k1 k2 k3 k4 : Nat) : a < a + 1 + k1 + k2 + k3 + k4 := by omega
theorem ne_4' (a k1 k2 k3 k4 : Nat) : (a = a + 1 + k1 + k2 + k3 + k4) = False := by simp; omega
theorem en_4' (a k1 k2 k3 k4 : Nat) : (a + 1 + k1 + k2 + k3 + k4 = a) = False := by simp; omega
theorem le_4' (a k1 k2 k3 k4 : Nat) : a ≤ a + k1 + k2 + k3 + k4 := by omega
theorem lt_5' (a k1 k2 k3 k4 k5 : Nat) : a < a + 1 + k1 + k2 + k3 + k4 + k5 := by omega
theorem ne_5' (a k1 k2 k3 k4 k5 : Nat) : (a = a + 1 + k1 + k2 + k3 + k4 + k5) = False := by simp; omega
theorem en_5' (a k1 k2 k3 k4 k5 : Nat) : (a + 1 + k1 + k2 + k3 + k4 + k5 = a) = False := by simp; omega
theorem le_5' (a k1 k2 k3 k4 k5 : Nat) : a ≤ a + k1 + k2 + k3 + k4 + k5 := by omega
theorem lt_6' (a k1 k2 k3 k4 k5 k6 : Nat) : a < a + 1 + k1 + k2 + k3 + k4 + k5 + k6 := by omega
theorem ne_6' (a k1 k2 k3 k4 k5 k6 : Nat) : (a = a + 1 + k1 + k2 + k3 + k4 + k5 + k6) = False := by simp; omega
theorem en_6' (a k1 k2 k3 k4 k5 k6 : Nat) : (a + 1 + k1 + k2 + k3 + k4 + k5 + k6 = a) = False := by simp; omega
theorem le_6' (a k1 k2 k3 k4 k5 k6 : Nat) : a ≤ a + k1 + k2 + k3 + k4 + k5 + k6 := by omega
theorem lt_7' (a k1 k2 k3 k4 k5 k6 k7 : Nat) : a < a + 1 + k1 + k2 + k3 + k4 + k5 + k6 + k7 := by omega
theorem ne_7' (a k1 k2 k3 k4 k5 k6 k7 : Nat) : (a = a + 1 + k1 + k2 + k3 + k4 + k5 + k6 + k7) = False := by simp; omega
theorem en_7' (a k1 k2 k3 k4 k5 k6 k7 : Nat) : (a + 1 + k1 + k2 + k3 + k4 + k5 + k6 + k7 = a) = False := by simp; omega
theorem le_7' (a k1 k2 k3 k4 k5 k6 k7 : Nat) : a ≤ a + k1 + k2 + k3 + k4 + k5 + k6 + k7 := by omega
theorem lt_8' (a k1 k2 k3 k4 k5 k6 k7 k8 : Nat) : a < a + 1 + k1 + k2 + k3 + k4 + k5 + k6 + k7 + k8 := by omega
theorem ne_8' (a k1 k2 k3 k4 k5 k6 k7 k8 : Nat) : (a = a + 1 + k1 + k2 + k3 + k4 + k5 + k6 + k7 + k8) = False := by simp; omega
theorem en_8' (a k1 k2 k3 k4 k5 k6 k7 k8 : Nat) : (a + 1 + k1 + k2 + k3 + k4 + k5 + k6 + k7 + k8 = a) = False := by simp; omega
theorem le_8' (a k1 k2 k3 k4 k5 k6 k7 k8 : Nat) : a ≤ a + k1 + k2 + k3 + k4 + k5 + k6 + k7 + k8 := by omega
theorem lt_9' (a k1 k2 k3 k4 k5 k6 k7 k8 k9 : Nat) : a < a + 1 + k1 + k2 + k3 + k4 + k5 + k6 + k7 + k8 + k9 := by omega
theorem ne_9' (a k1 k2 k3 k4 k5 k6 k7 k8 k9 : Nat) : (a = a + 1 + k1 + k2 + k3 + k4 + k5 + k6 + k7 + k8 + k9) = False := by simp; omega
theorem en_9' (a k1 k2 k3 k4 k5 k6 k7 k8 k9 : Nat) : (a + 1 + k1 + k2 + k3 + k4 + k5 + k6 + k7 + k8 + k9 = a) = False := by simp; omega
theorem le_9' (a k1 k2 k3 k4 k5 k6 k7 k8 k9 : Nat) : a ≤ a + k1 + k2 + k3 + k4 + k5 + k6 + k7 + k8 + k9 := by omega
theorem lt_10' (a k1 k2 k3 k4 k5 k6 k7 k8 k9 k10 : Nat) : a < a + 1 + k1 + k2 + k3 + k4 + k5 + k6 + k7 + k8 + k9 + k10 := by omega
theorem ne_10' (a k1 k2 k3 k4 k5 k6 k7 k8 k9 k10 : Nat) : (a = a + 1 + k1 + k2 + k3 + k4 + k5 + k6 + k7 + k8 + k9 + k10) = False := by simp; omega
theorem en_10' (a k1 k2 k3 k4 k5 k6 k7 k8 k9 k10 : Nat) : (a + 1 + k1 + k2 + k3 + k4 + k5 + k6 + k7 + k8 + k9 + k10 = a) = False := by simp; omega
theorem le_10' (a k1 k2 k3 k4 k5 k6 k7 k8 k9 k10 : Nat) : a ≤ a + k1 + k2 + k3 + k4 + k5 + k6 + k7 + k8 + k9 + k10 := by omega
theorem lt_11' (a k1 k2 k3 k4 k5 k6 k7 k8 k9 k10 k11 : Nat) : a < a + 1 + k1 + k2 + k3 + k4 + k5 + k6 + k7 + k8 + k9 + k10 + k11 := by omega
theorem ne_11' (a k1 k2 k3 k4 k5 k6 k7 k8 k9 k10 k11 : Nat) : (a = a + 1 + k1 + k2 + k3 + k4 + k5 + k6 + k7 + k8 + k9 + k10 + k11) = False := by simp; omega
theorem en_11' (a k1 k2 k3 k4 k5 k6 k7 k8 k9 k10 k11 : Nat) : (a + 1 + k1 + k2 + k3 + k4 + k5 + k6 + k7 + k8 + k9 + k10 + k11 = a) = False := by simp; omega
theorem le_11' (a k1 k2 k3 k4 k5 k6 k7 k8 k9 k10 k11 : Nat) : a ≤ a + k1 + k2 + k3 + k4 + k5 + k6 + k7 + k8 + k9 + k10 + k11 := by omega
theorem lt_12' (a k1 k2 k3 k4 k5 k6 k7 k8 k9 k10 k11 k12 : Nat) : a < a + 1 + k1 + k2 + k3 + k4 + k5 + k6 + k7 + k8 + k9 + k10 + k11 + k12 := by omega
theorem ne_12' (a k1 k2 k3 k4 k5 k6 k7 k8 k9 k10 k11 k12 : Nat) : (a = a + 1 + k1 + k2 + k3 + k4 + k5 + k6 + k7 + k8 + k9 + k10 + k11 + k12) = False := by simp; omega
theorem en_12' (a k1 k2 k3 k4 k5 k6 k7 k8 k9 k10 k11 k12 : Nat) : (a + 1 + k1 + k2 + k3 + k4 + k5 + k6 + k7 + k8 + k9 + k10 + k11 + k12 = a) = False := by simp; omega
theorem le_12' (a k1 k2 k3 k4 k5 k6 k7 k8 k9 k10 k11 k12 : Nat) : a ≤ a + k1 + k2 + k3 + k4 + k5 + k6 + k7 + k8 + k9 + k10 + k11 + k12 := by omega

end Go.Proofs.YtalahkincccffaaGreatDoor
