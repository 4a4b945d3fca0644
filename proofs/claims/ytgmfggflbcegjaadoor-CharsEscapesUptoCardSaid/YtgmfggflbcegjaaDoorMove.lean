/-
  Contracts of Upper and Lower on both sides: a copy of the text whose letters are moved one by one.
-/
import Derived.Test.YtgmfggflbcegjaaDoorParts
import Derived.Lib.ConvBytes
namespace Go.Proofs.YtgmfggflbcegjaaDoor
open Go.RowKit Txt
attribute [local go_sem] setCell_drewN cell?_ext frozen?_ext shape?_ext setCell_ext lt_1' ne_1' en_1' le_1' lt_2' ne_2' en_2' le_2' lt_3' ne_3' en_3' le_3' lt_4' ne_4' en_4' le_4' lt_5' ne_5' en_5' le_5' lt_6' ne_6' en_6' le_6' lt_7' ne_7' en_7' le_7' lt_8' ne_8' en_8' le_8' lt_9' ne_9' en_9' le_9' lt_10' ne_10' en_10' le_10' lt_11' ne_11' en_11' le_11' lt_12' ne_12' en_12' le_12'

/-- a row of the call's own holds these bytes -/
structure MRow (W0 w : World) (g n : Nat) (f : Nat → Nat) : Prop where
  own : W0.heap.size ≤ g
  below : Below W0.heap.size W0 w
  cell : ∀ j, j < n → w.cell? ⟨g, j, none⟩ = some (.int .u8 (f j : Int))
  free : ∀ j, j < n → w.frozen? ⟨g, j, none⟩ = false
/-- the bytes of a text -/
def byteAt (s : ByteArray) (j : Nat) : Nat := (s.data.toList.getD j 0).toNat
theorem MRow.start {W0 W : World} (hb : Below W0.heap.size W0 W) (s : ByteArray) : MRow W0 (Lib.bytesWorld W 5 s) W.heap.size s.size (byteAt s) := by
  refine ⟨hb.size, ?_, fun j hj => Lib.bytesWorld_cell W 5 s j hj, fun j hj => ?_⟩
  · refine hb.trans ⟨rfl, rfl, rfl, by rw [Lib.bytesWorld_size]; have := hb.size; omega, fun k hk => Lib.bytesWorld_at_old W 5 s k (Nat.lt_of_lt_of_le hk hb.size)⟩
  · unfold World.frozen?
    rw [Lib.bytesWorld_at_new]
    have : s.size ≤ (Lib.bytesCells W 5 s).size := by simp [Lib.bytesCells]
    simp only [Bool.and_eq_false_iff, decide_eq_false_iff_not]
    exact .inl (by omega)
theorem MRow.store {W0 w : World} {g n : Nat} {f : Nat → Nat} (h : MRow W0 w g n f) (k v : Nat) (hk : k < n) : MRow W0 (w.setCell ⟨g, k, none⟩ (.int .u8 (v : Int))) g n (fun j => if j = k then v else f j) := by
  refine ⟨h.own, h.below.setCell (p := ⟨g, k, none⟩) h.own _, fun j hj => ?_, fun j hj => by rw [World.frozen?_setCell]; exact h.free j hj⟩
  by_cases e : j = k
  · subst e
    rw [World.cell?_setCell_same w _ _ (h.cell j hj)]
    simp
  · rw [World.cell?_setCell_other w _ _ _ (by intro e2; injection e2 with _ e3 _; exact e e3.symm), h.cell j hj]
    simp [e]
theorem MRow.congr {W0 w : World} {g n : Nat} {f f' : Nat → Nat} (h : MRow W0 w g n f) (he : ∀ j, j < n → f j = f' j) : MRow W0 w g n f' :=
  ⟨h.own, h.below, fun j hj => by rw [h.cell j hj, he j hj], h.free⟩
theorem MRow.conv {W0 w : World} {g n cap : Nat} {f : Nat → Nat} (h : MRow W0 w g n f) (l : List UInt8) (hl : l.length = n) (hf : ∀ j (hj : j < l.length), f j = l[j].toNat) :
    (convert 57 9 (.slice (some ⟨g, 0, none⟩) n cap)).run Tryd.prog w = .ok (.string (mkb l)) w := by
  subst hl
  refine run_convert_bytes_back w 57 9 5 ⟨g, 0, none⟩ cap l Tryd.underlying57 Tryd.underlying5 Tryd.underlying9 (fun j hj => ?_)
  have := h.cell j hj
  rw [hf j hj] at this
  by_cases hj0 : j = 0
  · subst hj0; simpa [Addr.add] using this
  · simpa [Addr.add, hj0] using this
/-- a letter moved -/
def mvN (o n x : Nat) : Nat := if o ≤ x ∧ x < o + 26 then x - o + n else x
def mvL (o n : Nat) (l : List UInt8) : List UInt8 := l.map fun c => UInt8.ofNat (mvN o n c.toNat)
def part (s : ByteArray) (o n k : Nat) (j : Nat) : Nat := if j < k then mvN o n (byteAt s j) else byteAt s j
theorem part_step (s : ByteArray) (o n k : Nat) (j : Nat) : (if j = k then mvN o n (byteAt s k) else part s o n k j) = part s o n (k + 1) j := by
  unfold part
  by_cases e : j = k
  · subst e; rw [if_pos rfl, if_pos (by omega)]
  · rw [if_neg e]
    by_cases h : j < k
    · rw [if_pos h, if_pos (by omega)]
    · rw [if_neg h, if_neg (by omega)]
theorem byteAt_lt (s : ByteArray) (j : Nat) : byteAt s j < 256 := UInt8.toNat_lt _
theorem part_end_list (s : ByteArray) (o n : Nat) (hon : o + 26 ≤ 256 ∧ n + 26 ≤ 256) : (mvL o n s.data.toList).length = s.size ∧ ∀ j (hj : j < (mvL o n s.data.toList).length), part s o n s.size j = ((mvL o n s.data.toList)[j]).toNat := by
  have hl : (mvL o n s.data.toList).length = s.size := by simp [mvL]
  refine ⟨hl, fun j hj => ?_⟩
  have hj' : j < s.size := by omega
  have hj2 : j < s.data.toList.length := by simpa using hj'
  unfold part
  rw [if_pos hj']
  have hb : byteAt s j = (s.data.toList[j]).toNat := by unfold byteAt; rw [List.getD_eq_getElem?_getD, List.getElem?_eq_getElem hj2]; rfl
  have hlt := UInt8.toNat_lt (s.data.toList[j])
  simp only [mvL, List.getElem_map]
  rw [hb, UInt8.toNat_ofNat']
  unfold mvN
  split <;> omega
theorem conv_to (s : ByteArray) : ∀ W, (convert 9 57 (.string s)).run Tryd.prog W = .ok (.slice (some ⟨W.heap.size, 0, none⟩) s.size (grownCap W s.size 0 5)) (Lib.bytesWorld W 5 s) :=
  fun W => Lib.run_convert_string_bytes W 9 57 5 s Tryd.underlying9 Tryd.underlying57 Tryd.underlying5
end Go.Proofs.YtgmfggflbcegjaaDoor
