/-
  The document's DocTrim.
-/
import Derived.Test.YtnaajhhdpcdakaaGreatDoorRefP
import Derived.Test.YtnaajhhdpcdakaaGreatDoorTens
namespace Go.Proofs.YtnaajhhdpcdakaaGreatDoor
open Go.RowKit Num Word
attribute [local go_sem] setCell_drewN cell?_ext frozen?_ext shape?_ext setCell_ext lt_1' ne_1' en_1' le_1' lt_2' ne_2' en_2' le_2' lt_3' ne_3' en_3' le_3' lt_4' ne_4' en_4' le_4' lt_5' ne_5' en_5' le_5' lt_6' ne_6' en_6' le_6' lt_7' ne_7' en_7' le_7' lt_8' ne_8' en_8' le_8' lt_9' ne_9' en_9' le_9' lt_10' ne_10' en_10' le_10' lt_11' ne_11' en_11' le_11' lt_12' ne_12' en_12' le_12'

theorem RdP.drop {P : Nat → Prop} {w : World} {g off cap : Nat} {l : List Nat} (hcap : l.length ≤ cap) (hg : g < w.heap.size) (hp : P g) (hx : ∀ j (hj : j < l.length), w.cell? ⟨g, off + j, none⟩ = some (.int .i64 (l[j] : Int))) (k : Nat) (hk : k ≤ l.length) :
    RdP P w (.slice (some ⟨g, off + k, none⟩) (l.length - k) (cap - k)) (l.drop k) := by
  refine .inr ⟨g, off + k, cap - k, by rw [List.length_drop], by rw [List.length_drop]; omega, hg, hp, fun j hj => ?_⟩
  rw [List.length_drop] at hj
  rw [Nat.add_assoc, hx (k + j) (by omega), List.getElem_drop]
theorem slice_rest (g off len cap k : Nat) (hk : k ≤ len) (hkc : k < cap) (w : World) :
    (Instr.slice 36 (.slice (some ⟨g, off, none⟩) len cap) (some (.int .i64 (k : Int))) none none).run Tryz.prog w = .ok (.slice (some ⟨g, off + k, none⟩) (len - k) (cap - k)) w := by
  have h := run_slice_l (P := Tryz.prog) w 36 (some ⟨g, off, none⟩) len cap (by kernel_rfl) .i64 (k : Int) (by omega) (by omega)
  rw [h, show Tryz.prog.elem 36 = 3 by kernel_rfl]
  have hne : ¬ cap = k := by omega
  simp [go_sem, sliced, hne]
theorem zero_digit {a t K j : Nat} (h : a = t * 10 ^ K) (hj : j < K) : a / 10 ^ j % 10 = 0 := by
  obtain ⟨i, rfl⟩ : ∃ i, K = j + 1 + i := ⟨K - (j + 1), by omega⟩
  have e : a = (t * 10 ^ i * 10) * 10 ^ j := by
    rw [h]
    simp only [Nat.pow_add, Nat.pow_one, Nat.mul_assoc, Nat.mul_comm, Nat.mul_left_comm]
  rw [e, Nat.mul_div_cancel _ (Nat.pow_pos (by decide)), Nat.mul_mod_left]
theorem last_digit {a t K : Nat} (h : a = t * 10 ^ K) : a / 10 ^ K = t := by
  rw [h, Nat.mul_div_cancel _ (Nat.pow_pos (by decide))]
end Go.Proofs.YtnaajhhdpcdakaaGreatDoor
