/-
  Needs of small bulk.
-/
import Derived.Test.YtdgdeognahmpmaaGrLd
import Derived.Test.YtdgdeognahmpmaaRows
namespace Go.Proofs.Ytdgdeognahmpmaa
open Go.ChangeShapes Go.WideShapes Go.ChangeAt Go.RowKit

theorem gbulk_mem {H : Type} {d : DataW H} : ∀ {l : List (DataW H)}, d ∈ l → Rows.uptoBulk d ≤ Rows.uptoBulkAll l
  | e :: r, h => by
    show _ ≤ Rows.uptoBulk e + Rows.uptoBulkAll r
    rcases List.mem_cons.1 h with rfl | h
    · omega
    · have := gbulk_mem h; omega
theorem gbulk_pos {H : Type} (d : DataW H) : 0 < Rows.uptoBulk d := by
  cases d with
  | lit l => cases l <;> simp [Rows.uptoBulk]
  | _ => simp [Rows.uptoBulk]
theorem gbulk_len {H : Type} : ∀ l : List (DataW H), l.length ≤ Rows.uptoBulkAll l
  | [] => Nat.le_refl _
  | e :: r => by
    show r.length + 1 ≤ Rows.uptoBulk e + Rows.uptoBulkAll r
    have := gbulk_len r; have := gbulk_pos e; omega
theorem gbulk_one {H : Type} {ds : List (DataW H)} (h : Rows.uptoSmall H ds = true) {d : DataW H} (hd : d ∈ ds) : Rows.uptoBulk d ≤ 1048576 := by
  have h1 : Rows.uptoBulkAll ds ≤ 1048576 := of_decide_eq_true h
  exact Nat.le_trans (gbulk_mem hd) h1
theorem bulk_row {H : Type} (k : IntKind) (A : Option Addr) (n : Nat) (zs : List Int) (hA : A = none → n = 0) (hn : n ≤ zs.length) : n ≤ Rows.uptoBulk (Deep.intRow (H := H) k A n zs) := by
  cases A with
  | none => rw [hA rfl]; exact Nat.zero_le _
  | some a =>
    unfold Deep.intRow
    have h1 := gbulk_len (lits (H := H) k (zs.take n))
    rw [show (lits (H := H) k (zs.take n)).length = n by simp [lits]; omega] at h1
    refine Nat.le_trans h1 ?_
    simp only [Rows.uptoBulk]
    omega
section
variable {H : Type} {enc : TypeId × Value → H} {P : Program} {w : World}
theorem needs_small {r : Reach} {b0 : Nat} {x : Value} {d : DataW H} {p : List MemPlace} (hv : Value.okWide Try.prog w r b0 22 x) (h : DataW.Trod enc Try.prog w 0 (fun _ => true) true 22 x d p) (hb : Rows.uptoBulk d ≤ 1048576) :
    ∃ L, NRd w.heap.size w x L ∧ L.length ≤ 1048576 ∧ ∀ i (h : i < L.length), L[i].length ≤ 1048576 := by
  obtain ⟨q, n, c, rfl⟩ := okWide_slice Try.underlying22 hv
  obtain ⟨fuel, hf⟩ := h
  rcases Deep.open_int_rows Try.underlying22 Try.underlying24 Try.underlying3 gcInts gcInt hf with ⟨hcs0, hx⟩ | ⟨a, len, cap, A, L, C, Z, hcs0, _, hl, hm, hx, hrows⟩
  · simp [Value.cells] at hcs0
    obtain ⟨rfl, rfl, rfl⟩ := hcs0
    exact ⟨[], ⟨none, 0, rfl, fun h => absurd h (Nat.lt_irrefl 0)⟩, Nat.zero_le _, fun i hi => absurd hi (Nat.not_lt_zero _)⟩
  · simp [Value.cells] at hcs0
    obtain ⟨rfl, rfl, rfl⟩ := hcs0
    injection hx with hx1 _
    subst hx1
    have hb1 : Rows.uptoBulkAll ((List.range n).map fun r => Deep.intRow (H := H) .i64 (A r) (L r) (Z r)) ≤ 1048576 := by
      simp only [Rows.uptoBulk] at hb
      omega
    have hn1 := gbulk_len ((List.range n).map fun r => Deep.intRow (H := H) .i64 (A r) (L r) (Z r))
    rw [List.length_map, List.length_range] at hn1
    refine ⟨(List.range n).map fun i => (Z i).take (L i), ⟨some a, c, by simp, fun h0 => ?_⟩, by simp; omega, fun i hi => ?_⟩
    · rw [List.length_map, List.length_range] at h0
      obtain ⟨h1, -⟩ := hrows 0 (by omega)
      obtain ⟨g, o, e, hg⟩ := add_gcell (by rw [show a.add 0 = a by simp [Addr.add]] at h1; exact h1)
      subst e
      refine ⟨g, o, rfl, hg, fun i hi => ?_⟩
      rw [List.length_map, List.length_range] at hi
      obtain ⟨h2, h3, h4, h5, h6, h7, h8⟩ := hrows i (by omega)
      rw [gadd] at h2
      have hlen : ((Z i).take (L i)).length = L i := by rw [List.length_take]; omega
      refine ⟨_, h2, A i, C i, by simp [hlen], fun h9 => ?_⟩
      simp only [List.getElem_map, List.getElem_range] at h9 ⊢
      rw [hlen] at h9
      cases hA : A i with
      | none => have := h7 hA; omega
      | some a' =>
        obtain ⟨_, hc⟩ := h8 a' hA
        have hc0 := hc 0 (by omega)
        obtain ⟨g2, o2, e2, hg2⟩ := add_gcell (by rw [show a'.add 0 = a' by simp [Addr.add]] at hc0; exact hc0)
        subst e2
        refine ⟨g2, o2, rfl, hg2, fun j hj => ?_⟩
        rw [hlen] at hj
        have := hc j (by omega)
        rw [gadd] at this
        rw [this, List.getElem_take, List.getD_eq_getElem?_getD, List.getElem?_eq_getElem (by omega)]
        rfl
    · rw [List.length_map, List.length_range] at hi
      obtain ⟨h2, h3, h4, h5, h6, h7, h8⟩ := hrows i (by omega)
      simp only [List.getElem_map, List.getElem_range]
      rw [List.length_take]
      have h9 := bulk_row (H := H) .i64 (A i) (L i) (Z i) (fun e => by have := h7 e; omega) (by omega)
      have h10 : Rows.uptoBulk (Deep.intRow (H := H) .i64 (A i) (L i) (Z i)) ≤ Rows.uptoBulkAll ((List.range n).map fun r => Deep.intRow (H := H) .i64 (A r) (L r) (Z r)) := gbulk_mem (List.mem_map.2 ⟨i, List.mem_range.2 hi, rfl⟩)
      omega
end
end Go.Proofs.Ytdgdeognahmpmaa
