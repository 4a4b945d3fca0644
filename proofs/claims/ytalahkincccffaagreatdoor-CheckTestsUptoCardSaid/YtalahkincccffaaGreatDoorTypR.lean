/-
  Names and their types as a law's argument, out of small bulk.
-/
import Derived.Test.YtalahkincccffaaGreatDoorTypA
import Derived.Test.YtalahkincccffaaGreatDoorTypN
namespace Go.Proofs.YtalahkincccffaaGreatDoor
open Go.ChangeShapes Go.WideShapes Go.ChangeAt Go.RowKit Go.Joins Go.Deep Num Word Txt

def syE (x : SyD) : List Value := [.string x.s, .int .i64 x.t.1, .int .i64 x.t.2]
theorem icSym : Tryz.prog.cellsOf 62 = 3 := by kernel_rfl
theorem icType : Tryz.prog.cellsOf 26 = 2 := by kernel_rfl
theorem list3v {cs : List Value} (h : cs.length = 3) : ∃ x0 x1 x2, cs = [x0, x1, x2] := by
  match cs, h with
  | [x0, x1, x2], _ => exact ⟨_, _, _, rfl⟩
section
variable {H : Type} {enc : TypeId × Value → H} {w : World} {spare : Nat → Bool} {held : Bool}
set_option maxRecDepth 100000 in
theorem sym_of_trod {fuel : Nat} {cs : List Value} {x : DataW H × List MemPlace} (h : DataW.trod enc Tryz.prog w 0 spare held fuel 62 cs = some x) (hb : Rows.uptoBulk x.1 ≤ 1048576) : ∃ v : SyD, cs = syE v ∧ v.s.size ≤ 1048576 := by
  obtain ⟨y0, y1, n, hx, hl, g0, g1⟩ := trod_struct2 Tryz.underlying62 h
  rw [icSym] at hl
  obtain ⟨x0, x1, x2, rfl⟩ := list3v hl
  simp only [icStr, icType] at g0 g1
  obtain ⟨t, e0, hy0, wt⟩ := DataW.trod_string Tryz.underlying9 g0
  obtain ⟨u0, u1, m2, -, -, q0, q1⟩ := trod_struct2 Tryz.underlying26 g1
  simp only [icInt] at q0 q1
  obtain ⟨a, e1, -, -⟩ := DataW.trod_int Tryz.underlying3 q0
  obtain ⟨b, e2, -, -⟩ := DataW.trod_int Tryz.underlying3 q1
  simp at e0 e1 e2
  subst e0 e1 e2
  have hts : t.size ≤ 1048576 := by
    rw [hx] at hb
    have h1 : Rows.uptoBulk y0.1 ≤ Rows.uptoBulkAll [y0.1, y1.1] := nbulk_mem (by simp)
    have h2 : Rows.uptoBulk (DataW.agg [y0.1, y1.1]) = Rows.uptoBulkAll [y0.1, y1.1] + 1 := rfl
    have h3 : Rows.uptoBulk y0.1 = t.data.toList.length + 1 := by rw [hy0]; rfl
    have h4 : t.data.toList.length = t.size := rfl
    have h5 : Rows.uptoBulk (DataW.agg [y0.1, y1.1]) ≤ 1048576 := hb
    omega
  exact ⟨⟨t, (a, b)⟩, rfl, hts⟩
set_option maxRecDepth 100000 in
theorem syms_of {r : Reach} {b0 : Nat} {x : Value} {d : DataW H} {p : List MemPlace} (hv : Value.okWide Tryz.prog w r b0 23 x) (h : DataW.Trod enc Tryz.prog w 0 spare held 23 x d p) (hb : Rows.uptoBulk d ≤ 1048576) :
    ∃ L, RL 3 syE w.heap.size w x L ∧ (∀ y ∈ L, y.s.size ≤ 1048576) ∧ L.length ≤ 1048576 ∧ ∀ q k c, x = .slice q k c → k ≤ c := by
  obtain ⟨q, n, c, rfl⟩ := okWide_slice Tryz.underlying23 hv
  obtain ⟨fuel, hf⟩ := h
  rcases DataW.trod_slice Tryz.underlying23 hf with ⟨hcs0, -⟩ | ⟨ad, len, cap, elems, rest, n', hn', hcs0, hd, _, hlc, _, hlen, hel, _, _⟩
  · simp [Value.cells] at hcs0
    obtain ⟨rfl, rfl, rfl⟩ := hcs0
    exact ⟨[], RL.nil _ _ _ _, by simp, by simp, fun q k c e => by injection e with _ e2 e3; omega⟩
  · simp [Value.cells] at hcs0
    obtain ⟨rfl, rfl, rfl⟩ := hcs0
    have hbl : Rows.uptoBulkAll (elems.map (·.1)) ≤ 1048576 := by
      have hd1 := congrArg Prod.fst hd
      simp only at hd1
      rw [hd1] at hb
      have : Rows.uptoBulkAll (elems.map (·.1)) + Rows.uptoBulkAll (rest.map (·.1)) + 1 ≤ 1048576 := hb
      omega
    have hnl : n ≤ 1048576 := by
      have := nbulk_len (elems.map (·.1))
      rw [List.length_map] at this
      omega
    have hget : ∀ i, i < n → ∃ v : SyD, ((ad.add (i * 3)).spot = none ∧ ∀ j, j < 3 → w.cell? ((ad.add (i * 3)).add j) = (syE v)[j]?) ∧ v.s.size ≤ 1048576 := by
      intro i hi
      have h1 := hel i hi
      rw [icSym] at h1
      have hie : i < elems.length := by omega
      rw [List.getElem?_eq_getElem hie] at h1
      obtain ⟨cs', hc', ht'⟩ := Option.bind_eq_some_iff.1 h1
      have hm : elems[i].1 ∈ elems.map (·.1) := List.mem_map_of_mem (List.getElem_mem hie)
      obtain ⟨_, hc8, hcell⟩ := World.cells?_some hc'
      obtain ⟨v, rfl, hs⟩ := sym_of_trod ht' (Nat.le_trans (nbulk_mem hm) hbl)
      have hz0 : w.cell? (ad.add (i * 3)) = some (.string v.s) := by have := hcell 0 (by omega); simpa [Addr.add, syE] using this
      exact ⟨v, ⟨World.cell?_spot hz0, hcell⟩, hs⟩
    obtain ⟨l, hll, hp⟩ := ilist_of _ n hget
    refine ⟨l, ⟨some ad, c, by rw [hll], fun h0 => ?_⟩, fun y hy => ?_, by omega, fun q k c e => by injection e with _ e2 e3; omega⟩
    · obtain ⟨⟨hsp, hc0⟩, -⟩ := hp 0 h0
      have ha : ad.add (0 * 3) = ad := by simp [Addr.add]
      rw [ha] at hc0 hsp
      have h00 := hc0 0 (by omega)
      obtain ⟨g, o, sp⟩ := ad
      simp only at hsp
      subst hsp
      have hadd : ∀ i j, ((⟨g, o, none⟩ : Addr).add (i * 3)).add j = ⟨g, o + i * 3 + j, none⟩ := by
        intro i j
        by_cases hi0 : i = 0
        · subst hi0
          by_cases hj0 : j = 0
          · subst hj0; rfl
          · simp [Addr.add, hj0]
        · have hi8 : ¬ i * 3 = 0 := by omega
          by_cases hj0 : j = 0
          · subst hj0; simp [Addr.add, hi8]
          · simp [Addr.add, hi8, hj0]
      refine ⟨g, o, rfl, World.block_lt_of_cell? w ⟨g, o, none⟩ (u := .string l[0].s) (by simpa [Addr.add, syE] using h00), fun j hj i u hu => ?_⟩
      have hi8 : i < 3 := by
        have := (List.getElem?_eq_some_iff.1 hu).1
        simpa [syE] using this
      rw [← hadd, (hp j hj).1.2 i hi8]
      exact hu
    · obtain ⟨i, hi, rfl⟩ := List.getElem_of_mem hy
      exact (hp i hi).2
end
end Go.Proofs.YtalahkincccffaaGreatDoor
