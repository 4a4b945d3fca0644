/-
  A value as a law's argument: what is read of small bulk lies as a tree; arguments read again.
-/
import Derived.Test.YtjkallelniggpaaGreatDoorVal
import Derived.ProofKit
import Derived.LaidMore
import Derived.LaidLaws
import Derived.MakeChecks
import Derived.OpenShut
import Derived.ShutString
import Derived.ChangeMaps5
import Derived.ChangeArms
import Derived.Stop.Joined
import Derived.Lib.LaidTab
import Derived.Lib.SmallJoins
import Derived.Deep.Strs
import Derived.WideKeyArgs
namespace Go.Proofs.YtjkallelniggpaaGreatDoor
open Go.ChangeShapes Go.WideShapes Go.ChangeAt Go.RowKit Go.Joins Go.Deep Word

theorem vcInt : Tryz.prog.cellsOf 3 = 1 := by kernel_rfl
theorem vcBool : Tryz.prog.cellsOf 4 = 1 := by kernel_rfl
theorem vcWord : Tryz.prog.cellsOf 28 = 1 := by kernel_rfl
theorem vcWide : Tryz.prog.cellsOf 30 = 2 := by kernel_rfl
theorem vcDec : Tryz.prog.cellsOf 32 = 4 := by kernel_rfl
theorem vcStr : Tryz.prog.cellsOf 9 = 1 := by kernel_rfl
theorem vcStrs : Tryz.prog.cellsOf 22 = 1 := by kernel_rfl
theorem vcVals : Tryz.prog.cellsOf 24 = 1 := by kernel_rfl
theorem vcVal : Tryz.prog.cellsOf 34 = 10 := by kernel_rfl
theorem bulk_mem {H : Type} {d : DataW H} : ∀ {l : List (DataW H)}, d ∈ l → Rows.uptoBulk d ≤ Rows.uptoBulkAll l
  | e :: r, h => by
    show _ ≤ Rows.uptoBulk e + Rows.uptoBulkAll r
    rcases List.mem_cons.1 h with rfl | h
    · omega
    · have := bulk_mem h; omega
theorem bulk_pos {H : Type} (d : DataW H) : 0 < Rows.uptoBulk d := by
  cases d with
  | lit l => cases l <;> simp [Rows.uptoBulk]
  | _ => simp [Rows.uptoBulk]
theorem bulk_len {H : Type} : ∀ l : List (DataW H), l.length ≤ Rows.uptoBulkAll l
  | [] => Nat.le_refl _
  | e :: r => by
    show r.length + 1 ≤ Rows.uptoBulk e + Rows.uptoBulkAll r
    have := bulk_len r; have := bulk_pos e; omega
theorem list_of {α : Type} (P : Nat → α → Prop) : ∀ n, (∀ i, i < n → ∃ v, P i v) → ∃ l : List α, l.length = n ∧ ∀ i (hi : i < l.length), P i l[i]
  | 0, _ => ⟨[], rfl, fun i hi => by simp at hi⟩
  | n + 1, h => by
    obtain ⟨l, hl, hp⟩ := list_of P n (fun i hi => h i (by omega))
    obtain ⟨v, hv⟩ := h n (by omega)
    refine ⟨l ++ [v], by simp [hl], fun i hi => ?_⟩
    by_cases h9 : i < l.length
    · rw [List.getElem_append_left h9]; exact hp i h9
    · have : i = n := by simp at hi; omega
      subst this
      rw [List.getElem_append_right (by omega)]
      simpa [hl] using hv
theorem NamesAt.of_get {w : World} {g : Nat} : ∀ {ns : List ByteArray} {o : Nat}, (∀ i (hi : i < ns.length), w.cell? ⟨g, o + i, none⟩ = some (.string ns[i])) → NamesAt w g ns o
  | [], _, _ => trivial
  | s :: r, o, h => ⟨h 0 (by simp), NamesAt.of_get fun i hi => by have := h (i + 1) (by simpa using hi); rw [show o + 1 + i = o + (i + 1) by omega]; simpa using this⟩
theorem RowAt.of_get {n : Nat} {w : World} {g : Nat} : ∀ {l : List V} {o : Nat}, (∀ i (hi : i < l.length), ∃ x0 x1 x2 x3 x4 x5 x6 x7 x8 x9 : Value, w.cell? ⟨g, o + i * 10, none⟩ = some x0 ∧ w.cell? ⟨g, o + i * 10 + 1, none⟩ = some x1 ∧
      w.cell? ⟨g, o + i * 10 + 2, none⟩ = some x2 ∧ w.cell? ⟨g, o + i * 10 + 3, none⟩ = some x3 ∧ w.cell? ⟨g, o + i * 10 + 4, none⟩ = some x4 ∧ w.cell? ⟨g, o + i * 10 + 5, none⟩ = some x5 ∧ w.cell? ⟨g, o + i * 10 + 6, none⟩ = some x6 ∧
      w.cell? ⟨g, o + i * 10 + 7, none⟩ = some x7 ∧ w.cell? ⟨g, o + i * 10 + 8, none⟩ = some x8 ∧ w.cell? ⟨g, o + i * 10 + 9, none⟩ = some x9 ∧ l[i].At n w (.agg #[x0, x1, x2, x3, x4, x5, x6, x7, x8, x9])) → RowAt n w g l o
  | [], _, _ => by unfold RowAt; trivial
  | v :: r, o, h => by
    unfold RowAt
    refine ⟨by have := h 0 (by simp); rw [show o + 0 * 10 = o by omega] at this; exact this, RowAt.of_get fun i hi => ?_⟩
    have := h (i + 1) (by simpa using hi)
    rw [show o + (i + 1) * 10 = o + 10 + i * 10 by omega] at this
    simpa using this
section
variable {H : Type} {enc : TypeId × Value → H} {P : Program} {w : World} {base : Nat} {spare : Nat → Bool} {held : Bool}
theorem trod_struct7 {t : TypeId} {f0 f1 f2 f3 f4 f5 f6 : Field} {fuel : Nat} {cs : List Value} {x : DataW H × List MemPlace} (ht : P.underlying t = some (.struct #[f0, f1, f2, f3, f4, f5, f6])) (h : DataW.trod enc P w base spare held fuel t cs = some x) :
    ∃ y0 y1 y2 y3 y4 y5 y6 n, fuel = n + 1 ∧ x.1 = .agg [y0.1, y1.1, y2.1, y3.1, y4.1, y5.1, y6.1] ∧ cs.length = P.cellsOf t ∧ DataW.trod enc P w base spare held n f0.type ((cs.drop f0.offset).take (P.cellsOf f0.type)) = some y0 ∧
      DataW.trod enc P w base spare held n f1.type ((cs.drop f1.offset).take (P.cellsOf f1.type)) = some y1 ∧ DataW.trod enc P w base spare held n f2.type ((cs.drop f2.offset).take (P.cellsOf f2.type)) = some y2 ∧
      DataW.trod enc P w base spare held n f3.type ((cs.drop f3.offset).take (P.cellsOf f3.type)) = some y3 ∧ DataW.trod enc P w base spare held n f4.type ((cs.drop f4.offset).take (P.cellsOf f4.type)) = some y4 ∧
      DataW.trod enc P w base spare held n f5.type ((cs.drop f5.offset).take (P.cellsOf f5.type)) = some y5 ∧ DataW.trod enc P w base spare held n f6.type ((cs.drop f6.offset).take (P.cellsOf f6.type)) = some y6 := by
  obtain ⟨xs, n, hn, rfl, hl, hlen, hf⟩ := DataW.trod_struct ht h
  match xs, hlen with
  | [y0, y1, y2, y3, y4, y5, y6], _ => exact ⟨y0, y1, y2, y3, y4, y5, y6, n, hn, rfl, hl, by simpa using hf 0 f0 rfl, by simpa using hf 1 f1 rfl, by simpa using hf 2 f2 rfl, by simpa using hf 3 f3 rfl, by simpa using hf 4 f4 rfl, by simpa using hf 5 f5 rfl, by simpa using hf 6 f6 rfl⟩
/-- arguments read again where nothing that they read has turned -/
theorem trodAll_stays {W W' : World} {sp' : Nat → Bool} (hl : laidOutB P = true) : ∀ {ts : List TypeId} {vs : List Value} {ds : List (DataW H)} {ps : List MemPlace}, DataW.TrodAll enc P W 0 (fun _ => true) true ts vs ds ps →
    (∀ t ∈ ts, P.readableRec t = true ∧ t < P.types.size) → (∀ p ∈ ps, W.sameAt W' p) → (∀ p ∈ ps, sp' p.block = true) → DataW.TrodAll enc P W' 0 sp' true ts vs ds ps
  | [], [], [], _, h, _, _, _ => h
  | [], [], _ :: _, _, h, _, _, _ => h.elim
  | [], _ :: _, _, _, h, _, _, _ => h.elim
  | _ :: _, [], _, _, h, _, _, _ => h.elim
  | _ :: _, _ :: _, [], _, h, _, _, _ => h.elim
  | t :: ts, v :: vs, d :: ds, ps, h, hr, hs, hp => by
    obtain ⟨p, q, h1, h2, rfl⟩ := h
    exact ⟨p, q, WideElems.Trod_stays hl (hr t (by simp)).1 (hr t (by simp)).2 h1 (fun x hx => hs x (by simp [hx])) (fun x hx => hp x (by simp [hx])),
      trodAll_stays hl h2 (fun u hu => hr u (by simp [hu])) (fun x hx => hs x (by simp [hx])) (fun x hx => hp x (by simp [hx])), rfl⟩
end
section
variable {H : Type} {enc : TypeId × Value → H} {w : World} {spare : Nat → Bool} {held : Bool}
theorem names_of_trod {fuel : Nat} {cs : List Value} {x : DataW H × List MemPlace} (h : DataW.trod enc Tryz.prog w 0 spare held fuel 22 cs = some x) (hb : Rows.uptoBulk x.1 ≤ 1048576) :
    ∃ (ns : List ByteArray) (nv : Value), cs = [nv] ∧ NSl w.heap.size w ns nv ∧ (∀ y ∈ ns, y.size ≤ 1048576) ∧ ns.length ≤ 1048576 := by
  rcases DataW.trod_slice Tryz.underlying22 h with ⟨rfl, rfl⟩ | ⟨a, len, cap, elems, rest, n, rfl, rfl, rfl, _, _, _, hlen, hel, _, _⟩
  · exact ⟨[], _, rfl, .inl ⟨rfl, none, 0, rfl⟩, by simp, by simp⟩
  · have hbl : Rows.uptoBulkAll (elems.map (·.1)) ≤ 1048576 := by
      have : Rows.uptoBulkAll (elems.map (·.1)) + Rows.uptoBulkAll (rest.map (·.1)) + 1 ≤ 1048576 := hb
      omega
    have hll := bulk_len (elems.map (·.1))
    rw [List.length_map] at hll
    have hget : ∀ i, i < len → ∃ s : ByteArray, w.cell? (a.add i) = some (.string s) ∧ s.size ≤ 1048576 := by
      intro i hi
      have h1 := hel i hi
      rw [vcStr, Nat.mul_one] at h1
      have hie : i < elems.length := by omega
      rw [List.getElem?_eq_getElem hie] at h1
      obtain ⟨cs', hc, ht⟩ := Option.bind_eq_some_iff.1 h1
      obtain ⟨s, rfl, hx, hsz⟩ := DataW.trod_string Tryz.underlying9 ht
      obtain ⟨_, _, hcell⟩ := World.cells?_some hc
      refine ⟨s, by have := hcell 0 (by omega); simpa [Addr.add] using this, ?_⟩
      have hm : elems[i].1 ∈ elems.map (·.1) := List.mem_map_of_mem (List.getElem_mem hie)
      have := bulk_mem hm
      rw [hx] at this
      have h9 : s.data.toList.length + 1 ≤ Rows.uptoBulkAll (elems.map (·.1)) := this
      rw [← Lib.size_eq] at h9
      omega
    obtain ⟨ns, hns, hp⟩ := list_of _ len hget
    refine ⟨ns, _, rfl, ?_, fun y hy => ?_, by omega⟩
    · by_cases h0 : len = 0
      · refine .inl ⟨List.length_eq_zero_iff.1 (by omega), some a, cap, by rw [h0]⟩
      · have hc0 := (hp 0 (by omega)).1
        have ha : a.add 0 = a := by simp [Addr.add]
        rw [ha] at hc0
        have hspot := World.cell?_spot hc0
        obtain ⟨g, o, sp⟩ := a
        simp only at hspot
        subst hspot
        refine .inr ⟨g, o, cap, by rw [hns], World.block_lt_of_cell? w _ hc0, World.block_lt_of_cell? w _ hc0, NamesAt.of_get fun i hi => ?_⟩
        have := (hp i hi).1
        by_cases h1 : i = 0
        · subst h1; simpa [Addr.add] using this
        · simpa [Addr.add, h1] using this
    · obtain ⟨i, hi, rfl⟩ := List.getElem_of_mem hy
      exact (hp i hi).2
theorem words_val {x y : Int} (hx : (Lit.int .u64 x).wf = true) (hy : (Lit.int .u64 y).wf = true) : ∃ n, n < top2 ∧ x = (hi n : Int) ∧ y = (lo n : Int) := by
  simp [Lit.wf, IntKind.min, IntKind.max, IntKind.signed, IntKind.bits] at hx hy
  refine ⟨x.toNat * 18446744073709551616 + y.toNat, ?_, ?_, ?_⟩
  · unfold top2; omega
  · unfold hi; omega
  · unfold lo; omega
theorem list10 {cs : List Value} (h : cs.length = 10) : ∃ x0 x1 x2 x3 x4 x5 x6 x7 x8 x9, cs = [x0, x1, x2, x3, x4, x5, x6, x7, x8, x9] := by
  match cs, h with
  | [x0, x1, x2, x3, x4, x5, x6, x7, x8, x9], _ => exact ⟨_, _, _, _, _, _, _, _, _, _, rfl⟩
set_option maxRecDepth 100000 in
theorem value_of_trod : ∀ (fuel : Nat) {cs : List Value} {x : DataW H × List MemPlace}, DataW.trod enc Tryz.prog w 0 spare held fuel 34 cs = some x → Rows.uptoBulk x.1 ≤ 1048576 → ∃ v : V, v.At w.heap.size w (.agg cs.toArray) := by
  intro fuel
  induction fuel using Nat.strongRecOn with
  | ind fuel ih =>
    intro cs x h hb
    obtain ⟨y0, y1, y2, y3, y4, y5, y6, n, rfl, hx, hl, g0, g1, g2, g3, g4, g5, g6⟩ := trod_struct7 Tryz.underlying34 h
    rw [vcVal] at hl
    obtain ⟨x0, x1, x2, x3, x4, x5, x6, x7, x8, x9, rfl⟩ := list10 hl
    rw [hx] at hb
    have hb' : Rows.uptoBulkAll [y0.1, y1.1, y2.1, y3.1, y4.1, y5.1, y6.1] ≤ 1048576 := by
      have : Rows.uptoBulkAll [y0.1, y1.1, y2.1, y3.1, y4.1, y5.1, y6.1] + 1 ≤ 1048576 := hb
      omega
    have hb3 := Nat.le_trans (bulk_mem (d := y3.1) (by simp)) hb'
    have hb5 := Nat.le_trans (bulk_mem (d := y5.1) (by simp)) hb'
    have hb6 := Nat.le_trans (bulk_mem (d := y6.1) (by simp)) hb'
    clear hb hb'
    simp only [vcInt, vcBool, vcDec, vcStr, vcStrs, vcVals] at g0 g1 g2 g3 g4 g5 g6
    obtain ⟨k, e0, -, -⟩ := DataW.trod_int Tryz.underlying3 g0
    obtain ⟨yes, e1, -⟩ := DataW.trod_bool Tryz.underlying4 g1
    obtain ⟨z0, z1, z2, m, -, -, d0, d1, d2⟩ := trod_struct3 Tryz.underlying32 g2
    simp only [vcBool, vcWide, vcInt] at d0 d1 d2
    obtain ⟨u0, u1, m2, -, -, q0, q1⟩ := trod_struct2 Tryz.underlying30 d1
    simp only [vcWord] at q0 q1
    obtain ⟨neg, e2, -⟩ := DataW.trod_bool Tryz.underlying4 d0
    obtain ⟨a, e3, -, k1⟩ := DataW.trod_int Tryz.underlying28 q0
    obtain ⟨b, e4, -, k2⟩ := DataW.trod_int Tryz.underlying28 q1
    obtain ⟨s, e5, -, -⟩ := DataW.trod_int Tryz.underlying3 d2
    obtain ⟨t, e6, hy3, -⟩ := DataW.trod_string Tryz.underlying9 g3
    obtain ⟨day, e7, -, -⟩ := DataW.trod_int Tryz.underlying3 g4
    simp at e0 e1 e2 e3 e4 e5 e6 e7
    subst e0 e1 e2 e3 e4 e5 e6 e7
    obtain ⟨c, hc, rfl, rfl⟩ := words_val k1 k2
    have ht : t.size ≤ 1048576 := by
      rw [hy3] at hb3
      have : t.data.toList.length + 1 ≤ 1048576 := hb3
      rw [← Lib.size_eq] at this
      omega
    obtain ⟨ns, nv, e9, hN, hns, hnl⟩ := names_of_trod g6 hb6
    simp at e9
    subst e9
    have hL : ∃ l lv, x8 = lv ∧ VSl w.heap.size w l lv ∧ l.length ≤ 1048576 := by
      simp only [List.drop_succ_cons, List.drop_zero, List.take_succ_cons, List.take_zero] at g5
      rcases DataW.trod_slice Tryz.underlying24 g5 with ⟨e, -⟩ | ⟨ad, len, cap, elems, rest, n', hn', e, hx5, _, _, _, hlen, hel, _, _⟩
      · simp at e
        exact ⟨[], _, e, .inl ⟨rfl, none, 0, rfl⟩, by simp⟩
      · simp at e
        rw [hx5] at hb5
        have hbl : Rows.uptoBulkAll (elems.map (·.1)) ≤ 1048576 := by
          have : Rows.uptoBulkAll (elems.map (·.1)) + Rows.uptoBulkAll (rest.map (·.1)) + 1 ≤ 1048576 := hb5
          omega
        have hll := bulk_len (elems.map (·.1))
        rw [List.length_map] at hll
        have hget : ∀ i, i < len → ∃ v : V, ∃ z0 z1 z2 z3 z4 z5 z6 z7 z8 z9 : Value, (w.cell? (ad.add (i * 10)) = some z0 ∧ (ad.add (i * 10)).spot = none ∧ ∀ j, j < 10 → w.cell? ((ad.add (i * 10)).add j) = [z0, z1, z2, z3, z4, z5, z6, z7, z8, z9][j]?) ∧ v.At w.heap.size w (.agg #[z0, z1, z2, z3, z4, z5, z6, z7, z8, z9]) := by
          intro i hi
          have h1 := hel i hi
          rw [vcVal] at h1
          have hie : i < elems.length := by omega
          rw [List.getElem?_eq_getElem hie] at h1
          obtain ⟨cs', hc', ht'⟩ := Option.bind_eq_some_iff.1 h1
          obtain ⟨_, hc10, hcell⟩ := World.cells?_some hc'
          obtain ⟨z0, z1, z2, z3, z4, z5, z6, z7, z8, z9, rfl⟩ := list10 hc10
          have hm : elems[i].1 ∈ elems.map (·.1) := List.mem_map_of_mem (List.getElem_mem hie)
          obtain ⟨v, hv⟩ := ih n' (by omega) ht' (Nat.le_trans (bulk_mem hm) hbl)
          have hz0 : w.cell? (ad.add (i * 10)) = some z0 := by have := hcell 0 (by omega); simpa [Addr.add] using this
          exact ⟨v, z0, z1, z2, z3, z4, z5, z6, z7, z8, z9, ⟨hz0, World.cell?_spot hz0, hcell⟩, hv⟩
        obtain ⟨l, hll', hp⟩ := list_of _ len hget
        refine ⟨l, _, e, ?_, by omega⟩
        by_cases h0 : len = 0
        · exact .inl ⟨List.length_eq_zero_iff.1 (by omega), some ad, cap, by rw [h0]⟩
        · obtain ⟨_, _, _, _, _, _, _, _, _, _, ⟨hc0, hsp, _⟩, _⟩ := hp 0 (by omega)
          have ha : ad.add (0 * 10) = ad := by simp [Addr.add]
          rw [ha] at hc0 hsp
          obtain ⟨g, o, sp⟩ := ad
          simp only at hsp
          subst hsp
          refine .inr ⟨g, o, cap, by rw [hll'], World.block_lt_of_cell? w _ hc0, World.block_lt_of_cell? w _ hc0, RowAt.of_get fun i hi => ?_⟩
          obtain ⟨z0, z1, z2, z3, z4, z5, z6, z7, z8, z9, ⟨_, _, hc⟩, hv⟩ := hp i hi
          have hadd : ∀ j, ((⟨g, o, none⟩ : Addr).add (i * 10)).add j = ⟨g, o + i * 10 + j, none⟩ := by
            intro j
            by_cases hi0 : i = 0
            · subst hi0
              by_cases hj0 : j = 0
              · subst hj0; rfl
              · simp [Addr.add, hj0]
            · have hi10 : ¬ i * 10 = 0 := by omega
              by_cases hj0 : j = 0
              · subst hj0; simp [Addr.add, hi10]
              · simp [Addr.add, hi10, hj0]
          have hc' : ∀ j, j < 10 → w.cell? ⟨g, o + i * 10 + j, none⟩ = [z0, z1, z2, z3, z4, z5, z6, z7, z8, z9][j]? := fun j hj => by rw [← hadd]; exact hc j hj
          exact ⟨z0, z1, z2, z3, z4, z5, z6, z7, z8, z9, hc' 0 (by omega), hc' 1 (by omega), hc' 2 (by omega), hc' 3 (by omega), hc' 4 (by omega), hc' 5 (by omega), hc' 6 (by omega), hc' 7 (by omega), hc' 8 (by omega), hc' 9 (by omega), hv⟩
    obtain ⟨l, lv, rfl, hL, hll⟩ := hL
    exact ⟨.mk k yes neg c s t day l ns, by unfold V.At; exact ⟨_, _, rfl, ⟨hc, ht, hll, hnl⟩, hL, hN, hns⟩⟩
set_option maxRecDepth 100000 in
theorem value_of {r : Reach} {b0 : Nat} {x : Value} {d : DataW H} {p : List MemPlace} (hv : Value.okWide Tryz.prog w r b0 34 x) (h : DataW.Trod enc Tryz.prog w 0 spare held 34 x d p) (hb : Rows.uptoBulk d ≤ 1048576) : ∃ v : V, v.At w.heap.size w x := by
  obtain ⟨cs, rfl, hsz⟩ := okWide_struct Tryz.underlying34 hv
  obtain ⟨fuel, hf⟩ := h
  simp only [Value.cells] at hf
  have := value_of_trod fuel hf hb
  simpa using this
end
end Go.Proofs.YtjkallelniggpaaGreatDoor
