/-
  Copies with spare room; needs of small bulk.
-/
import Derived.Test.YtdgdeognahmpmaaGrZ
import Derived.Test.YtdgdeognahmpmaaGrLd
import Derived.Deep.RegionLaw
import Derived.Deep.AppendSrc
namespace Go.Proofs.Ytdgdeognahmpmaa
open Go.RowKit
attribute [local go_sem] setCell_drewN cell?_ext frozen?_ext shape?_ext setCell_ext lt_1' ne_1' en_1' le_1' lt_2' ne_2' en_2' le_2' lt_3' ne_3' en_3' le_3' lt_4' ne_4' en_4' le_4' lt_5' ne_5' en_5' le_5' lt_6' ne_6' en_6' le_6' lt_7' ne_7' en_7' le_7' lt_8' ne_8' en_8' le_8' lt_9' ne_9' en_9' le_9' lt_10' ne_10' en_10' le_10' lt_11' ne_11' en_11' le_11' lt_12' ne_12' en_12' le_12'

theorem addr_add (g o j : Nat) : (⟨g, o, none⟩ : Addr).add j = ⟨g, o + j, none⟩ := by
  by_cases h : j = 0
  · subst h; simp [Addr.add]
  · simp [Addr.add, h]
theorem src_ints {P : Program} {tx e' : TypeId} (hk : P.underlying tx = some (.slice e')) {n : Nat} {w : World} {v : Value} {l : List Int} (h : IRd n w v l) : Src P 1 tx v l.length (l.map (Value.int .i64)) w := by
  obtain ⟨p, c, rfl, h2⟩ := h
  by_cases h0 : 0 < l.length
  · obtain ⟨g, o, rfl, -, hc⟩ := h2 h0
    refine Src.ofSlice w hk ⟨g, o, none⟩ l.length c _ (by simp) (fun j u hu => ?_) (fun u hu => ?_)
    · rw [addr_add]
      have hj : j < l.length := by
        have := (List.getElem?_eq_some_iff.1 hu).1
        rwa [List.length_map] at this
      rw [List.getElem?_map, List.getElem?_eq_getElem hj] at hu
      injection hu with hu
      rw [hc j hj, hu]
    · rw [List.mem_map] at hu
      obtain ⟨z, -, rfl⟩ := hu
      rfl
  · have hl : l = [] := List.eq_nil_of_length_eq_zero (by omega)
    subst hl
    cases p with
    | none => exact Src.ofNil w hk c
    | some a => exact Src.ofSlice w hk a 0 c [] rfl (fun j u hu => by simp at hu) (fun u hu => by cases hu)
theorem oth_setCells (b : Nat) : ∀ (vs : List Value) (o : Nat) (w : World), Oth (· = b) w (w.setCells b o vs) ∧ (w.setCells b o vs).heap.size = w.heap.size
  | [], _, w => ⟨Oth.refl _ w, rfl⟩
  | v :: r, o, w => by
    obtain ⟨h1, h2⟩ := oth_setCells b r (o + 1) (w.setCell ⟨b, o, none⟩ v)
    exact ⟨((Oth.refl (· = b) w).set ⟨b, o, none⟩ rfl v).trans h1, by rw [World.setCells, h2, World.size_setCell]⟩
/-- an empty row with room is filled -/
theorem step_fill {P : Program} {ops : Array Oper} {o : Oper} {a : Act} {w : World} {K : Act → World → Prop} {Q : Exit → Act → World → Prop} {E : Prop}
    (hg : o.guard = none) (s x : Operand) (t : TypeId) (hop : o.op = Op.call { callee := Callee.builtin Builtin.append, args := #[s, x], argTypes := #[t, t] })
    (e : TypeId) (i : TypeInfo) (h1 : P.underlying t = some (.slice e)) (h2 : P.info? e = some i) (h4 : i.size = 1)
    (b cap : Nat) (hs : a.eval s = .slice (some ⟨b, 0, none⟩) 0 cap) (xv : Value) (hx : a.eval x = xv) (m : Nat) (news : List Value) (hsrc : Src P 1 t xv m news w) (hroom : m ≤ cap)
    (hsp : ∀ j, j < m → (w.cell? ⟨b, j, none⟩).isSome = true ∧ w.frozen? ⟨b, j, none⟩ = false)
    (hK : ∀ w', Oth (· = b) w w' → w'.heap.size = w.heap.size → (∀ j (h : j < news.length), w'.cell? ⟨b, j, none⟩ = some news[j]) → (∀ j, m ≤ j → w'.cell? ⟨b, j, none⟩ = w.cell? ⟨b, j, none⟩) → K (a.put o.dst (.slice (some ⟨b, 0, none⟩) m cap)) w') :
    if Region.wanted o (yielded ops a.tmps) = true then Oper.wp P o a w K Q else E := by
  have hw : Region.wanted o (yielded ops a.tmps) = true := by simp [Region.wanted, hg]
  rw [if_pos hw]
  rw [← h4] at hsrc
  have hl := hsrc.newsLen
  rw [h4, Nat.mul_one] at hl
  have hrun := run_append_room_src (P := P) w t t o.type e i h1 h2 b 0 0 cap xv m news hsrc (by omega) (fun j hj => by rw [Nat.zero_add, Nat.zero_mul, Nat.zero_add]; exact (hsp j (by omega)).1) (fun j hj => by rw [Nat.zero_add, Nat.zero_mul, Nat.zero_add]; exact (hsp j (by omega)).2)
  rw [Nat.zero_mul, Nat.zero_add, Nat.zero_add] at hrun
  obtain ⟨ho, hz⟩ := oth_setCells b news 0 w
  have hk := hK _ ho hz (fun j hj => by
      have := World.cell?_setCells_in b news 0 w (fun j hj => by rw [Nat.zero_add]; exact (hsp j (by omega)).1) j hj
      rw [Nat.zero_add] at this; exact this)
    (fun j hj => World.cell?_setCells_out b news 0 w _ (fun _ _ => .inr (by simp only; omega)))
  unfold Oper.wp
  simp [execOp, hop, resolve, invoke, builtin, hs, hx, hrun, Result.andThen]
  exact hk
/-- one element is put behind a row with room -/
theorem step_put {P : Program} {ops : Array Oper} {o : Oper} {a : Act} {w : World} {K : Act → World → Prop} {Q : Exit → Act → World → Prop} {E : Prop}
    (hg : o.guard = none) (s x : Operand) (t : TypeId) (hop : o.op = Op.call { callee := Callee.builtin Builtin.append, args := #[s, x], argTypes := #[t, t] })
    (e : TypeId) (i : TypeInfo) (h1 : P.underlying t = some (.slice e)) (h2 : P.info? e = some i) (h4 : i.size = 1)
    (b k cap : Nat) (hs : a.eval s = .slice (some ⟨b, 0, none⟩) k cap) (g : Nat) (hx : a.eval x = .slice (some ⟨g, 0, none⟩) 1 1) (u : Value) (hu : w.cell? ⟨g, 0, none⟩ = some u) (h1u : u.oneCell' = true) (hroom : k + 1 ≤ cap)
    (hsp : (w.cell? ⟨b, k, none⟩).isSome = true) (hfr : w.frozen? ⟨b, k, none⟩ = false)
    (hK : K (a.put o.dst (.slice (some ⟨b, 0, none⟩) (k + 1) cap)) (w.setCell ⟨b, k, none⟩ u)) :
    if Region.wanted o (yielded ops a.tmps) = true then Oper.wp P o a w K Q else E := by
  refine step_append_room hg s x t hop e i 1 h1 h2 h4 b 0 k cap hs ⟨g, 0, none⟩ 1 1 [u] hx rfl (fun j y hy => ?_) (fun y hy => ?_) hroom (fun j hj => ?_) ?_
  · have hj : j = 0 := by
      have := (List.getElem?_eq_some_iff.1 hy).1
      simp at this; exact this
    subst hj
    injection hy with hy
    rw [← hy, addr_add]; exact hu
  · rw [List.mem_singleton] at hy; subst hy; exact h1u
  · have hj : j = 0 := by simp at hj; exact hj
    subst hj
    rw [show 0 + k * 1 + 0 = k by omega]
    exact ⟨hsp, hfr⟩
  · rw [show 0 + k * 1 = k by omega]
    exact hK
theorem made_spare {W : World} {g m : Nat} {t : TypeId} {z : Value} (h : W.heap[g]? = some (.cells (madeCells #[z] m) t)) (j : Nat) (hj : j < m) : W.cell? ⟨g, j, none⟩ = some z ∧ W.frozen? ⟨g, j, none⟩ = false := by
  refine ⟨?_, ?_⟩
  · rw [cell_of_row _ _ _ _ _ _ h]
    simp [madeCells, hj, Nat.mod_one]
  · unfold World.frozen?
    simp only
    rw [h]
    simp
/-- a row of ints, with two noughts behind -/
def CB (w : World) (g : Nat) (l : List Int) : Prop := g < w.heap.size ∧ ∀ j, j < l.length + 2 → w.cell? ⟨g, j, none⟩ = some (.int .i64 (l.getD j 0))
theorem CB.kept {w w' : World} {g : Nat} {l : List Int} {S : Nat → Prop} (h : CB w g l) (ho : Oth S w w') (hg : ¬ S g) : CB w' g l :=
  ⟨Nat.lt_of_lt_of_le h.1 ho.size, fun j hj => by rw [World.cell?_of_block (a := ⟨g, j, none⟩) (ho.block g h.1 hg)]; exact h.2 j hj⟩
theorem CB.made {W1 w2 : World} {g : Nat} {l : List Int} {t : TypeId} (h : W1.heap[g]? = some (.cells (madeCells #[.int .i64 0] (l.length + 2)) t)) (hz : w2.heap.size = W1.heap.size) (hin : ∀ j (h : j < (l.map (Value.int .i64)).length), w2.cell? ⟨g, j, none⟩ = some (l.map (Value.int .i64))[j])
    (hout : ∀ j, l.length ≤ j → w2.cell? ⟨g, j, none⟩ = W1.cell? ⟨g, j, none⟩) : CB w2 g l := by
  refine ⟨by rw [hz]; exact (Array.getElem?_eq_some_iff.1 h).1, fun j hj => ?_⟩
  rw [List.getD_eq_getElem?_getD]
  rcases Nat.lt_or_ge j l.length with h1 | h1
  · rw [hin j (by rw [List.length_map]; exact h1), List.getElem?_eq_getElem h1]
    simp
  · rw [hout j h1, (made_spare h j hj).1, List.getElem?_eq_none h1]
    rfl
/-- copies, the first k of them told -/
def cpF (L : List (List Int)) (gs : Nat → Nat) (k : Nat) : Nat → Value := fun j => if j < k then .slice (some ⟨gs j, 0, none⟩) (L.getD j []).length ((L.getD j []).length + 2) else .slice none 0 0
structure CpS (L : List (List Int)) (w0 w : World) (g k : Nat) (gs : Nat → Nat) : Prop where
  row : VRow w g (L.length + 2) (cpF L gs k)
  cb : ∀ j, j < k → CB w (gs j) (L.getD j [])
  own : ∀ j, j < k → w0.heap.size ≤ gs j ∧ gs j ≠ g
  bel : Below w0.heap.size w0 w
theorem CpS.drew {L : List (List Int)} {w0 w : World} {g k : Nat} {gs : Nat → Nat} (h : CpS L w0 w g k gs) (d : Nat) : CpS L w0 (w.drewN d) g k gs := ⟨h.row.drew d, h.cb, h.own, bel_drew h.bel d⟩
theorem CpS.step {L : List (List Int)} {w0 w w2 : World} {g k : Nat} {gs : Nat → Nat} {A B : Obj} (h : CpS L w0 w g k gs) (hk : k < L.length) (h0 : w0.heap.size ≤ g) (ho : Oth (· = w.heap.size) (w.alloc A) w2) (hcb : CB w2 w.heap.size (L.getD k [])) :
    CpS L w0 ((w2.setCell ⟨g, k, none⟩ (.slice (some ⟨w.heap.size, 0, none⟩) (L.getD k []).length ((L.getD k []).length + 2))).alloc B) g (k + 1) (fun j => if j = k then w.heap.size else gs j) := by
  have hgw := h.row.lt
  have h0w := h.bel.size
  have ho1 : Oth (fun x => x = w.heap.size) w w2 := ((Oth.refl _ w).alloc A).trans ho
  obtain ⟨u, hu⟩ : ∃ u, u = Value.slice (some ⟨w.heap.size, 0, none⟩) (L.getD k []).length ((L.getD k []).length + 2) := ⟨_, rfl⟩
  rw [← hu]
  have ho3 : Oth (fun x => x = w.heap.size ∨ x = g) w ((w2.setCell ⟨g, k, none⟩ u).alloc B) :=
    ((show Oth (fun x => x = w.heap.size ∨ x = g) w w2 from ⟨ho1.os, ho1.tape, ho1.output, ho1.size, fun j hj hn => ho1.block j hj (fun e => hn (.inl e))⟩).set ⟨g, k, none⟩ (.inr rfl) u).alloc B
  have ho4 : Oth (fun x => x = g) w2 ((w2.setCell ⟨g, k, none⟩ u).alloc B) := ((Oth.refl (fun x => x = g) w2).set ⟨g, k, none⟩ rfl u).alloc B
  refine ⟨(((h.row.kept ho1 (by omega)).store k u (by omega)).kept ((Oth.refl (fun _ => False) _).alloc B) id).congr fun j hj => ?_, fun j hj => ?_, fun j hj => ?_, ?_⟩
  · subst hu
    unfold updV cpF
    by_cases e : j = k
    · subst e; simp
    · have e2 : (j < k + 1) = (j < k) := by simp; omega
      simp only [e, if_false, e2]
  · by_cases e : j = k
    · subst e
      simp only [if_true]
      exact hcb.kept ho4 (by omega)
    · simp only [e, if_false]
      have h5 := h.cb j (by omega)
      have h6 := h.own j (by omega)
      exact h5.kept ho3 (by have := h5.1; omega)
  · by_cases e : j = k
    · subst e; simp only [if_true]; omega
    · simp only [e, if_false]; exact h.own j (by omega)
  · exact h.bel.trans ⟨ho3.os, ho3.tape, ho3.output, ho3.size, fun j hj => ho3.block j (by omega) (by omega)⟩
theorem gmake_cap0 (m : Nat) (hm : m ≤ 2000000) : ∀ w, (Instr.makeSlice 24 (.int .i64 0) (.int .i64 ((m : Int) + 2))).run Try.prog w = .ok (.slice (some ⟨w.heap.size, 0, none⟩) 0 (m + 2)) (w.alloc (.cells (madeCells #[.int .i64 0] (m + 2)) 3)) := fun w => by
  obtain ⟨i0, hi, hz0, hz1, hz2⟩ := info_parts infoIntG
  have := run_make (P := Try.prog) w 24 3 i0 _ Try.underlying24 hi hz0 .i64 .i64 0 ((m : Int) + 2) (by omega) (by omega) (by rw [hz2]; omega) (by omega)
  rw [this, hz1, Nat.mul_one, show ((m : Int) + 2).toNat = m + 2 by omega]
  rfl
theorem gmake_caps (m : Nat) (hm : m ≤ 2000000) : ∀ w, (Instr.makeSlice 22 (.int .i64 0) (.int .i64 ((m : Int) + 2))).run Try.prog w = .ok (.slice (some ⟨w.heap.size, 0, none⟩) 0 (m + 2)) (w.alloc (.cells (madeCells #[.slice none 0 0] (m + 2)) 24)) := fun w => by
  obtain ⟨i0, hi, hz0, hz1, hz2⟩ := info_parts infoSlG
  have := run_make (P := Try.prog) w 22 24 i0 _ Try.underlying22 hi hz0 .i64 .i64 0 ((m : Int) + 2) (by omega) (by omega) (by rw [hz2]; omega) (by omega)
  rw [this, hz1, Nat.mul_one, show ((m : Int) + 2).toNat = m + 2 by omega]
  rfl
def CpQ (L : List (List Int)) (w : World) (e : Ending) (w' : World) : Prop := ∃ gs, e = .returned (.slice (some ⟨w.heap.size, 0, none⟩) L.length (L.length + 2)) ∧ CpS L w w' w.heap.size L.length gs
set_option maxRecDepth 100000 in
set_option maxHeartbeats 16000000 in
theorem copies_any {n w v} {L : List (List Int)} (h : NRd n w v L) (hn : n ≤ w.heap.size) (hl : L.length ≤ 1048576) (hll : ∀ i (h : i < L.length), L[i].length ≤ 1048576) :
    Calls Try.prog 16 #[v] w fun e w' => CpQ L w e w' := by
  obtain ⟨p, c, rfl, h2⟩ := h
  have H2 := Lib.hid h2
  have HN := Lib.hid hn
  have HLL := Lib.hid hll
  obtain ⟨N, hN⟩ : ∃ N, N = L.length := ⟨_, rfl⟩
  have HNN := Lib.hid hN
  rw [← hN] at hl ⊢
  have hmk := gmake_caps N (by omega)
  have W0 : IntKind.i64.wrap ((N : Int) + 2) = (N : Int) + 2 := IntWalk.i64_in _ (by omega)
  have HS0 := Lib.hid (show CpS L w (w.alloc (.cells (madeCells #[.slice none 0 0] (N + 2)) 24)) w.heap.size 0 (fun _ => 0) from by
    rw [hN]
    exact ⟨(VRow.made w 24 (.slice none 0 0) (L.length + 2)).congr fun j _ => by simp [cpF], fun j hj => by omega, fun j hj => by omega, (Below.refl _ w).alloc (Nat.le_refl _) _⟩)
  clear h2 hn hll hN
  go_enter Try.func16, Try.ntmps16
  go_wp2
  go_loopw [3, 4] (fun z y wr => ∃ (k : Nat) (gs : Nat → Nat), z = .slice (some ⟨w.heap.size, 0, none⟩) k (N + 2) ∧ y = .int .i64 k ∧ k ≤ N ∧ Hid (CpS L w wr w.heap.size k gs)) (fun _ y _ => N - (intOf y).toNat)
  case atStart => exact ⟨0, fun _ => 0, rfl, rfl, Nat.zero_le _, HS0⟩
  case round =>
    clear HS0 hmk W0
    obtain ⟨k, gs, rfl, rfl, hk, hcs⟩ := hrel
    by_cases hlt : k < N
    · have hki : (k : Int) < (N : Int) := by omega
      have hkL : k < L.length := by rw [← HNN.out]; exact hlt
      obtain ⟨g, o, rfl, hg, hc⟩ := H2.out (by omega)
      obtain ⟨vi, hvi, hir⟩ := hc k hkL
      have hbw := hcs.out.bel
      have hvi2 := (hbw.cell (p := ⟨g, o + k, none⟩) (Nat.lt_of_lt_of_le hg HN.out)).trans hvi
      have HIR := Lib.hid (show ∀ w4, Below w.heap.size w w4 → IRd n w4 vi L[k] from fun w4 hb => hir.keep (hb.mono HN.out))
      obtain ⟨pi, ci, rfl, -⟩ := hir
      have hlk := HLL.out k hkL
      have hgd : L.getD k [] = L[k] := by rw [List.getD_eq_getElem?_getD, List.getElem?_eq_getElem hkL]; rfl
      have HST := Lib.hid (fun w2 A B ho hcb => CpS.step (w2 := w2) (A := A) (B := B) hcs.out hkL (Nat.le_refl _) ho hcb)
      have ck := hcs.out.row.cell k (by omega)
      have fk := hcs.out.row.free k
      rw [hgd] at HST
      obtain ⟨l, hl2⟩ : ∃ l, l = L[k] := ⟨_, rfl⟩
      rw [← hl2] at HST HIR hlk hvi2
      obtain ⟨m, hm⟩ : ∃ m, m = l.length := ⟨_, rfl⟩
      have HM := Lib.hid hm
      rw [← hm] at hlk hvi2 HST
      have hmk := gmake_cap0 m (by omega)
      have W1 : IntKind.i64.wrap ((m : Int) + 2) = (m : Int) + 2 := IntWalk.i64_in _ (by omega)
      have HBW := Lib.hid hbw
      have hGw : w.heap.size < wr.heap.size := hcs.out.row.lt
      obtain ⟨i0, hi0, hz0, hz1, hz2⟩ := info_parts infoIntG
      obtain ⟨i1, hi1, hy0, hy1, hy2⟩ := info_parts infoSlG
      clear hc hvi hcs hgd hl2 hm hbw
      have HIR2 := Lib.hid (show ∀ w4, Below w.heap.size w w4 → Src Try.prog 1 24 (.slice pi m ci) m (l.map (Value.int .i64)) w4 from fun w4 hb => by have := src_ints Try.underlying24 (HIR.out _ hb); rw [← HM.out] at this; exact this)
      have HMS := Lib.hid (fun j (hj : j < m + 2) => made_spare (one_blk wr (.cells (madeCells #[.int .i64 0] (m + 2)) 3)) j hj)
      have hbw := HBW.out
      have hgw : g < wr.heap.size := Nat.lt_of_lt_of_le hg (Nat.le_trans HN.out hbw.size)
      have HCK := Lib.hid ck
      have HFK := Lib.hid fk
      clear ck fk
      go_wp2_with fail
      go_region_law
        (first
          | (refine step_fill rfl (.tmp 22) (.tmp 26) 24 rfl 3 i0 Try.underlying24 hi0 hz1 wr.heap.size (m + 2) (by simp [Act.eval]) (.slice pi m ci) (by simp [Act.eval]) m (l.map (Value.int .i64)) (HIR2.out _ (by (repeat' (first | (with_reducible exact Below.refl _ _) | (with_reducible assumption) | (with_reducible refine Below.alloc ?_ ?_ _) | (with_reducible refine below_drewN ?_ _) | (with_reducible refine below_drew ?_) | (with_reducible refine below_ext ?_ ?_ _ _) | (with_reducible refine Below.setCell ?_ ?_ _) | (simp; done) | (simp; omega) | omega)))) (by omega) (fun j hj => ⟨Option.isSome_iff_exists.2 ⟨_, (HMS.out j (by omega)).1⟩, (HMS.out j (by omega)).2⟩) ?_; intro w2 ho hsz hin hout; have HCB := Lib.hid (CB.made (by rw [← HM.out]; exact one_blk wr _) hsz hin (by rw [← HM.out]; exact hout)); have HOT := Lib.hid (show Oth (fun x => x = wr.heap.size) (wr.alloc (.cells (madeCells #[.int .i64 0] (m + 2)) 3)) w2 from ⟨ho.os, ho.tape, ho.output, ho.size, ho.block⟩); have hG2 : w.heap.size < w2.heap.size := Nat.lt_of_lt_of_le hGw (Nat.le_trans (by simp) HOT.out.size); have c2 := Lib.hid (World.cell?_of_block (a := ⟨w.heap.size, k, none⟩) ((((Oth.refl (fun x => x = wr.heap.size) wr).alloc _).trans HOT.out).block w.heap.size hGw (Nat.ne_of_lt hGw))); have f2 := Lib.hid (World.frozen?_of_block (a := ⟨w.heap.size, k, none⟩) ((((Oth.refl (fun x => x = wr.heap.size) wr).alloc _).trans HOT.out).block w.heap.size hGw (Nat.ne_of_lt hGw))); clear ho hsz hin hout)
          | (refine step_put rfl (.tmp 15) (.tmp 28) 22 rfl 24 i1 Try.underlying22 hi1 hy1 w.heap.size k (N + 2) (by simp [Act.eval]) w2.heap.size (by simp [Act.eval]) (.slice (some ⟨wr.heap.size, 0, none⟩) m (m + 2)) (by rw [cell_of_row _ _ _ _ _ _ (one_blk w2 _)]; rfl) rfl (by omega) (by rw [World.cell?_of_block (a := ⟨w.heap.size, k, none⟩) (heap_alloc_old w2 _ hG2), c2.out, HCK.out]; rfl) (by rw [World.frozen?_of_block (a := ⟨w.heap.size, k, none⟩) (heap_alloc_old w2 _ hG2), f2.out]; exact HFK.out) ?_))
      all_goals
        go_wp2
        go_roundw
        case rel => exact ⟨k + 1, _, rfl, by go_num, by omega, Lib.hid (HST.out w2 _ _ HOT.out HCB.out)⟩
        case measure => simp [intOf]; omega
    · obtain rfl : N = k := by omega
      go_wp2
      go_ret
      exact (show ∃ gs, _ from ⟨gs, by rw [← HNN.out]; rfl, by rw [← HNN.out]; exact hcs.out⟩)
end Go.Proofs.Ytdgdeognahmpmaa
