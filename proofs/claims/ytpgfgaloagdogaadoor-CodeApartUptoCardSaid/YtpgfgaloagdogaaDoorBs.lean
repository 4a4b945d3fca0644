/-
  Copies with spare room: rows of elements of so many cells, with elements of nought behind.
  A whole element stored into a row of the call's own.
  Compile and Back again: their answers are the call's own.
  CodeApart, the law.
  How many nodes an argument of small bulk has.
-/
import Derived.Test.YtpgfgaloagdogaaDoorBr
namespace Go.Proofs.YtpgfgaloagdogaaDoor
open Go.RowKit

/-- a row of l, with m elements of nought behind -/
def SpR {α : Type} (K : El) (enc : α → List Value) (w : World) (g : Nat) (l : List α) (m : Nat) : Prop :=
  ∃ cur : Array Value, w.heap[g]? = some (.cells cur K.T (0, 0)) ∧ cur.size = (l.length + m) * K.size ∧ cur.toList.take (l.length * K.size) = l.flatMap enc ∧ ∀ j, l.length * K.size ≤ j → j < (l.length + m) * K.size → cur[j]? = K.zero.cells[j % K.size]?
section
variable {α : Type} {K : El} {enc : α → List Value} {w w' : World} {g m : Nat} {l : List α}
theorem SpR.lt (h : SpR K enc w g l m) : g < w.heap.size := by
  obtain ⟨cur, hg, -⟩ := h
  exact (Array.getElem?_eq_some_iff.1 hg).1
theorem SpR.kept {S : Nat → Prop} (h : SpR K enc w g l m) (ho : Ot S w w') (hn : ¬ S g) : SpR K enc w' g l m := by
  have hlt := h.lt
  obtain ⟨cur, hg, r⟩ := h
  exact ⟨cur, by rw [ho.block g hlt hn]; exact hg, r⟩
theorem SpR.ol (hc : Cells K enc) (h : SpR K enc w g l m) {B : Nat} (hB : B ≤ g) (hm : l.length + m ≤ 2000000) : OL K enc B w (.slice (some ⟨g, 0, none⟩) l.length (l.length + m)) l := by
  obtain ⟨cur, hg, hs, ht, -⟩ := h
  exact ⟨flat_len hc _, .inr ⟨g, l.length + m, cur, rfl, hB, hg, Nat.le_add_right _ _, by unfold maxLen; omega, hs, ht⟩⟩
theorem SpR.spare (h : SpR K enc w g l m) {j i : Nat} (h1 : l.length ≤ j) (h2 : j < l.length + m) (hi : i < K.size) {u : Value} (hu : K.zero.cells[i]? = some u) : w.cell? ⟨g, j * K.size + i, none⟩ = some u := by
  obtain ⟨cur, hg, hs, ht, hz⟩ := h
  rw [cell_of_row _ _ _ _ _ _ hg, hz _ (by have := Nat.mul_le_mul_right K.size h1; omega) (by have := Nat.mul_le_mul_right K.size (show j + 1 ≤ l.length + m by omega); rw [Nat.add_mul, Nat.one_mul] at this; omega), Nat.add_comm, Nat.add_mul_mod_self_right, Nat.mod_eq_of_lt hi]
  exact hu
/-- an empty row with room -/
theorem wpList_make_sp {P : Program} {ops : Array Oper} {rest : List Oper} {o : Oper} {a : Act} {Q : Exit → Act → World → Prop} (hK : K.Ok P) (enc : α → List Value) (hgd : o.guard = none) (lo co : Operand) (hop : o.op = .makeSlice K.S lo co)
    {n : Nat} {C : Int} (hl : a.eval lo = .int .i64 0) (hc : a.eval co = .int .i64 C) (hC : C = (n : Int)) (hn : n ≤ 2000000)
    (h : ∀ w', SpR K enc w' w.heap.size ([] : List α) n → Below w.heap.size w w' → wpList P ops Q rest (a.put o.dst (.slice (some ⟨w.heap.size, 0, none⟩) 0 n)) w') : wpList P ops Q (o :: rest) a w := by
  obtain ⟨i0, hi, hz0, hz1, hz2⟩ := info_parts hK.info
  have hrun := run_make (P := P) w K.S K.T i0 _ hK.und hi hz0 .i64 .i64 0 (n : Int) (by omega) (by omega) (by
    rw [hz2]
    have h1 : K.bytes * n ≤ 1000 * 2000000 := Nat.mul_le_mul hK.few hn
    have h2 : ((K.bytes * n : Nat) : Int) ≤ 2000000000 := by omega
    rw [Int.natCast_mul] at h2
    omega) (by omega)
  rw [hz1, Int.toNat_natCast, show (0 : Int).toNat = 0 from rfl] at hrun
  subst hC
  refine wpList_plain hgd fun K2 hK2 => ?_
  unfold Oper.wp
  simp [execOp, hop, hl, hc, hrun, Result.andThen]
  refine hK2 _ _ (h _ ⟨_, heap_alloc_new w _, by rw [size_madeCells]; simp, by simp, fun j _ hj => ?_⟩ ((Below.refl w.heap.size w).alloc (Nat.le_refl _) _))
  have hp := hK.pos
  have hcz := hK.cells
  have hj2 : j < n * K.size := by simpa using hj
  have hm : j % K.size < K.zero.cells.size := by rw [hcz]; exact Nat.mod_lt _ hp
  unfold madeCells
  rw [Array.getElem?_map, Array.getElem?_range, if_pos hj2, Option.map_some, hcz, getElem!_pos K.zero.cells (j % K.size) hm, Array.getElem?_eq_getElem hm]
/-- .. is filled -/
theorem wpList_append_sp {P : Program} {ops : Array Oper} {rest : List Oper} {o : Oper} {a : Act} {Q : Exit → Act → World → Prop} (hK : K.Ok P) (hc : Cells K enc) (hgd : o.guard = none) (s x : Operand)
    (ho : o.op = .call { callee := .builtin .append, args := #[s, x], argTypes := #[K.S, K.S] })
    {L : List α} {len n : Nat} (hlen : L.length = len) (hs : a.eval s = .slice (some ⟨g, 0, none⟩) 0 n) (hsp : SpR K enc w g ([] : List α) n) (hn : n = len + m) {b off c : Nat} (hx : a.eval x = .slice (some ⟨b, off, none⟩) len c)
    (hcell : ∀ j (h : j < L.length) i u, (enc L[j])[i]? = some u → w.cell? ⟨b, off + j * K.size + i, none⟩ = some u)
    (h : ∀ w', SpR K enc w' g L m → Ot (fun k => k = g) w w' → wpList P ops Q rest (a.put o.dst (.slice (some ⟨g, 0, none⟩) len n)) w') : wpList P ops Q (o :: rest) a w := by
  subst hlen
  obtain ⟨i0, hi, hz0, hz1, hz2⟩ := info_parts hK.info
  obtain ⟨cur, hg, hsz, -, hzz⟩ := hsp
  have hfl := flat_len hc L
  have hp := hK.pos
  have hsz2 : cur.size = (L.length + m) * K.size := by rw [hsz, hn]; simp
  have hle : L.length * K.size ≤ cur.size := by rw [hsz2]; exact Nat.mul_le_mul_right _ (by omega)
  have hrun := run_append_room (P := P) w K.S o.type K.T i0 hK.und hi g 0 n cur hg ⟨b, off, none⟩ L.length c (L.flatMap enc) (by rw [hz1]; exact hfl) (fun j u hu => by
      have hj : j < L.length * K.size := by rw [← hfl]; exact (List.getElem?_eq_some_iff.1 hu).1
      have hq : j / K.size < L.length := Nat.div_lt_of_lt_mul (by rw [Nat.mul_comm]; exact hj)
      have hr : j % K.size < K.size := Nat.mod_lt _ hp
      have hjj : j / K.size * K.size + j % K.size = j := by rw [Nat.mul_comm]; exact Nat.div_add_mod j K.size
      have := flat_at hc L (j / K.size) (j % K.size) hq hr
      rw [hjj, hu] at this
      have h9 := hcell _ hq _ u this.symm
      rw [Nat.add_assoc, hjj] at h9
      rw [Addr.add_lit]
      exact h9)
    (fun u hu => by
      obtain ⟨y, -, hy⟩ := List.mem_flatMap.1 hu
      exact (hc y).2 u hy) (by omega) (by rw [Nat.zero_mul, Nat.zero_add, hfl]; exact hle)
  rw [Nat.zero_mul, Nat.zero_add, List.take_zero, List.nil_append, Nat.zero_add, hfl] at hrun
  refine wpList_plain hgd fun K2 hK2 => ?_
  unfold Oper.wp
  simp [execOp, ho, resolve, invoke, builtin, hs, hx, hrun, Result.andThen]
  refine hK2 _ _ (h _ ⟨_, setRow_heap w g cur _ K.T _ hg, ?_, ?_, ?_⟩ ⟨rfl, rfl, rfl, by simp, fun k _ hk => setRow_other w g k _ hk⟩)
  · simp only [List.size_toArray, List.length_append, List.length_drop, Array.length_toList, hfl]
    omega
  · rw [← hfl]
    exact List.take_left
  · intro j h1 h2
    have h3 := hzz j (by simp) (by rw [← hsz]; omega)
    rw [← h3]
    rw [List.getElem?_toArray, List.getElem?_append_right (by rw [hfl]; exact h1), List.getElem?_drop, hfl, Array.getElem?_toList, show L.length * K.size + (j - L.length * K.size) = j by omega]
end
end Go.Proofs.YtpgfgaloagdogaaDoor
namespace Go.Proofs.YtpgfgaloagdogaaDoor
open Go.RowKit

/-- a row of n elements or more, that may be written -/
def WrR (K : El) (w : World) (g n : Nat) : Prop := ∃ cur : Array Value, w.heap[g]? = some (.cells cur K.T (0, 0)) ∧ n * K.size ≤ cur.size
section
variable {α : Type} {K : El} {enc : α → List Value} {w w' : World} {g n : Nat} {l : List α}
theorem WrR.kept {S : Nat → Prop} (h : WrR K w g n) (ho : Ot S w w') (hn : ¬ S g) : WrR K w' g n := by
  obtain ⟨cur, hg, r⟩ := h
  exact ⟨cur, by rw [ho.block g (Array.getElem?_eq_some_iff.1 hg).1 hn]; exact hg, r⟩
theorem OL.wr {B cap : Nat} (h : OL K enc B w (.slice (some ⟨g, 0, none⟩) n cap) l) : WrR K w g l.length := by
  rcases h.2 with ⟨h', _⟩ | ⟨g', cap', cur, h', _, hg, hnc, _, hcs, _⟩
  · simp at h'
  · simp only [Value.slice.injEq, Option.some.injEq, Addr.mk.injEq, and_true] at h'
    obtain ⟨rfl, h1, rfl⟩ := h'
    exact ⟨cur, hg, by rw [hcs]; exact Nat.mul_le_mul_right _ hnc⟩
theorem wpList_store_el {P : Program} {ops : Array Oper} {rest : List Oper} {o : Oper} {a : Act} {Q : Exit → Act → World → Prop} (hK : K.Ok P) (hgd : o.guard = none) (x y : Operand) (hop : o.op = .store K.T x y)
    {k off : Nat} {cells : Array Value} (hx : a.eval x = .pointer (some ⟨g, off, none⟩)) (hoff : off = k * K.size) (hy : a.eval y = .agg cells) (hcs : cells.size = K.size) (h1 : cells.all (·.oneCell') = true) (hw : WrR K w g n) (hk : k < n)
    (h : ∀ w', WrR K w' g n → Ot (fun q => q = g) w w' → w'.heap.size = w.heap.size → wpList P ops Q rest (a.put o.dst undef) w') : wpList P ops Q (o :: rest) a w := by
  obtain ⟨cur, hg, hsz⟩ := hw
  obtain ⟨i0, hi, hz0, hz1, hz2⟩ := info_parts hK.info
  subst hoff
  have hfit : k * K.size + 0 + cells.toList.length ≤ cur.size := by
    have h2 : (k + 1) * K.size ≤ n * K.size := Nat.mul_le_mul_right _ (by omega)
    rw [Nat.add_mul, Nat.one_mul] at h2
    rw [Array.length_toList, hcs]
    omega
  have hst := run_storeCells_at (P := P) g (k * K.size) K.T cells.toList 0 cur w hg hfit (fun v hv => (Array.all_eq_true_iff_forall_mem.1 h1) v (by simpa using hv))
  refine wpList_plain hgd fun K2 hK2 => ?_
  have hrun : (storeVar K.T ⟨g, k * K.size, none⟩ (.agg cells)).run P w = .ok () (w.setRow g (cur.toList.take (k * K.size + 0) ++ cells.toList ++ cur.toList.drop (k * K.size + 0 + cells.toList.length)).toArray) := by
    have hs : cells.size = i0.size := by rw [hz1]; exact hcs
    simp [storeVar, sizeOf, typeInfo, hi, Value.cells, hs]
    simpa [hs] using hst
  unfold Oper.wp execOp
  simp only [hop, hx, hy, Instr.storeAt, Instr.sureAddr, Sem.run_bind, Sem.run_pure, Result.andThen_ok, hrun]
  refine hK2 _ _ (h _ ⟨_, setRow_heap w g cur _ K.T _ hg, ?_⟩ ⟨rfl, rfl, rfl, by simp, fun q _ hq => setRow_other w g q _ hq⟩ (by simp))
  simp only [List.size_toArray, List.length_append, List.length_take, List.length_drop, Array.length_toList]
  rw [Array.length_toList] at hfit
  omega
end
end Go.Proofs.YtpgfgaloagdogaaDoor
namespace Go.Proofs.YtpgfgaloagdogaaDoor
open Go.RowKit Go.Maps Go.WideMaps Num Word Txt
attribute [local go_sem] setCell_drewN cell?_ext frozen?_ext shape?_ext setCell_ext lt_1' ne_1' en_1' le_1' lt_2' ne_2' en_2' le_2' lt_3' ne_3' en_3' le_3' lt_4' ne_4' en_4' le_4' lt_5' ne_5' en_5' le_5' lt_6' ne_6' en_6' le_6' lt_7' ne_7' en_7' le_7' lt_8' ne_8' en_8' le_8' lt_9' ne_9' en_9' le_9' lt_10' ne_10' en_10' le_10' lt_11' ne_11' en_11' le_11' lt_12' ne_12' en_12' le_12'

def CmO (E : Int) (C : List InsD) (w : World) (e : Ending) (w' : World) : Prop := Below w.heap.size w w' ∧ ∃ v, e = .returned (.tuple #[v, .int .i64 E]) ∧ OL isK insE w.heap.size w' v (if E = 0 then C else [])
def BkO (E : Int) (D : List NdD) (w : World) (e : Ending) (w' : World) : Prop := Below w.heap.size w w' ∧ ∃ v, e = .returned (.tuple #[v, .int .i64 E]) ∧ OL ndK ndE w.heap.size w' v (if E = 0 then D else [])
section
variable {l : List NdD} {tests : Bool} {n : Nat} {w : World} {v : Value}
set_option maxRecDepth 100000 in
set_option maxHeartbeats 4000000 in
theorem ccompile_ol (hv : RL 8 ndE n w v l) (hn : n ≤ w.heap.size) (hwf : ∀ x ∈ l, x.Wf) (hsm : ∀ x ∈ l, x.t.size ≤ 1048576) (hcap : ∀ p k c, v = .slice p k c → k ≤ c) (hT : Tens w) (hU : Tabs w) :
    Calls Tryd.prog 10 #[v, .bool tests] w fun e w' => CmO (docE l tests) (codL l) w e w' := by
  have HCH := Lib.hid (check_any l tests n w v hv hn hwf hT hU)
  rw [← doc_chk] at HCH
  obtain ⟨E, hE⟩ : ∃ E, E = docE l tests := ⟨_, rfl⟩
  rw [← hE] at HCH ⊢
  by_cases h0 : E = 0
  · obtain ⟨h300, hpos, q, P, hs⟩ := docE_zero (hE.symm.trans h0)
    obtain ⟨L, hTr, hch⟩ := tree_of hs
    have hcl : codL l = (segC l (sepS l P l.length) l.length 0 ([], [])).1 := by
      rw [code_whole hTr hch]; unfold codL; rw [hs]
    have HCP := Lib.hid (fun w' (hb : Below w.heap.size w w') => codcompile_any hs n w' v (hv.keep (hb.mono hn)) (Nat.le_trans hn hb.size) h300 hwf hsm hcap)
    rw [← hcl] at HCP
    clear hE hs hTr hch hcl
    subst h0
    generalize codL l = C at HCP ⊢
    obtain ⟨p, c, rfl, -⟩ := hv
    go_enter Tryd.func10, Tryd.ntmps10
    go_wp2_with (first
      | (go_at_call 19; (with_reducible refine (HCH.out).mono ?_); rintro e w1 ⟨rfl, hb1⟩)
      | (go_at_call 20; (with_reducible refine (HCP.out _ hb1).mono ?_); rintro e w2 ⟨v2, rfl, hol, hb2⟩))
    go_ret2
    exact ⟨hb1.trans (hb2.mono hb1.size), v2, rfl, OL.low hol (by have := hb1.size; omega)⟩
  · have HRL := Lib.hid (fun w' => show OL isK insE w.heap.size w' (.slice none 0 0) (if E = 0 then codL l else []) by rw [if_neg h0]; exact OL.nil isK insE _ w')
    have hne : (E != 0) = true := bne_iff_ne.2 h0
    generalize codL l = C at HRL ⊢
    obtain ⟨p, c, rfl, -⟩ := hv
    clear hE
    go_enter Tryd.func10, Tryd.ntmps10
    go_wp2_with (first
      | (go_at_call 19; (with_reducible refine (HCH.out).mono ?_); rintro e w1 ⟨rfl, hb1⟩))
    go_ret2
    exact ⟨hb1, _, rfl, HRL.out _⟩
set_option maxRecDepth 100000 in
set_option maxHeartbeats 4000000 in
theorem doccode_ol (hv : RL 8 ndE n w v l) (hn : n ≤ w.heap.size) (h300 : l.length ≤ 300) (hpos : 0 < l.length) {q : Nat} {P : List (List Nat)} (hs : stkP 0 l [] = some ([q], P)) :
    Calls Tryd.prog 18 #[v] w fun e w' => ∃ v', e = .returned v' ∧ OL isK insE w.heap.size w' v' (codL l) ∧ Below w.heap.size w w' := by
  obtain ⟨L, hTr, hch⟩ := tree_of hs
  have h1 : L.getD q 0 = 0 := hch.1
  have h2 : q + 1 = l.length := hch.2.2
  have HPL := Lib.hid (rplaces_any l n w v hv hn (by omega) hpos hs)
  have hcl : codL l = ofF l P l.length q 0 := by unfold codL; rw [hs, show l.length - 1 = q by omega]
  have HOF := Lib.hid (fun w' (hb : Below w.heap.size w w') x (hx : WPl w' x P) => codof_any hTr h300 (hv.keep (hb.mono hn)) (Nat.le_trans hn hb.size) hx l.length q 0 (by omega) (by omega) (by rw [h1]; omega) w' (Below.refl _ _))
  rw [hcl]
  generalize ofF l P l.length q 0 = C at HOF ⊢
  obtain ⟨len, hlen⟩ : ∃ len, len = l.length := ⟨_, rfl⟩
  have h00 : ((0 : Nat) : Int) = 0 := rfl
  rw [h00] at HOF
  have E1 : (len : Int) - 1 = (q : Int) := by omega
  have hqb : q ≤ 300 := by omega
  obtain ⟨p, c, rfl, -⟩ := hv
  rw [← hlen] at HPL HOF ⊢
  clear hs hTr hch hcl h1 h2 h300 hpos hlen
  go_enter Tryd.func18, Tryd.ntmps18
  go_wp2_with (first
    | (go_at_call 31; (with_reducible refine (HPL.out).mono ?_); rintro e w1 ⟨⟨x, rfl, hx⟩, hb1⟩; have HX := Lib.hid (HOF.out _ hb1 _ hx); have HB1 := Lib.hid hb1; clear hx hb1)
    | (go_at_call 30; (with_reducible refine (HX.out).mono ?_); rintro e w2 ⟨v2, rfl, hol, hb2⟩))
  go_ret
  exact ⟨_, rfl, OL.low hol HB1.out.size, HB1.out.trans (hb2.mono HB1.out.size)⟩
set_option maxRecDepth 100000 in
set_option maxHeartbeats 4000000 in
theorem doccompile_ol (hv : RL 8 ndE n w v l) (hn : n ≤ w.heap.size) (hwf : ∀ x ∈ l, x.Wf) (hsm : ∀ x ∈ l, x.t.size ≤ 1048576) :
    Calls Tryd.prog 9 #[v, .bool tests] w fun e w' => CmO (docE l tests) (codL l) w e w' := by
  have HCH := Lib.hid (dcheck_any l tests n w v hv hn hwf hsm)
  obtain ⟨E, hE⟩ : ∃ E, E = docE l tests := ⟨_, rfl⟩
  rw [← hE] at HCH ⊢
  by_cases h0 : E = 0
  · obtain ⟨h300, hpos, q, P, hs⟩ := docE_zero (hE.symm.trans h0)
    have HCP := Lib.hid (fun w' (hb : Below w.heap.size w w') => doccode_ol (hv.keep (hb.mono hn)) (Nat.le_trans hn hb.size) h300 hpos hs)
    clear hE hs
    subst h0
    generalize codL l = C at HCP ⊢
    obtain ⟨p, c, rfl, -⟩ := hv
    go_enter Tryd.func9, Tryd.ntmps9
    go_wp2_with (first
      | (go_at_call 15; (with_reducible refine (HCH.out).mono ?_); rintro e w1 ⟨rfl, hb1⟩)
      | (go_at_call 18; (with_reducible refine (HCP.out _ hb1).mono ?_); rintro e w2 ⟨v2, rfl, hol, hb2⟩))
    go_ret2
    exact ⟨hb1.trans (hb2.mono hb1.size), v2, rfl, OL.low hol hb1.size⟩
  · have HRL := Lib.hid (fun w' => show OL isK insE w.heap.size w' (.slice none 0 0) (if E = 0 then codL l else []) by rw [if_neg h0]; exact OL.nil isK insE _ w')
    have hne : (E != 0) = true := bne_iff_ne.2 h0
    generalize codL l = C at HRL ⊢
    obtain ⟨p, c, rfl, -⟩ := hv
    clear hE
    go_enter Tryd.func9, Tryd.ntmps9
    go_wp2_with (first
      | (go_at_call 15; (with_reducible refine (HCH.out).mono ?_); rintro e w1 ⟨rfl, hb1⟩))
    go_ret2
    exact ⟨hb1, _, rfl, HRL.out _⟩
end
set_option maxRecDepth 100000 in
set_option maxHeartbeats 8000000 in
theorem cback_ol {C : List InsD} {tests : Bool} {n : Nat} {w : World} {v : Value} (hv : RL 8 insE n w v C) (hn : n ≤ w.heap.size) (hwf : ∀ i ∈ C, i.Wf) (hT : Tens w) (hU : Tabs w) :
    Calls Tryd.prog 13 #[v, .bool tests] w fun e w' => BkO (bkE C tests) (decP 0 C [] []) w e w' := by
  obtain ⟨E, hE⟩ : ∃ E, E = bkE C tests := ⟨_, rfl⟩
  obtain ⟨D, hD⟩ : ∃ D, D = decP 0 C [] [] := ⟨_, rfl⟩
  have hDw := dec_wf hwf
  rw [← hD] at hDw
  have HVR := Lib.hid hv
  have HDE := Lib.hid (fun (h6 : C.length ≤ 600) => decompile_any n w v hv hn h6 hwf)
  rw [← hD] at HDE
  have HCM := Lib.hid (fun w' x (hb : Below w.heap.size w w') (ho : OL ndK ndE w.heap.size w' x D) => ccompile_any (tests := tests) (ol_rl ndE_cells ho) (Nat.le_refl _) hDw.1 hDw.2 (fun p k c e => by
    obtain ⟨q, cp, e2, -, hcp⟩ := OL.form ho
    rw [e2] at e
    injection e with _ e3 e4
    omega) (hT.below hb) (hU.below hb))
  unfold CmQ at HCM
  obtain ⟨F, hF⟩ : ∃ F, F = docE D tests := ⟨_, rfl⟩
  obtain ⟨G, hG⟩ : ∃ G, G = codL D := ⟨_, rfl⟩
  rw [← hF, ← hG] at HCM
  have hE2 : E = if 600 < C.length then 6 else if F = 0 ∧ sameB G C = true then 0 else 2 := by rw [hE, hF, hG, hD]; rfl
  have HG := Lib.hid (show F = 0 → G.length ≤ 1000000 from fun h0 => by
    obtain ⟨q, P, L, hy⟩ := yes_of (hF.symm.trans h0)
    have := hy.len
    have := hy.few
    rw [hG]; omega)
  rw [← hE, ← hD]
  obtain ⟨p, c, rfl, -⟩ := hv
  obtain ⟨len, hlen⟩ : ∃ len, len = C.length := ⟨_, rfl⟩
  rw [← hlen] at HDE hE2 HVR ⊢
  clear hE hD hDw hF hG hT hU hwf
  have HLEN := Lib.hid hlen
  clear hlen
  by_cases h6 : 600 < len
  · have HEE := Lib.hid (show E = 6 by rw [hE2, if_pos h6])
    have h6i : (600 : Int) < (len : Int) := by omega
    clear hE2
    go_enter Tryd.func13, Tryd.ntmps13
    go_wp2
    go_ret2
    rw [HEE.out]
    exact ⟨Below.refl _ _, _, rfl, OL.nil _ _ _ _⟩
  · have h6i : ¬ (600 : Int) < (len : Int) := by omega
    rw [if_neg h6] at hE2
    have HDE2 := Lib.hid (HDE.out (by omega))
    clear HDE
    by_cases h0 : F = 0
    · subst h0
      obtain ⟨sb, hsb⟩ : ∃ sb, sb = sameB G C := ⟨_, rfl⟩
      have HEE := Lib.hid (show E = if sb = true then 0 else 2 by rw [hE2, hsb]; simp)
      have HEQ := Lib.hid (fun w' v' x (h1 : RL 8 insE w'.heap.size w' v' G) (h2 : RL 8 insE n w' x C) => iequal_any h1 h2 (HG.out rfl))
      rw [← hsb] at HEQ
      clear hE2 hsb
      cases sb with
      | true =>
        have HE0 := Lib.hid (show E = 0 by rw [HEE.out]; rfl)
        go_enter Tryd.func13, Tryd.ntmps13
        go_wp2_with (first
          | (go_at_call 22; (with_reducible refine (HDE2.out).mono ?_); rintro e w1 ⟨v1, rfl, ho1, hb1⟩; have HO1 := Lib.hid ho1; have HB1 := Lib.hid hb1; clear ho1 hb1)
          | (go_at_call 10; (with_reducible refine (HCM.out _ _ HB1.out HO1.out).mono ?_); rintro e w2 ⟨hb2, v2, rfl, hr2⟩; have HB2 := Lib.hid (HB1.out.trans (hb2.mono HB1.out.size)); have HR2 := Lib.hid hr2; have HO2 := Lib.hid (OL.new HO1.out hb2); clear hb2 hr2)
          | (go_at_call 23; (with_reducible refine (HEQ.out _ _ _ HR2.out (HVR.out.keep (HB2.out.mono (by omega)))).mono ?_); rintro e w3 ⟨rfl, hb3⟩; have HB3 := Lib.hid (HB2.out.trans (hb3.mono HB2.out.size)); have HO3 := Lib.hid (OL.new HO2.out hb3); clear hb3))
        go_ret2
        rw [HE0.out]
        exact ⟨HB3.out, _, rfl, by rw [if_pos rfl]; exact HO3.out⟩
      | false =>
        have HE0 := Lib.hid (show E = 2 by rw [HEE.out]; rfl)
        go_enter Tryd.func13, Tryd.ntmps13
        go_wp2_with (first
          | (go_at_call 22; (with_reducible refine (HDE2.out).mono ?_); rintro e w1 ⟨v1, rfl, ho1, hb1⟩; have HO1 := Lib.hid ho1; have HB1 := Lib.hid hb1; clear ho1 hb1)
          | (go_at_call 10; (with_reducible refine (HCM.out _ _ HB1.out HO1.out).mono ?_); rintro e w2 ⟨hb2, v2, rfl, hr2⟩; have HB2 := Lib.hid (HB1.out.trans (hb2.mono HB1.out.size)); have HR2 := Lib.hid hr2; have HO2 := Lib.hid (OL.new HO1.out hb2); clear hb2 hr2)
          | (go_at_call 23; (with_reducible refine (HEQ.out _ _ _ HR2.out (HVR.out.keep (HB2.out.mono (by omega)))).mono ?_); rintro e w3 ⟨rfl, hb3⟩; have HB3 := Lib.hid (HB2.out.trans (hb3.mono HB2.out.size)); have HO3 := Lib.hid (OL.new HO2.out hb3); clear hb3))
        go_ret2
        rw [HE0.out]
        exact ⟨HB3.out, _, rfl, OL.nil _ _ _ _⟩
    · have HEE := Lib.hid (show E = 2 by rw [hE2, if_neg (fun h => h0 h.1)])
      have hnb : (F != 0) = true := bne_iff_ne.2 h0
      clear hE2
      go_enter Tryd.func13, Tryd.ntmps13
      go_wp2_with (first
        | (go_at_call 22; (with_reducible refine (HDE2.out).mono ?_); rintro e w1 ⟨v1, rfl, ho1, hb1⟩; have HO1 := Lib.hid ho1; have HB1 := Lib.hid hb1; clear ho1 hb1)
        | (go_at_call 10; (with_reducible refine (HCM.out _ _ HB1.out HO1.out).mono ?_); rintro e w2 ⟨hb2, v2, rfl, hr2⟩; have HB2 := Lib.hid (HB1.out.trans (hb2.mono HB1.out.size)); clear hb2 hr2))
      go_ret2
      rw [HEE.out]
      exact ⟨HB2.out, _, rfl, OL.nil _ _ _ _⟩
end Go.Proofs.YtpgfgaloagdogaaDoor
namespace Go.Proofs.YtpgfgaloagdogaaDoor
open Go.RowKit Num Word Txt
attribute [local go_sem] setCell_drewN cell?_ext frozen?_ext shape?_ext setCell_ext lt_1' ne_1' en_1' le_1' lt_2' ne_2' en_2' le_2' lt_3' ne_3' en_3' le_3' lt_4' ne_4' en_4' le_4' lt_5' ne_5' en_5' le_5' lt_6' ne_6' en_6' le_6' lt_7' ne_7' en_7' le_7' lt_8' ne_8' en_8' le_8' lt_9' ne_9' en_9' le_9' lt_10' ne_10' en_10' le_10' lt_11' ne_11' en_11' le_11' lt_12' ne_12' en_12' le_12'

/-- whatever list is copied into an empty row with room -/
theorem wpList_append_rl {α : Type} {K : El} {enc : α → List Value} {w : World} {P : Program} {ops : Array Oper} {rest : List Oper} {o : Oper} {a : Act} {Q : Exit → Act → World → Prop} (hP : P = Tryd.prog) (hK : K.Ok P) (hc : Cells K enc) (hgd : o.guard = none) (s x : Operand)
    (ho : o.op = .call { callee := .builtin .append, args := #[s, x], argTypes := #[K.S, K.S] })
    {L : List α} {len n m g N : Nat} (hlen : L.length = len) (hs : a.eval s = .slice (some ⟨g, 0, none⟩) 0 n) (hsp : SpR K enc w g ([] : List α) n) (hn : n = len + m) (hnn : n ≤ 2000000) {vx : Value} (hx : a.eval x = vx) (hr : RL K.size enc N w vx L)
    (h : ∀ w', SpR K enc w' g L m → Ot (fun k => k = g) w w' → wpList P ops Q rest (a.put o.dst (.slice (some ⟨g, 0, none⟩) len n)) w') : wpList P ops Q (o :: rest) a w := by
  subst hP
  obtain ⟨p, c, rfl, h2⟩ := hr
  by_cases h0 : 0 < L.length
  · obtain ⟨b, off, rfl, -, hcell⟩ := h2 h0
    rw [hlen] at hx
    exact wpList_append_sp hK hc hgd s x ho hlen hs hsp hn hx hcell h
  · have hL : L = [] := List.eq_nil_of_length_eq_zero (by omega)
    subst hL
    obtain rfl : len = 0 := hlen.symm
    obtain rfl : n = m := by omega
    have hol := SpR.ol hc hsp (Nat.le_refl g) (by simp; omega)
    rw [List.length_nil, Nat.zero_add] at hol
    exact append_none hK hgd s x ho hs hol hx (h w hsp (Ot.refl _ _))
theorem cap_of {q : Option Addr} {a b : Nat} (h : a ≤ b) : ∀ p k c, Value.slice q a b = .slice p k c → k ≤ c := fun p k c e => by
  injection e with _ e2 e3
  omega
theorem SpR.new {α : Type} {K : El} {enc : α → List Value} {w w' : World} {g m : Nat} {l : List α} (h : SpR K enc w g l m) (hb : Below w.heap.size w w') : SpR K enc w' g l m := h.kept (Ot.of_new (S := fun _ => False) hb) id
theorem spr_rl {α : Type} {K : El} {enc : α → List Value} {w : World} {g m k n : Nat} {l : List α} (hc : Cells K enc) (h : SpR K enc w g l m) (hk : l.length = k) (hn : n = k + m) (hb : n ≤ 1000003) : RL K.size enc w.heap.size w (.slice (some ⟨g, 0, none⟩) k n) l := by
  subst hk hn
  exact ol_rl hc (SpR.ol hc h (Nat.le_refl g) (by omega))
set_option maxRecDepth 100000 in
set_option maxHeartbeats 16000000 in
theorem codeApart_law (l : List NdD) (tests : Bool) (n : Nat) (w : World) (v : Value) (hv : RL 8 ndE n w v l) (hn : n ≤ w.heap.size) (hwf : ∀ x ∈ l, x.Wf) (hsm : ∀ x ∈ l, x.t.size ≤ 1048576) (hcap : ∀ p k c, v = .slice p k c → k ≤ c) (hll : l.length ≤ 1000000) (hT : Tens w) (hU : Tabs w) :
    Calls Tryd.prog 7 #[v, .bool tests] w fun e w' => e = .returned (.bool true) ∧ Below w.heap.size w w' := by
  have HKN := Lib.hid (codknown_any w)
  obtain ⟨E, hE⟩ : ∃ E, E = docE l tests := ⟨_, rfl⟩
  obtain ⟨C, hC⟩ : ∃ C, C = if E = 0 then codL l else [] := ⟨_, rfl⟩
  have hCw : ∀ i ∈ C, i.Wf := by
    rw [hC]; split
    · rename_i h0
      exact code_wf (hE.symm.trans h0) hwf hsm
    · intro i hi; cases hi
  have hCl : C.length ≤ 600 := by
    rw [hC]; split
    · rename_i h0
      obtain ⟨hi, hR⟩ := round_of (hE.symm.trans h0)
      have := hR.len
      have := hR.few
      omega
    · exact Nat.zero_le _
  obtain ⟨F, hF⟩ : ∃ F, F = bkE C tests := ⟨_, rfl⟩
  obtain ⟨D, hD⟩ : ∃ D, D = if F = 0 then decP 0 C [] [] else [] := ⟨_, rfl⟩
  have hDl : D.length ≤ 600 := by
    rw [hD]; split
    · rename_i h0
      have := undo_len (C := C) (C.length + 1) 0 C.length [] _ (by omega) ((back_same C tests).2 (hF.symm.trans h0))
      simp only [List.length_nil] at this
      omega
    · exact Nat.zero_le _
  have HVR := Lib.hid (fun w' (hb : Below w.heap.size w w') => hv.keep (hb.mono hn))
  have HCC := Lib.hid (fun w' x (hb : Below w.heap.size w w') (hr : RL 8 ndE w'.heap.size w' x l) (hc : ∀ p k c, x = .slice p k c → k ≤ c) => ccompile_ol (tests := tests) hr (Nat.le_refl _) hwf hsm hc (hT.below hb) (hU.below hb))
  have HDC := Lib.hid (fun w' (hb : Below w.heap.size w w') => doccompile_ol (tests := tests) (hv.keep (hb.mono hn)) (Nat.le_trans hn hb.size) hwf hsm)
  unfold CmO at HCC HDC
  rw [← hE, ← hC] at HCC HDC
  have HBK := Lib.hid (fun w' x (hb : Below w.heap.size w w') (hr : RL 8 insE w'.heap.size w' x C) => cback_ol (tests := tests) hr (Nat.le_refl _) hCw (hT.below hb) (hU.below hb))
  unfold BkO at HBK
  rw [← hF, ← hD] at HBK
  have HDB := Lib.hid (fun w' x (hr : RL 8 insE w'.heap.size w' x C) => docback_any (tests := tests) hr (Nat.le_refl _) hCw)
  unfold BkQ at HDB
  rw [← hF, ← hD] at HDB
  have HVE := Lib.hid (fun w' x (hr : RL 8 insE w'.heap.size w' x C) => verify_any C tests _ w' x hr (Nat.le_refl _))
  generalize verV (C.map two) tests = vv at HVE
  generalize verE (C.map two) tests = ve at HVE
  have HSN := Lib.hid (fun w' (a b : Value) n1 n2 (h1 : RL 8 ndE n1 w' a l) (h2 : RL 8 ndE n2 w' b l) => rsameN_refl h1 h2 hll)
  have HSD := Lib.hid (fun w' (a b : Value) n1 n2 (h1 : RL 8 ndE n1 w' a D) (h2 : RL 8 ndE n2 w' b D) => rsameN_refl h1 h2 (Nat.le_trans hDl (by decide)))
  have HSI := Lib.hid (fun w' (a b : Value) n1 n2 (h1 : RL 8 insE n1 w' a C) (h2 : RL 8 insE n2 w' b C) => isame_any h1 h2 (Nat.le_trans hCl (by decide)))
  rw [show sameB C C = true from (sameB_iff _ _).2 rfl] at HSI
  have HLC := Lib.hid (show ∀ p k c, v = .slice p k c → k ≤ c from hcap)
  obtain ⟨p, c, rfl, -⟩ := hv
  obtain ⟨len, hlen⟩ : ∃ len, len = l.length := ⟨_, rfl⟩
  obtain ⟨nC, hnC⟩ : ∃ nC, nC = C.length := ⟨_, rfl⟩
  obtain ⟨nD, hnD⟩ : ∃ nD, nD = D.length := ⟨_, rfl⟩
  have HL := Lib.hid hlen.symm
  have HLN := Lib.hid hnC.symm
  have HLD := Lib.hid hnD.symm
  rw [← hlen] at hll HDC HVR ⊢
  rw [← hnC] at hCl
  rw [← hnD] at hDl
  clear hE hC hF hD hCw hT hU hwf hsm hcap hlen hnC hnD
  obtain ⟨l3, hl3⟩ : ∃ l3, l3 = len + 3 := ⟨_, rfl⟩
  obtain ⟨c2, hc2⟩ : ∃ c2, c2 = nC + 2 := ⟨_, rfl⟩
  have E1 : (len : Int) + 3 = (l3 : Int) := by omega
  have E2 : (nC : Int) + 2 = (c2 : Int) := by omega
  have HL3 := Lib.hid hl3
  have HC2 := Lib.hid hc2
  have hl3b : l3 ≤ 1000003 := by omega
  have hc2b : c2 ≤ 602 := by omega
  have HLE := Lib.hid (show len ≤ l3 by omega)
  clear hl3 hc2
  go_enter Tryd.func7, Tryd.ntmps7
  go_wp2_with (first
    | (go_at_call 8; (with_reducible refine (HKN.out).mono ?_); rintro e w1 ⟨rfl, hb1⟩; have HB1 := Lib.hid hb1; have hz1 := hb1.size; clear hb1)
    | (at_make; refine wpList_make_sp ndK_ok ndE rfl _ _ rfl rfl rfl (by first | rfl | omega) (by omega) ?_; intro w2 hs2 hb2; have HB2 := Lib.hid (HB1.out.trans (hb2.mono HB1.out.size)); have HS2 := Lib.hid hs2; clear hs2 hb2)
    | (at_builtin; refine wpList_append_rl rfl ndK_ok ndE_cells rfl _ _ rfl HL.out rfl HS2.out HL3.out (by omega) rfl (HVR.out _ HB2.out) ?_; intro w3 hs3 ho3; have HB3 := Lib.hid (HB2.out.trans (ho3.below HB2.out.size (fun q hq => by omega))); have I3 := Lib.hid hs3; have R3 := Lib.hid (show RL 8 ndE w3.heap.size w3 _ l from spr_rl ndE_cells hs3 HL.out HL3.out hl3b); clear hs3 ho3)
    | (go_at_call 10; (with_reducible refine (HCC.out _ _ HB3.out R3.out (cap_of HLE.out)).mono ?_); rintro e w4 ⟨hb, v4, rfl, ho⟩; have HB4 := Lib.hid (HB3.out.trans (hb.mono HB3.out.size)); have I4 := Lib.hid (SpR.new I3.out hb); have R4 := Lib.hid ((R3.out.keep hb).more hb.size); obtain ⟨q4, c4, e4, -, hc4⟩ := OL.form ho; rw [HLN.out] at e4; subst e4; have A4 := Lib.hid ho; clear hc4; clear hb ho)
    | (go_at_call 10; (with_reducible refine (HCC.out _ _ HB4.out R4.out (cap_of HLE.out)).mono ?_); rintro e w5 ⟨hb, v5, rfl, ho⟩; have HB5 := Lib.hid (HB4.out.trans (hb.mono HB4.out.size)); have I5 := Lib.hid (SpR.new I4.out hb); have A5 := Lib.hid (OL.new A4.out hb); have R5 := Lib.hid ((R4.out.keep hb).more hb.size); have B5 := Lib.hid ho; clear hb ho)
    | (go_at_call 9; (with_reducible refine (HDC.out _ HB5.out).mono ?_); rintro e w6 ⟨hb, v6, rfl, ho⟩; have HB6 := Lib.hid (HB5.out.trans (hb.mono HB5.out.size)); have I6 := Lib.hid (SpR.new I5.out hb); have A6 := Lib.hid (OL.new A5.out hb); have B6 := Lib.hid (OL.new B5.out hb); have R6 := Lib.hid ((R5.out.keep hb).more hb.size); obtain ⟨q6, c6, e6, -, hc6⟩ := OL.form ho; rw [HLN.out] at e6; subst e6; have W6 := Lib.hid ho; clear hc6; clear hb ho)
    | (at_make; refine wpList_make_sp isK_ok insE rfl _ _ rfl rfl rfl (by first | rfl | omega) (by omega) ?_; intro w7 hs7 hb; have HB7 := Lib.hid (HB6.out.trans (hb.mono HB6.out.size)); have HS7 := Lib.hid hs7; have I7 := Lib.hid (SpR.new I6.out hb); have A7 := Lib.hid (OL.new A6.out hb); have B7 := Lib.hid (OL.new B6.out hb); have W7 := Lib.hid (OL.new W6.out hb); have R7 := Lib.hid ((R6.out.keep hb).more hb.size); clear hs7 hb)
    | (at_builtin; refine wpList_append_rl rfl isK_ok isE_cells rfl _ _ rfl HLN.out rfl HS7.out HC2.out (by omega) rfl (show RL 8 insE w7.heap.size w7 _ C from ol_rl isE_cells W7.out) ?_; intro w8 hs8 ho8; have HB8 := Lib.hid (HB7.out.trans (ho8.below HB7.out.size (fun q hq => by have := HB6.out.size; omega))); have I8 := Lib.hid (SpR.kept I7.out ho8 (fun e => by have := SpR.lt I6.out; omega)); have A8 := Lib.hid (OL.kept A7.out ho8 (fun k e1 e2 => by have := (World.ownsRow.lt A6.out k e1).2; omega)); have B8 := Lib.hid (OL.kept B7.out ho8 (fun k e1 e2 => by have := (World.ownsRow.lt B6.out k e1).2; omega)); have W8 := Lib.hid (OL.kept W7.out ho8 (fun k e1 e2 => by have := (World.ownsRow.lt W6.out k e1).2; omega)); have K8 := Lib.hid hs8; have Q8 := Lib.hid (show RL 8 insE w8.heap.size w8 _ C from spr_rl isE_cells hs8 HLN.out HC2.out (by omega)); clear hs8 ho8)
    | (go_at_call 13; (with_reducible refine (HBK.out _ _ HB8.out Q8.out).mono ?_); rintro e w9 ⟨hb, v9, rfl, ho⟩; have HB9 := Lib.hid (HB8.out.trans (hb.mono HB8.out.size)); have I9 := Lib.hid (SpR.new I8.out hb); have A9 := Lib.hid (OL.new A8.out hb); have B9 := Lib.hid (OL.new B8.out hb); have W9 := Lib.hid (OL.new W8.out hb); have K9 := Lib.hid (SpR.new K8.out hb); have Q9 := Lib.hid ((Q8.out.keep hb).more hb.size); obtain ⟨q9, c9, e9, -, hc9⟩ := OL.form ho; rw [HLD.out] at e9; subst e9; have X9 := Lib.hid ho; clear hc9; clear hb ho)
    | (go_at_call 13; (with_reducible refine (HBK.out _ _ HB9.out Q9.out).mono ?_); rintro e w10 ⟨hb, v10, rfl, ho⟩; have HB10 := Lib.hid (HB9.out.trans (hb.mono HB9.out.size)); have I10 := Lib.hid (SpR.new I9.out hb); have A10 := Lib.hid (OL.new A9.out hb); have B10 := Lib.hid (OL.new B9.out hb); have W10 := Lib.hid (OL.new W9.out hb); have K10 := Lib.hid (SpR.new K9.out hb); have X10 := Lib.hid (OL.new X9.out hb); have Q10 := Lib.hid ((Q9.out.keep hb).more hb.size); have Y10 := Lib.hid ho; clear hb ho)
    | (go_at_call 16; (with_reducible refine (HVE.out _ _ Q10.out).mono ?_); rintro e w11 ⟨rfl, hb⟩; have HB11 := Lib.hid (HB10.out.trans (hb.mono HB10.out.size)); have I11 := Lib.hid (SpR.new I10.out hb); have A11 := Lib.hid (OL.new A10.out hb); have B11 := Lib.hid (OL.new B10.out hb); have W11 := Lib.hid (OL.new W10.out hb); have K11 := Lib.hid (SpR.new K10.out hb); have X11 := Lib.hid (OL.new X10.out hb); have Y11 := Lib.hid (OL.new Y10.out hb); clear hb))
  have WA := Lib.hid (show 0 < nC → ∃ g, q4 = some ⟨g, 0, none⟩ ∧ WrR isK w11 g nC from fun h0 => by
    obtain ⟨q, c, e, hq, -⟩ := OL.form A11.out
    obtain ⟨g, rfl, -, -⟩ := hq (by rw [HLN.out]; exact h0)
    injection e with e1 e2 e3
    subst e1
    have := OL.wr A11.out
    rw [HLN.out] at this
    exact ⟨g, rfl, this⟩)
  have WX := Lib.hid (show 0 < nD → ∃ g, q9 = some ⟨g, 0, none⟩ ∧ WrR ndK w11 g nD from fun h0 => by
    obtain ⟨q, c, e, hq, -⟩ := OL.form X11.out
    obtain ⟨g, rfl, -, -⟩ := hq (by rw [HLD.out]; exact h0)
    injection e with e1 e2 e3
    subst e1
    have := OL.wr X11.out
    rw [HLD.out] at this
    exact ⟨g, rfl, this⟩)
  have O11 := Lib.hid (Ot.refl (fun q => (Value.slice q4 nC c4).ownBlock = some q) w11)
  go_loopw [17] (fun z wr => ∃ k : Nat, z = .int .i64 k ∧ k ≤ nC ∧ Hid (Ot (fun q => (Value.slice q4 nC c4).ownBlock = some q) w11 wr) ∧ Hid (0 < nC → ∃ g, q4 = some ⟨g, 0, none⟩ ∧ WrR isK wr g nC)) (fun z _ => nC - (intOf z).toNat)
  case atStart => exact ⟨0, rfl, Nat.zero_le _, O11, WA⟩
  case round =>
    obtain ⟨k, rfl, hk, HO, HW⟩ := hrel
    clear WA O11
    by_cases hkl : k < nC
    · have hkl1 : (k : Int) < (nC : Int) := by omega
      obtain ⟨g4, rfl, hw4⟩ := HW.out (by omega)
      have HW4 := Lib.hid hw4
      clear HW hw4
      go_wp2_with (first
        | (refine wpList_store_el isK_ok rfl _ _ rfl rfl (k := k) (cells := #[.int .i64 99, .int .i64 0, .string ⟨#[]⟩, .bool false, .int .u64 0, .int .u64 0, .int .i64 0, .int .i64 0]) (by first | rfl | (show _ = k * 8; omega)) rfl rfl (by kernel_rfl) HW4.out hkl ?_; intro w12 hw12 ho12 hz12; have HO2 := Lib.hid (HO.out.trans (ho12.more (fun q _ e => by subst e; rfl))); have HW5 := Lib.hid hw12; clear hw12 ho12 hz12))
      exact ⟨⟨k + 1, rfl, by omega, HO2, Lib.hid (fun _ => ⟨g4, rfl, HW5.out⟩)⟩, by simp [intOf]; omega⟩
    · have hkl1 : ¬ (k : Int) < (nC : Int) := by omega
      clear hkl HW
      have HBA := Lib.hid (HB11.out.trans (HO.out.below HB11.out.size (fun q hq => by have := (World.ownsRow.lt A4.out q hq).1; have := HB3.out.size; omega)))
      have IA := Lib.hid (SpR.kept I11.out HO.out (fun hq => by have := (World.ownsRow.lt A4.out _ hq).1; have := SpR.lt I3.out; omega))
      have KA := Lib.hid (SpR.kept K11.out HO.out (fun hq => by have := (World.ownsRow.lt A6.out _ hq).2; omega))
      have BA := Lib.hid (OL.kept B11.out HO.out (fun q e1 hq => by have := (World.ownsRow.lt A4.out q hq).2; have := (World.ownsRow.lt B5.out q e1).1; omega))
      have VA := Lib.hid (OL.kept W11.out HO.out (fun q e1 hq => by have := (World.ownsRow.lt A5.out q hq).2; have := (World.ownsRow.lt W6.out q e1).1; omega))
      have XA := Lib.hid (OL.kept X11.out HO.out (fun q e1 hq => by have := (World.ownsRow.lt A8.out q hq).2; have := (World.ownsRow.lt X9.out q e1).1; omega))
      have YA := Lib.hid (OL.kept Y11.out HO.out (fun q e1 hq => by have := (World.ownsRow.lt A9.out q hq).2; have := (World.ownsRow.lt Y10.out q e1).1; omega))
      have WX2 := Lib.hid (show 0 < nD → ∃ g, q9 = some ⟨g, 0, none⟩ ∧ WrR ndK wr g nD from fun h0 => by
        obtain ⟨g, rfl, hw⟩ := WX.out h0
        exact ⟨g, rfl, hw.kept HO.out (fun hq => by have := (World.ownsRow.lt A8.out _ hq).2; have := (World.ownsRow.lt X9.out g rfl).1; omega)⟩)
      have O12 := Lib.hid (Ot.refl (fun q => (Value.slice q9 nD c9).ownBlock = some q) wr)
      go_wp2
      go_loopw [18] (fun z w13 => ∃ k : Nat, z = .int .i64 k ∧ k ≤ nD ∧ Hid (Ot (fun q => (Value.slice q9 nD c9).ownBlock = some q) wr w13) ∧ Hid (0 < nD → ∃ g, q9 = some ⟨g, 0, none⟩ ∧ WrR ndK w13 g nD)) (fun z _ => nD - (intOf z).toNat)
      case atStart => exact ⟨0, rfl, Nat.zero_le _, O12, WX2⟩
      case round =>
        obtain ⟨k2, rfl, hk2, HP, HW2⟩ := hrel
        clear WX2 O12
        by_cases hkl : k2 < nD
        · have hkl1 : (k2 : Int) < (nD : Int) := by omega
          obtain ⟨g9, rfl, hw9⟩ := HW2.out (by omega)
          have HW9 := Lib.hid hw9
          clear HW2 hw9
          go_wp2_with (first
            | (refine wpList_store_el ndK_ok rfl _ _ rfl rfl (k := k2) (cells := #[.int .i64 99, .int .i64 0, .string ⟨#[]⟩, .bool false, .int .u64 0, .int .u64 0, .int .i64 0, .int .i64 0]) (by first | rfl | (show _ = k2 * 8; omega)) rfl rfl (by kernel_rfl) HW9.out hkl ?_; intro w14 hw14 ho14 hz14; have HP2 := Lib.hid (HP.out.trans (ho14.more (fun q _ e => by subst e; rfl))); have HW5 := Lib.hid hw14; clear hw14 ho14 hz14))
          exact ⟨⟨k2 + 1, rfl, by omega, HP2, Lib.hid (fun _ => ⟨g9, rfl, HW5.out⟩)⟩, by simp [intOf]; omega⟩
        · have hkl1 : ¬ (k2 : Int) < (nD : Int) := by omega
          clear hkl HW2
          have HBX := Lib.hid (HBA.out.trans (HP.out.below HBA.out.size (fun q hq => by have := (World.ownsRow.lt X9.out q hq).1; have := HB8.out.size; omega)))
          have IX := Lib.hid (SpR.kept IA.out HP.out (fun hq => by have := (World.ownsRow.lt X9.out _ hq).1; have := SpR.lt I8.out; omega))
          have KX := Lib.hid (SpR.kept KA.out HP.out (fun hq => by have := (World.ownsRow.lt X9.out _ hq).1; have := SpR.lt K8.out; omega))
          have BX := Lib.hid (OL.kept BA.out HP.out (fun q e1 hq => by have := (World.ownsRow.lt X9.out q hq).1; have := (World.ownsRow.lt B8.out q e1).2; omega))
          have VX := Lib.hid (OL.kept VA.out HP.out (fun q e1 hq => by have := (World.ownsRow.lt X9.out q hq).1; have := (World.ownsRow.lt W8.out q e1).2; omega))
          have YX := Lib.hid (OL.kept YA.out HP.out (fun q e1 hq => by have := (World.ownsRow.lt X9.out q hq).2; have := (World.ownsRow.lt Y10.out q e1).1; omega))
          have hle1 := HLE.out
          have hle2 : nC ≤ c2 := by have := HC2.out; omega
          obtain ⟨wf, hwf⟩ : ∃ wf, wf = wr := ⟨_, rfl⟩
          rw [← hwf] at HBX IX KX BX VX YX
          go_wp2
          rw [← hwf]
          clear hwf
          go_region
          go_wp2
          go_loopw [21] (fun z w16 => ∃ k : Nat, z = .int .i64 k ∧ len ≤ k ∧ k ≤ l3 ∧ ∃ d, w16 = wf.drewN d) (fun z _ => l3 - (intOf z).toNat)
          case atStart => exact ⟨len, rfl, Nat.le_refl _, hle1, _, rfl⟩
          case round =>
            obtain ⟨k3, rfl, hka, hkb, dd, rfl⟩ := hrel
            by_cases hkl3 : k3 < l3
            · have hkl1 : (k3 : Int) < (l3 : Int) := by omega
              have x0 : wf.cell? ⟨w1.heap.size, k3 * 8, none⟩ = some (.int .i64 0) := SpR.spare IX.out (i := 0) (by rw [HL.out]; omega) (by rw [HL.out]; have := HL3.out; omega) (by decide) rfl
              have x1 : wf.cell? ⟨w1.heap.size, k3 * 8 + 1, none⟩ = some (.int .i64 0) := SpR.spare IX.out (i := 1) (by rw [HL.out]; omega) (by rw [HL.out]; have := HL3.out; omega) (by decide) rfl
              have x2 : wf.cell? ⟨w1.heap.size, k3 * 8 + 2, none⟩ = some (.string ⟨#[]⟩) := SpR.spare IX.out (i := 2) (by rw [HL.out]; omega) (by rw [HL.out]; have := HL3.out; omega) (by decide) rfl
              have x3 : wf.cell? ⟨w1.heap.size, k3 * 8 + 3, none⟩ = some (.bool false) := SpR.spare IX.out (i := 3) (by rw [HL.out]; omega) (by rw [HL.out]; have := HL3.out; omega) (by decide) rfl
              have x4 : wf.cell? ⟨w1.heap.size, k3 * 8 + 4, none⟩ = some (.int .u64 0) := SpR.spare IX.out (i := 4) (by rw [HL.out]; omega) (by rw [HL.out]; have := HL3.out; omega) (by decide) rfl
              have x5 : wf.cell? ⟨w1.heap.size, k3 * 8 + 5, none⟩ = some (.int .u64 0) := SpR.spare IX.out (i := 5) (by rw [HL.out]; omega) (by rw [HL.out]; have := HL3.out; omega) (by decide) rfl
              have x6 : wf.cell? ⟨w1.heap.size, k3 * 8 + 6, none⟩ = some (.int .i64 0) := SpR.spare IX.out (i := 6) (by rw [HL.out]; omega) (by rw [HL.out]; have := HL3.out; omega) (by decide) rfl
              have x7 : wf.cell? ⟨w1.heap.size, k3 * 8 + 7, none⟩ = some (.int .i64 0) := SpR.spare IX.out (i := 7) (by rw [HL.out]; omega) (by rw [HL.out]; have := HL3.out; omega) (by decide) rfl
              go_wp2
              exact ⟨⟨k3 + 1, rfl, by omega, by omega, _, rfl⟩, by simp [intOf]; omega⟩
            · have hkl1 : ¬ (k3 : Int) < (l3 : Int) := by omega
              go_wp2
              go_loopw [22] (fun z w17 => ∃ k : Nat, z = .int .i64 k ∧ nC ≤ k ∧ k ≤ c2 ∧ ∃ d, w17 = wf.drewN d) (fun z _ => c2 - (intOf z).toNat)
              case atStart => exact ⟨nC, rfl, Nat.le_refl _, hle2, _, rfl⟩
              case round =>
                obtain ⟨k4, rfl, hka4, hkb4, d4, rfl⟩ := hrel
                by_cases hkl4 : k4 < c2
                · have hkl5 : (k4 : Int) < (c2 : Int) := by omega
                  have x0 : wf.cell? ⟨w6.heap.size, k4 * 8, none⟩ = some (.int .i64 0) := SpR.spare KX.out (i := 0) (by rw [HLN.out]; omega) (by rw [HLN.out]; have := HC2.out; omega) (by decide) rfl
                  have x1 : wf.cell? ⟨w6.heap.size, k4 * 8 + 1, none⟩ = some (.int .i64 0) := SpR.spare KX.out (i := 1) (by rw [HLN.out]; omega) (by rw [HLN.out]; have := HC2.out; omega) (by decide) rfl
                  have x2 : wf.cell? ⟨w6.heap.size, k4 * 8 + 2, none⟩ = some (.string ⟨#[]⟩) := SpR.spare KX.out (i := 2) (by rw [HLN.out]; omega) (by rw [HLN.out]; have := HC2.out; omega) (by decide) rfl
                  have x3 : wf.cell? ⟨w6.heap.size, k4 * 8 + 3, none⟩ = some (.bool false) := SpR.spare KX.out (i := 3) (by rw [HLN.out]; omega) (by rw [HLN.out]; have := HC2.out; omega) (by decide) rfl
                  have x4 : wf.cell? ⟨w6.heap.size, k4 * 8 + 4, none⟩ = some (.int .u64 0) := SpR.spare KX.out (i := 4) (by rw [HLN.out]; omega) (by rw [HLN.out]; have := HC2.out; omega) (by decide) rfl
                  have x5 : wf.cell? ⟨w6.heap.size, k4 * 8 + 5, none⟩ = some (.int .u64 0) := SpR.spare KX.out (i := 5) (by rw [HLN.out]; omega) (by rw [HLN.out]; have := HC2.out; omega) (by decide) rfl
                  have x6 : wf.cell? ⟨w6.heap.size, k4 * 8 + 6, none⟩ = some (.int .i64 0) := SpR.spare KX.out (i := 6) (by rw [HLN.out]; omega) (by rw [HLN.out]; have := HC2.out; omega) (by decide) rfl
                  have x7 : wf.cell? ⟨w6.heap.size, k4 * 8 + 7, none⟩ = some (.int .i64 0) := SpR.spare KX.out (i := 7) (by rw [HLN.out]; omega) (by rw [HLN.out]; have := HC2.out; omega) (by decide) rfl
                  go_wp2
                  exact ⟨⟨k4 + 1, rfl, by omega, by omega, _, rfl⟩, by simp [intOf]; omega⟩
                · have hkl5 : ¬ (k4 : Int) < (c2 : Int) := by omega
                  obtain ⟨wg, hwg⟩ : ∃ wg, wg = wf.drewN d4 := ⟨_, rfl⟩
                  have HBg := Lib.hid (show Below w.heap.size w wg by rw [hwg]; exact HBX.out.trans (by (repeat' (first | (with_reducible exact Below.refl _ _) | (with_reducible assumption) | (with_reducible refine Below.alloc ?_ ?_ _) | (with_reducible refine below_drewN ?_ _) | (with_reducible refine below_drew ?_) | (with_reducible refine below_ext ?_ ?_ _ _) | (with_reducible refine Below.setCell ?_ ?_ _) | (simp; done) | (simp; omega) | omega))))
                  have Ig := Lib.hid (show RL 8 ndE wg.heap.size wg (.slice (some ⟨w1.heap.size, 0, none⟩) len l3) l by rw [hwg]; exact spr_rl ndE_cells (show SpR ndK ndE (wf.drewN d4) w1.heap.size l 3 from IX.out) HL.out HL3.out hl3b)
                  have Kg := Lib.hid (show RL 8 insE wg.heap.size wg (.slice (some ⟨w6.heap.size, 0, none⟩) nC c2) C by rw [hwg]; exact spr_rl isE_cells (show SpR isK insE (wf.drewN d4) w6.heap.size C 2 from KX.out) HLN.out HC2.out (by omega))
                  have Bg := Lib.hid (show RL 8 insE wg.heap.size wg v5 C by rw [hwg]; exact ol_rl isE_cells (OL.drew BX.out d4))
                  have Vg := Lib.hid (show RL 8 insE wg.heap.size wg (.slice q6 nC c6) C by rw [hwg]; exact ol_rl isE_cells (OL.drew VX.out d4))
                  have Yg := Lib.hid (show RL 8 ndE wg.heap.size wg v10 D by rw [hwg]; exact ol_rl ndE_cells (OL.drew YX.out d4))
                  rw [← hwg]
                  clear hwg
                  go_wp2_with (first
                    | (go_at_call 12; (with_reducible refine (HDB.out _ _ Vg.out).mono ?_); rintro e w20 ⟨hb, v20, rfl, hr⟩; have HB20 := Lib.hid (HBg.out.trans (hb.mono HBg.out.size)); have Z20 := Lib.hid hr; have I20 := Lib.hid ((Ig.out.keep hb).more hb.size); have K20 := Lib.hid ((Kg.out.keep hb).more hb.size); have B20 := Lib.hid ((Bg.out.keep hb).more hb.size); have V20 := Lib.hid ((Vg.out.keep hb).more hb.size); have Y20 := Lib.hid ((Yg.out.keep hb).more hb.size); clear hb hr)
                    | (go_at_call 14; (with_reducible refine (HSN.out _ _ _ _ _ I20.out (HVR.out _ HB20.out)).mono ?_); rintro e w21 ⟨rfl, hb⟩; have HB21 := Lib.hid (HB20.out.trans (hb.mono HB20.out.size)); have K21 := Lib.hid ((K20.out.keep hb).more hb.size); have B21 := Lib.hid ((B20.out.keep hb).more hb.size); have V21 := Lib.hid ((V20.out.keep hb).more hb.size); have Y21 := Lib.hid ((Y20.out.keep hb).more hb.size); have Z21 := Lib.hid ((Z20.out.keep hb).more hb.size); clear hb)
                    | (go_at_call 11; (with_reducible refine (HSI.out _ _ _ _ _ K21.out V21.out).mono ?_); rintro e w22 ⟨rfl, hb⟩; have HB22 := Lib.hid (HB21.out.trans (hb.mono HB21.out.size)); have B22 := Lib.hid ((B21.out.keep hb).more hb.size); have V22 := Lib.hid ((V21.out.keep hb).more hb.size); have Y22 := Lib.hid ((Y21.out.keep hb).more hb.size); have Z22 := Lib.hid ((Z21.out.keep hb).more hb.size); clear hb)
                    | (go_at_call 11; (with_reducible refine (HSI.out _ _ _ _ _ B22.out V22.out).mono ?_); rintro e w23 ⟨rfl, hb⟩; have HB23 := Lib.hid (HB22.out.trans (hb.mono HB22.out.size)); have Y23 := Lib.hid ((Y22.out.keep hb).more hb.size); have Z23 := Lib.hid ((Z22.out.keep hb).more hb.size); clear hb)
                    | (go_at_call 14; (with_reducible refine (HSD.out _ _ _ _ _ Y23.out Z23.out).mono ?_); rintro e w24 ⟨rfl, hb⟩; have HB24 := Lib.hid (HB23.out.trans (hb.mono HB23.out.size)); clear hb))
                  go_ret
                  exact ⟨rfl, HB24.out⟩
end Go.Proofs.YtpgfgaloagdogaaDoor
namespace Go.Proofs.YtpgfgaloagdogaaDoor
open Go.ChangeShapes Go.WideShapes Go.ChangeAt Go.RowKit Go.Joins Go.Deep Num Word Txt

theorem nbulk_twice {H : Type} : ∀ l : List (DataW H), (∀ d ∈ l, 2 ≤ Rows.uptoBulk d) → 2 * l.length ≤ Rows.uptoBulkAll l
  | [], _ => Nat.zero_le _
  | e :: r, h => by
    show 2 * (r.length + 1) ≤ Rows.uptoBulk e + Rows.uptoBulkAll r
    have h1 := nbulk_twice r (fun d hd => h d (List.mem_cons_of_mem _ hd))
    have h2 := h e (List.mem_cons_self ..)
    omega
section
variable {H : Type} {enc : TypeId × Value → H} {w : World} {spare : Nat → Bool} {held : Bool}
set_option maxRecDepth 100000 in
theorem node_bulk {fuel : Nat} {cs : List Value} {x : DataW H × List MemPlace} (h : DataW.trod enc Tryd.prog w 0 spare held fuel 45 cs = some x) : 2 ≤ Rows.uptoBulk x.1 := by
  obtain ⟨y0, y1, y2, y3, y4, n, rfl, hx, -⟩ := trod_struct5 Tryd.underlying45 h
  rw [hx]
  have h2 : Rows.uptoBulk (DataW.agg [y0.1, y1.1, y2.1, y3.1, y4.1]) = Rows.uptoBulkAll [y0.1, y1.1, y2.1, y3.1, y4.1] + 1 := rfl
  have h3 := nbulk_len [y0.1, y1.1, y2.1, y3.1, y4.1]
  simp only [List.length_cons, List.length_nil] at h3
  omega
set_option maxRecDepth 100000 in
theorem nodes_few {r : Reach} {b0 : Nat} {x : Value} {d : DataW H} {p : List MemPlace} (hv : Value.okWide Tryd.prog w r b0 22 x) (h : DataW.Trod enc Tryd.prog w 0 spare held 22 x d p) (hb : Rows.uptoBulk d ≤ 1048576) :
    ∀ q k c, x = .slice q k c → k ≤ 1000000 := by
  obtain ⟨q, n, c, rfl⟩ := okWide_slice Tryd.underlying22 hv
  obtain ⟨fuel, hf⟩ := h
  rcases DataW.trod_slice Tryd.underlying22 hf with ⟨hcs0, -⟩ | ⟨ad, len, cap, elems, rest, n', hn', hcs0, hd, _, hlc, _, hlen, hel, _, _⟩
  · simp [Value.cells] at hcs0
    obtain ⟨rfl, rfl, rfl⟩ := hcs0
    intro q k c e
    injection e with _ e2 e3
    omega
  · simp [Value.cells] at hcs0
    obtain ⟨rfl, rfl, rfl⟩ := hcs0
    have hbl : Rows.uptoBulkAll (elems.map (·.1)) ≤ 1048576 := by
      have hd1 := congrArg Prod.fst hd
      simp only at hd1
      rw [hd1] at hb
      have : Rows.uptoBulkAll (elems.map (·.1)) + Rows.uptoBulkAll (rest.map (·.1)) + 1 ≤ 1048576 := hb
      omega
    have h2 : ∀ d ∈ elems.map (·.1), 2 ≤ Rows.uptoBulk d := fun d hd => by
      obtain ⟨y, hy, rfl⟩ := List.mem_map.1 hd
      obtain ⟨i, hi, rfl⟩ := List.getElem_of_mem hy
      have h1 := hel i (by omega)
      rw [icNode, List.getElem?_eq_getElem hi] at h1
      obtain ⟨cs', hc', ht'⟩ := Option.bind_eq_some_iff.1 h1
      exact node_bulk ht'
    have h3 := nbulk_twice _ h2
    rw [List.length_map] at h3
    intro q k c e
    injection e with _ e2 e3
    omega
end
end Go.Proofs.YtpgfgaloagdogaaDoor
