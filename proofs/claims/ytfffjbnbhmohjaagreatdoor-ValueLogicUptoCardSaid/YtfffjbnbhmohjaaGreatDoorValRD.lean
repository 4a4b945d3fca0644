/-
  A row of truths of the call's own; where a name stands: Find.
-/
import Derived.Test.YtfffjbnbhmohjaaGreatDoorValRS
import Derived.Laws.OwnMore
namespace Go.Proofs.YtfffjbnbhmohjaaGreatDoor
open Go.RowKit Word Txt
attribute [local go_sem] setCell_drewN cell?_ext frozen?_ext shape?_ext setCell_ext lt_1' ne_1' en_1' le_1' lt_2' ne_2' en_2' le_2' lt_3' ne_3' en_3' le_3' lt_4' ne_4' en_4' le_4' lt_5' ne_5' en_5' le_5' lt_6' ne_6' en_6' le_6' lt_7' ne_7' en_7' le_7' lt_8' ne_8' en_8' le_8' lt_9' ne_9' en_9' le_9' lt_10' ne_10' en_10' le_10' lt_11' ne_11' en_11' le_11' lt_12' ne_12' en_12' le_12'

/-- a truth's cells -/
def tvCells (p : P3) : List Value := [.int .i64 p.1, .bool p.2, .bool false, .int .u64 0, .int .u64 0, .int .i64 0, .string ⟨#[]⟩, .int .i64 0, .slice none 0 0, .slice none 0 0]
theorem infoVal : (Tryz.prog.info? 30).map (fun i => (i.zero.map (fun z => z.cells.size), i.size, i.bytes)) = some (some 10, 10, 120) := by kernel_rfl
theorem info_val : ∃ i z, Tryz.prog.info? 30 = some i ∧ i.zero = some z ∧ z.cells.size = 10 ∧ i.size = 10 ∧ i.bytes = 120 := by
  have h := infoVal
  cases hi : Tryz.prog.info? 30 with
  | none => rw [hi] at h; simp at h
  | some i =>
    rw [hi] at h
    simp only [Option.map_some, Option.some.injEq, Prod.mk.injEq] at h
    cases hz : i.zero with
    | none => rw [hz] at h; simp at h
    | some z => rw [hz] at h; exact ⟨i, z, rfl, hz, by simpa using h.1, h.2.1, h.2.2⟩
/-- the slice v holds these truths in a row of the call's own -/
def PBufV (W0 : World) (v : Value) (ps : List P3) (w : World) : Prop := w.ownsRow W0.heap.size 30 10 v ps.length (ps.flatMap tvCells) ∧ Below W0.heap.size W0 w
theorem PBufV.nil (W0 : World) {w : World} (hb : Below W0.heap.size W0 w) : PBufV W0 (.slice none 0 0) [] w := ⟨World.ownsRow_nil _ _ _ _, hb⟩
theorem PBufV.grow {W0 w w' : World} {v : Value} {ps : List P3} (h : PBufV W0 v ps w) (hb : Below w.heap.size w w') : PBufV W0 v ps w' :=
  ⟨h.1.kept (row := none) ⟨hb.os, hb.tape, hb.output, hb.size, fun k hk _ => hb.block k hk⟩ (by cases hv : v.ownBlock <;> simp), h.2.trans (hb.mono h.2.size)⟩
theorem PBufV.shape {W0 w : World} {v : Value} {ps : List P3} (h : PBufV W0 v ps w) : ∃ p c, v = .slice p ps.length c := by
  rcases h.1.2 with ⟨e, h0⟩ | ⟨g, cap, cur, e, _⟩
  · exact ⟨none, 0, by rw [e, h0]⟩
  · exact ⟨_, _, e⟩
theorem row_of_cells (n : Nat) (w : World) (g : Nat) : ∀ (ps : List P3) (o : Nat), (∀ j, j < ps.length * 10 → w.cell? ⟨g, o + j, none⟩ = (ps.flatMap tvCells)[j]?) → RowAt n w g (ps.map tvV) o
  | [], _, _ => by unfold RowAt; trivial
  | p :: r, o, h => by
    have hh : ∀ j, j < 10 → w.cell? ⟨g, o + j, none⟩ = (tvCells p)[j]? := fun j hj => by
      rw [h j (by simp; omega), List.flatMap_cons, List.getElem?_append_left (by show j < 10; exact hj)]
    rw [List.map_cons]
    unfold RowAt
    refine ⟨⟨_, _, _, _, _, _, _, _, _, _, hh 0 (by omega), hh 1 (by omega), hh 2 (by omega), hh 3 (by omega), hh 4 (by omega), hh 5 (by omega), hh 6 (by omega), hh 7 (by omega), hh 8 (by omega), hh 9 (by omega), tv_at p n w⟩, row_of_cells n w g r (o + 10) fun j hj => ?_⟩
    have := h (10 + j) (by simp; omega)
    rw [List.flatMap_cons, List.getElem?_append_right (by show 10 ≤ 10 + j; omega)] at this
    rw [show o + 10 + j = o + (10 + j) by omega, this]
    congr 1
    show 10 + j - 10 = j
    omega
theorem PBufV.sl {W0 w : World} {v : Value} {ps : List P3} (h : PBufV W0 v ps w) : VSl w.heap.size w (ps.map tvV) v := by
  rcases h.1.2 with ⟨e, h0⟩ | ⟨g, cap, cur, e, hb, hg, _⟩
  · exact .inl ⟨by rw [List.length_eq_zero_iff.1 h0]; rfl, none, 0, e⟩
  · subst e
    have hlt := (h.1.lt g rfl).2
    exact .inr ⟨g, 0, cap, by rw [List.length_map], hlt, hlt, row_of_cells _ _ _ _ _ fun j hj => by rw [Nat.zero_add]; exact h.1.cellAt j hj⟩
theorem tri_tv (ps : List P3) : (ps.map tvV).map V.tri = ps := by
  rw [List.map_map]
  induction ps with
  | nil => rfl
  | cons p r ih => rw [List.map_cons, ih]; rfl
/-- one truth more -/
theorem append_tv {o : Oper} {a : Act} {K : Act → World → Prop} {Q : Exit → Act → World → Prop} (s x : Operand)
    (ho : o.op = .call { callee := .builtin .append, args := #[s, x], argTypes := #[27, 27] })
    {v : Value} {ps : List P3} (hs : a.eval s = v) (W0 w0 : World) (k : Int) (y : Bool) (b : Nat) (hb : PBufV W0 v ps w0) (hbs : b = w0.heap.size) (hx : a.eval x = .slice (some ⟨b, 0, none⟩) 1 1) (hlen : ps.length ≤ 1048576)
    (h : ∀ v' w', PBufV W0 v' (ps ++ [(k, y)]) w' → K (a.put o.dst v') w') : o.wp Tryz.prog a (w0.alloc (.cells #[.int .i64 k, .bool y, .bool false, .int .u64 0, .int .u64 0, .int .i64 0, .string ⟨#[]⟩, .int .i64 0, .slice none 0 0, .slice none 0 0] 30)) K Q := by
  subst hbs
  obtain ⟨i, z, hi, hz, hzs, hsz, hby⟩ := info_val
  have hb' := hb.grow (Below.alloc (Below.refl w0.heap.size w0) (Nat.le_refl _) (.cells #[.int .i64 k, .bool y, .bool false, .int .u64 0, .int .u64 0, .int .i64 0, .string ⟨#[]⟩, .int .i64 0, .slice none 0 0, .slice none 0 0] 30))
  refine wp_append_own _ s x 27 ho W0.heap.size 30 i z 10 120 Tryz.underlying27 hi hz hsz hby hzs (by decide) v ps.length (ps.flatMap tvCells) hs hb'.1 ⟨w0.heap.size, 0, none⟩ 1 1 (tvCells (k, y)) hx rfl ?_ ?_ (by unfold maxLen; omega) (by omega) hb'.2.size ?_
  · intro j u hj
    have hj10 : j < 10 := by
      rcases Nat.lt_or_ge j 10 with h9 | h9
      · exact h9
      · rw [List.getElem?_eq_none (by show 10 ≤ j; exact h9)] at hj; cases hj
    have h11 : j = 0 ∨ j = 1 ∨ j = 2 ∨ j = 3 ∨ j = 4 ∨ j = 5 ∨ j = 6 ∨ j = 7 ∨ j = 8 ∨ j = 9 := by omega
    rcases h11 with rfl | rfl | rfl | rfl | rfl | rfl | rfl | rfl | rfl | rfl
    all_goals
      simp [tvCells] at hj
      subst hj
      simp [Addr.add]
  · intro u hu
    simp only [tvCells, List.mem_cons, List.not_mem_nil, or_false] at hu
    rcases hu with rfl | rfl | rfl | rfl | rfl | rfl | rfl | rfl | rfl | rfl <;> rfl
  · intro v' w' ho' hg _
    refine h v' w' ⟨by simpa using ho', hb'.2.grown hg hb'.2.size (fun k hk => (hb'.1.lt k hk).1)⟩
/-- where a name stands, or -1 -/
def findI (ns : List ByteArray) (s : ByteArray) : Int := if idx ns s < ns.length then (idx ns s : Int) else -1
set_option maxHeartbeats 4000000 in
theorem rFind_any (k : Int) (yes neg : Bool) (c : Nat) (s : Int) (t : ByteArray) (day : Int) (pl : Option Addr) (nl cl : Nat) (n : Nat) (ns : List ByteArray) (nv : Value) (x : ByteArray) (w : World) (hN : NSl n w ns nv) (hl : ns.length ≤ 1048576) (_hnw : n ≤ w.heap.size) :
    Calls Tryz.prog 57 #[VC k yes neg c s t day (.slice pl nl cl) nv, .string x] w fun e w' => e = .returned (.int .i64 (findI ns x)) ∧ Below w.heap.size w w' := by
  obtain ⟨pn, cn, rfl⟩ := hN.shape
  have HAN := Lib.hid hN
  obtain ⟨fr, hfr⟩ : ∃ fr, fr = findI ns x := ⟨_, rfl⟩
  rw [← hfr]
  have HFR := Lib.hid hfr
  obtain ⟨nn, hnn⟩ : ∃ nn, ns.length = nn := ⟨_, rfl⟩
  have HNN := Lib.hid hnn
  rw [hnn] at HAN hl ⊢
  clear hN hfr hnn
  obtain ⟨bx, hbx⟩ : ∃ bx, bx = Obj.cells #[.int .i64 k, .bool yes, .bool neg, .int .u64 (Word.hi c : Int), .int .u64 (lo c : Int), .int .i64 s, .string t, .int .i64 day, .slice pl nl cl, .slice pn nn cn] 30 := ⟨_, rfl⟩
  go_enter Tryz.func57, Tryz.ntmps57
  go_wp2
  rw [← hbx]
  go_loopw [5] (fun i wr => ∃ m : Nat, m ≤ nn ∧ i = .int .i64 m ∧ (∃ (os : Array Obj) (d : Nat), wr = ext (w.alloc bx) os d) ∧ NEQ ns x m) (fun i _ => nn - (intOf i).toNat)
  case atStart => exact ⟨0, by omega, rfl, ⟨_, _, ext_here _⟩, by unfold NEQ; simp⟩
  case round =>
    obtain ⟨m, hm, rfl, ⟨osR, dR, rfl⟩, hs0⟩ := hrel
    have HS := Lib.hid hs0
    clear hs0
    by_cases hml : m < nn
    · have hi' : (m : Int) < nn := by omega
      have h1 : m < ns.length := by have := HNN.out; omega
      obtain ⟨g, o, rfl, hg, hr⟩ : ∃ g o, pn = some ⟨g, o, none⟩ ∧ g < w.heap.size ∧ NamesAt w g ns o := by
        rcases HAN.out with ⟨h, _⟩ | ⟨g, o, cap, h, _, hg, hr⟩
        · rw [h] at h1; simp at h1
        · simp only [Value.slice.injEq] at h; exact ⟨g, o, h.1, hg, hr⟩
      obtain ⟨a, ha⟩ : ∃ a, a = ns[m] := ⟨_, rfl⟩
      have c1 : w.cell? ⟨g, o + m, none⟩ = some (.string a) := by rw [ha]; exact hr.get m h1
      have hg1 : g < w.heap.size + 1 := by omega
      have HAa := Lib.hid ha
      obtain ⟨v, hv⟩ : ∃ v, (a.toList == x.toList) = v := ⟨_, rfl⟩
      have HV := Lib.hid hv
      clear ha hr HAN
      subst hbx
      cases v
      · go_wp2
        go_roundw
        case rel => exact ⟨m + 1, by omega, by go_num, ext_of_below (by (repeat' (first | (with_reducible exact Below.refl _ _) | (with_reducible assumption) | (with_reducible refine Below.alloc ?_ ?_ _) | (with_reducible refine below_drewN ?_ _) | (with_reducible refine below_drew ?_) | (with_reducible refine below_ext ?_ ?_ _ _) | (with_reducible refine Below.setCell ?_ ?_ _) | (simp; done) | (simp; omega) | omega))), by
          unfold NEQ
          rw [takeSnoc ns m h1]
          intro z hz
          rcases List.mem_append.1 hz with h | h
          · exact HS.out z h
          · simp at h; rw [h, ← HAa.out]; exact (Lib.bytes_beq_false_iff _ _).1 HV.out⟩
        case measure => simp [intOf]; omega
      · have HR := Lib.hid (show fr = (m : Int) by
          have e1 : ns[m] = x := by rw [← HAa.out]; exact (Lib.bytes_beq_iff _ _).1 HV.out
          have h2 := idx_first m h1 e1
          have h3 : idx ns x = m := by
            by_cases h4 : idx ns x < m
            · have h5 := idx_get (ns := ns) (s := x) (by omega)
              exact absurd h5 (HS.out _ (by rw [List.mem_take_iff_getElem]; exact ⟨idx ns x, by omega, rfl⟩))
            · omega
          rw [HFR.out]; unfold findI; rw [h3, if_pos h1])
        go_wp2
        go_ret
        exact ⟨by rw [HR.out]; rfl, by (repeat' (first | (with_reducible exact Below.refl _ _) | (with_reducible assumption) | (with_reducible refine Below.alloc ?_ ?_ _) | (with_reducible refine below_drewN ?_ _) | (with_reducible refine below_drew ?_) | (with_reducible refine below_ext ?_ ?_ _ _) | (with_reducible refine Below.setCell ?_ ?_ _) | (simp; done) | (simp; omega) | omega))⟩
    · obtain rfl : m = nn := by omega
      have hi' : ¬ (m : Int) < m := by omega
      have HR := Lib.hid (show fr = -1 by
        rw [HFR.out]; unfold findI
        rw [if_neg]
        intro h
        have h5 := idx_get h
        exact HS.out x (by rw [← HNN.out, List.take_length]; exact h5 ▸ List.getElem_mem h) rfl)
      subst hbx
      go_wp2
      go_ret
      exact ⟨by rw [HR.out]; rfl, by (repeat' (first | (with_reducible exact Below.refl _ _) | (with_reducible assumption) | (with_reducible refine Below.alloc ?_ ?_ _) | (with_reducible refine below_drewN ?_ _) | (with_reducible refine below_drew ?_) | (with_reducible refine below_ext ?_ ?_ _ _) | (with_reducible refine Below.setCell ?_ ?_ _) | (simp; done) | (simp; omega) | omega))⟩
end Go.Proofs.YtfffjbnbhmohjaaGreatDoor
