/-
  The document counts a value's parts: a stack of slices of its own.
-/
import Derived.Test.YtjkallelniggpaaGreatDoorValG
import Derived.Laws.OwnMore
import Derived.WalkSmall
namespace Go.Proofs.YtjkallelniggpaaGreatDoor
open Go.RowKit Word Txt
attribute [local go_sem] setCell_drewN cell?_ext frozen?_ext shape?_ext setCell_ext lt_1' ne_1' en_1' le_1' lt_2' ne_2' en_2' le_2' lt_3' ne_3' en_3' le_3' lt_4' ne_4' en_4' le_4' lt_5' ne_5' en_5' le_5' lt_6' ne_6' en_6' le_6' lt_7' ne_7' en_7' le_7' lt_8' ne_8' en_8' le_8' lt_9' ne_9' en_9' le_9' lt_10' ne_10' en_10' le_10' lt_11' ne_11' en_11' le_11' lt_12' ne_12' en_12' le_12'

theorem infoVs : (Tryz.prog.info? 24).map (fun i => (i.zero, i.size, i.bytes)) = some (some (.slice none 0 0), 1, 24) := by kernel_rfl
/-- a row of slices of the call's own -/
def SBuf (W0 : World) (v : Value) (l : List Value) (w : World) : Prop := w.ownsRow W0.heap.size 24 1 v l.length l ∧ Below W0.heap.size W0 w ∧ W0.heap.size ≤ w.heap.size
theorem SBuf.one (W0 : World) (u : Value) : SBuf W0 (.slice (some ⟨W0.heap.size, 0, none⟩) 1 1) [u] (W0.alloc (.cells #[u] 24)) :=
  ⟨⟨rfl, .inr ⟨W0.heap.size, 1, #[u], rfl, Nat.le_refl _, (MapKept.heap_alloc W0 _).1, Nat.le_refl _, by decide, rfl, rfl⟩⟩, Below.alloc (Below.refl _ _) (Nat.le_refl _) _, by simp⟩
theorem SBuf.alloc {W0 w : World} {v : Value} {l : List Value} (h : SBuf W0 v l w) (o : Obj) : SBuf W0 v l (w.alloc o) :=
  ⟨h.1.alloc o, h.2.1.alloc h.2.2 o, Nat.le_trans h.2.2 (by simp)⟩
theorem SBuf.drew {W0 w : World} {v : Value} {l : List Value} (h : SBuf W0 v l w) : SBuf W0 v l w.drew := ⟨h.1.drew, h.2.1.drew, h.2.2⟩
theorem SBuf.pop {W0 w : World} {g n cap : Nat} {l : List Value} {u : Value} (hn : l.length = n) (h : SBuf W0 (.slice (some ⟨g, 0, none⟩) (n + 1) cap) (l ++ [u]) w) : SBuf W0 (.slice (some ⟨g, 0, none⟩) n cap) l w := by
  subst hn
  refine ⟨ownsRow_pop (by simp) (last := [u]) (by have := h.1; simpa using this), h.2⟩
theorem SBuf.shape {W0 w : World} {v : Value} {l : List Value} (h : SBuf W0 v l w) (hl : 0 < l.length) : ∃ g cap, v = .slice (some ⟨g, 0, none⟩) l.length cap ∧ g < w.heap.size ∧ l.length ≤ cap ∧ ∀ j (hj : j < l.length), w.cell? ⟨g, j, none⟩ = some l[j] := by
  have h1 := h.1
  obtain ⟨h2, h3⟩ := h1
  rcases h3 with ⟨_, h0⟩ | ⟨g, cap, cur, rfl, _, hh, hc, _⟩
  · omega
  · refine ⟨g, cap, rfl, (h.1.lt g rfl).2, hc, fun j hj => ?_⟩
    rw [h.1.cellAt j (by omega)]
    simp [hj]
theorem append_sl {ops : Array Oper} {rest : List Oper} {o : Oper} {a : Act} {Q : Exit → Act → World → Prop} (hgd : o.guard = none) (s x : Operand)
    (ho : o.op = .call { callee := .builtin .append, args := #[s, x], argTypes := #[23, 23] })
    {v : Value} {l : List Value} (hs : a.eval s = v) (W0 w0 : World) (p : Option Addr) (n c : Nat) (hb : SBuf W0 v l w0)
    (hx : a.eval x = .slice (some ⟨w0.heap.size, 0, none⟩) 1 1) (hlen : l.length ≤ 1048576)
    (h : ∀ v' w', SBuf W0 v' (l ++ [.slice p n c]) w' → wpList Tryz.prog ops Q rest (a.put o.dst v') w') : wpList Tryz.prog ops Q (o :: rest) a (w0.alloc (.cells #[.slice p n c] 24)) := by
  obtain ⟨i0, hi, hz0, hz1, hz2⟩ := info_parts infoVs
  have hb' := hb.alloc (.cells #[.slice p n c] 24)
  refine wpList_append_own _ hgd s x 23 ho W0.heap.size 24 i0 (.slice none 0 0) 1 24 Tryz.underlying23 hi hz0 hz1 hz2 rfl (by decide) v l.length l hs hb'.1 ⟨w0.heap.size, 0, none⟩ 1 1 [.slice p n c] hx rfl ?_ ?_ (by unfold maxLen; omega) (by omega) hb'.2.2 ?_
  · intro j u hj
    match j, hj with
    | 0, hj => simp at hj; subst hj; simp [Addr.add]
    | (j + 1), hj => simp at hj
  · intro u hu; simp at hu; subst hu; rfl
  · intro v' w' ho' hg _
    refine h v' w' ⟨by simpa using ho', hb'.2.1.grown hg hb'.2.2 (fun k hk => (hb'.1.lt k hk).1), Nat.le_trans hb'.2.2 hg.size⟩
/-- what still lies on the stack -/
def sumC : List (List V × Value) → Nat
  | [] => 0
  | e :: r => countL e.1 + sumC r
theorem sumC_snoc : ∀ (s : List (List V × Value)) (e : List V × Value), sumC (s ++ [e]) = sumC s + countL e.1
  | [], e => by show countL e.1 + 0 = 0 + countL e.1; omega
  | f :: r, e => by show countL f.1 + sumC (r ++ [e]) = countL f.1 + sumC r + countL e.1; rw [sumC_snoc r e]; omega
/-- each slice on the stack reads as its values, and has some -/
def SK (n : Nat) (W0 : World) (s : List (List V × Value)) : Prop := ∀ e ∈ s, VSl n W0 e.1 e.2 ∧ e.1 ≠ [] ∧ e.1.length ≤ 1048576
theorem countL_drop (l : List V) (i : Nat) (h : i < l.length) : countL (l.drop i) = l[i].count + countL (l.drop (i + 1)) := by
  rw [List.drop_eq_getElem_cons h]; rfl
theorem count_list {k : Int} {yes neg : Bool} {c : Nat} {s : Int} {t : ByteArray} {day : Int} {l : List V} {ns : List ByteArray} : (V.mk k yes neg c s t day l ns).count = countL l + 1 := by unfold V.count; rfl
theorem sumC_len (n : Nat) (W0 : World) : ∀ s : List (List V × Value), SK n W0 s → s.length ≤ sumC s
  | [], _ => Nat.le_refl _
  | e :: r, h => by
    have ih := sumC_len n W0 r (fun x hx => h x (List.mem_cons_of_mem _ hx))
    have he := (h e (List.mem_cons_self ..)).2.1
    show r.length + 1 ≤ countL e.1 + sumC r
    obtain ⟨u, q, hu⟩ := List.exists_cons_of_ne_nil he
    rw [hu]
    show _ ≤ u.count + countL q + sumC r
    have := count_pos u
    omega
theorem SBuf.shape0 {W0 w : World} {v : Value} {l : List Value} (h : SBuf W0 v l w) : ∃ p cap, v = .slice p l.length cap := by
  rcases h.1.2 with ⟨e, h0⟩ | ⟨g, cap, cur, e, _⟩
  · exact ⟨none, 0, by rw [e, h0]⟩
  · exact ⟨_, _, e⟩
/-- the i-th of a row, by its list alone -/
theorem RowAt.kids {n : Nat} {w : World} {g : Nat} {l : List V} {o : Nat} (h : RowAt n w g l o) (i : Nat) (hi : i < l.length) : ∃ (l' : List V) (p : Option Addr) (c : Nat),
    w.cell? ⟨g, o + i * 10 + 8, none⟩ = some (.slice p l'.length c) ∧ VSl n w l' (.slice p l'.length c) ∧ l'.length ≤ 1048576 ∧ l[i].count = countL l' + 1 := by
  obtain ⟨k', yes', neg', a', b', s', t', day', pl', nl', cl', pn', nn', cn', h0, h1, h2, h3, h4, h5, h6, h7, h8, h9, hat⟩ := h.elem i hi
  obtain ⟨k, yes, neg, c, s, t, day, l', ns, e⟩ : ∃ k yes neg c s t day l' ns, l[i] = V.mk k yes neg c s t day l' ns := by cases l[i]; exact ⟨_, _, _, _, _, _, _, _, _, rfl⟩
  rw [e] at hat
  obtain ⟨lv, nv, hx, hb, hL, hN, _⟩ := at_mk hat
  obtain ⟨pl, cl, rfl⟩ := hL.shape
  simp only [Value.agg.injEq, Array.mk.injEq, List.cons.injEq, and_true] at hx
  obtain ⟨-, -, -, -, -, -, -, -, hq, -⟩ := hx
  refine ⟨l', pl, cl, ?_, hL, hb.2.2.1, by rw [e, count_list]⟩
  rw [h8, hq]
mutual
theorem V.At.more {n n' : Nat} {w : World} (hn : n ≤ n') : ∀ {v : V} {x : Value}, v.At n w x → v.At n' w x
  | .mk k yes neg c s t day l ns, x, h => by
    unfold V.At at h ⊢
    obtain ⟨lv, nv, e, b, hl, hN, hs⟩ := h
    refine ⟨lv, nv, e, b, ?_, ?_, hs⟩
    · rcases hl with h | ⟨g, o, cap, e, h1, h2, h3⟩
      · exact .inl h
      · exact .inr ⟨g, o, cap, e, by omega, h2, RowAt.more hn h3⟩
    · rcases hN with h | ⟨g, o, cap, e, h1, h2, h3⟩
      · exact .inl h
      · exact .inr ⟨g, o, cap, e, by omega, h2, h3⟩
theorem RowAt.more {n n' : Nat} {w : World} (hn : n ≤ n') {g : Nat} : ∀ {l : List V} {o : Nat}, RowAt n w g l o → RowAt n' w g l o
  | [], _, _ => by unfold RowAt; trivial
  | v :: r, o, h => by
    unfold RowAt at h ⊢
    obtain ⟨⟨x0, x1, x2, x3, x4, x5, x6, x7, x8, x9, h0, h1, h2, h3, h4, h5, h6, h7, h8, h9, ha⟩, hr⟩ := h
    exact ⟨⟨x0, x1, x2, x3, x4, x5, x6, x7, x8, x9, h0, h1, h2, h3, h4, h5, h6, h7, h8, h9, V.At.more hn ha⟩, RowAt.more hn hr⟩
end
/-- what holds between two rounds -/
structure CI (W0 : World) (total m : Nat) (stk : List (List V × Value)) : Prop where
  sk : SK W0.heap.size W0 stk
  le : m ≤ 1001
  up : m + sumC stk ≤ total
  eq : m ≤ 1000 → m + sumC stk = total
  len : stk.length ≤ m + 1
/-- what holds within a round -/
structure CJ (W0 : World) (total m m0 j : Nat) (stk : List (List V × Value)) (rest : List V) : Prop where
  sk : SK W0.heap.size W0 stk
  le : m ≤ 1001
  on : m = m0 + j
  eq : m + sumC stk + countL rest = total
  len : stk.length ≤ m
set_option maxHeartbeats 8000000 in
set_option maxRecDepth 100000 in
theorem rcount_any (v : V) (n : Nat) (w : World) (x : Value) (hx : v.At n w x) (hnw : n ≤ w.heap.size) :
    Calls Tryz.prog 10 #[x, .int .i64 1000] w fun e w' => (∃ m : Nat, e = .returned (.int .i64 (m : Int)) ∧ m ≤ 1001 ∧ (v.count ≤ 1000 → m = v.count) ∧ (1000 < v.count → 1000 < m)) ∧ Below w.heap.size w w' := by
  obtain ⟨k, yes, neg, c, s, t, day, l0, ns, hv⟩ : ∃ k yes neg c s t day l ns, v = V.mk k yes neg c s t day l ns := by cases v; exact ⟨_, _, _, _, _, _, _, _, _, rfl⟩
  obtain ⟨pl, nl, cl, pn, nn, cn, rfl⟩ : ∃ pl nl cl pn nn cn, x = VC k yes neg c s t day (.slice pl nl cl) (.slice pn nn cn) := by
    rw [hv] at hx
    obtain ⟨lv, nv, rfl, _, hL, hN, _⟩ := at_mk hx
    obtain ⟨pl, cl, rfl⟩ := hL.shape
    obtain ⟨pn, cn, rfl⟩ := hN.shape
    exact ⟨_, _, _, _, _, _, rfl⟩
  clear hv
  obtain ⟨bx, hbx⟩ : ∃ bx, bx = Obj.cells #[.int .i64 k, .bool yes, .bool neg, .int .u64 (Word.hi c : Int), .int .u64 (lo c : Int), .int .i64 s, .string t, .int .i64 day, .slice pl nl cl, .slice pn nn cn] 34 := ⟨_, rfl⟩
  obtain ⟨W0, hW0⟩ : ∃ W0, W0 = (w.alloc bx).alloc bx := ⟨_, rfl⟩
  have hsz : W0.heap.size = w.heap.size + 1 + 1 := by rw [hW0]; simp
  have hb0 : Below w.heap.size w W0 := by rw [hW0]; exact Below.alloc (Below.alloc (Below.refl _ _) (Nat.le_refl _) _) (by simp) _
  have hrow0 : RowAt W0.heap.size W0 (w.heap.size + 1) [v] 0 := by
    unfold RowAt
    refine ⟨⟨_, _, _, _, _, _, _, _, _, _, ?_, ?_, ?_, ?_, ?_, ?_, ?_, ?_, ?_, ?_, (hx.below (hb0.mono hnw)).more (by omega)⟩, by unfold RowAt; trivial⟩
    all_goals
      rw [hW0, hbx]
      simp [go_sem]
  have hci : CI W0 v.count 0 [([v], .slice (some ⟨w.heap.size + 1, 0, none⟩) 1 1)] := by
    have hs : sumC [([v], .slice (some ⟨w.heap.size + 1, 0, none⟩) 1 1)] = v.count := by show v.count + 0 + 0 = _; omega
    refine ⟨?_, by omega, by omega, fun _ => by omega, by simp⟩
    intro e he
    simp at he
    subst he
    exact ⟨.inr ⟨_, _, _, rfl, by omega, by omega, hrow0⟩, by simp, by simp⟩
  have hsb : SBuf W0 (.slice (some ⟨w.heap.size + 1 + 1, 0, none⟩) 1 1) [.slice (some ⟨w.heap.size + 1, 0, none⟩) 1 1] (W0.alloc (.cells #[.slice (some ⟨w.heap.size + 1, 0, none⟩) 1 1] 24)) := by
    have := SBuf.one W0 (.slice (some ⟨w.heap.size + 1, 0, none⟩) 1 1)
    rwa [hsz] at this
  have HCI := Lib.hid hci
  have HSB := Lib.hid hsb
  have HB0 := Lib.hid hb0
  have HSZ := Lib.hid hsz
  obtain ⟨total, htot⟩ : ∃ total, total = v.count := ⟨_, rfl⟩
  rw [← htot] at HCI ⊢
  clear hx hci hsb hrow0 hb0 htot hsz
  go_enter Tryz.func10, Tryz.ntmps10
  go_wp2
  rw [← hbx, ← hW0]
  go_loopw [5, 6] (fun a tv wr => ∃ (m : Nat) (stk : List (List V × Value)), a = .int .i64 m ∧ SBuf W0 tv (stk.map Prod.snd) wr ∧ CI W0 total m stk) (fun a _ _ => 1001 - (intOf a).toNat)
  case atStart => exact ⟨0, [([v], .slice (some ⟨w.heap.size + 1, 0, none⟩) 1 1)], rfl, HSB.out, HCI.out⟩
  case round =>
    obtain ⟨m, stk, rfl, hsb, hci⟩ := hrel
    clear HSB HCI hbx hW0
    obtain ⟨tp, tc, rfl⟩ := hsb.shape0
    have HCI := Lib.hid hci
    have HSB := Lib.hid hsb
    have hb : Below w.heap.size w wr := HB0.out.trans (hsb.2.1.mono (by have := HSZ.out; omega))
    have HB := Lib.hid hb
    by_cases hs : stk = []
    · subst hs
      have HE := Lib.hid (show m ≤ 1001 ∧ (total ≤ 1000 → m = total) ∧ (1000 < total → 1000 < m) by
        obtain ⟨a1, a2, a3, a4, a5⟩ := hci
        have h0 : sumC [] = 0 := rfl
        rw [h0] at a3 a4
        refine ⟨a2, fun h => ?_, fun h => ?_⟩
        · have := a4 (by omega); omega
        · by_cases h9 : m ≤ 1000
          · have := a4 h9; omega
          · omega)
      clear hci hsb hb
      go_wp2
      go_ret
      exact ⟨⟨m, rfl, HE.out⟩, HB.out⟩
    obtain ⟨s0, e, hse⟩ : ∃ s0 e, stk = s0 ++ [e] := ⟨stk.dropLast, stk.getLast hs, (List.dropLast_concat_getLast hs).symm⟩
    subst hse
    clear hs
    by_cases hm : m ≤ 1000
    · have hmi : (m : Int) ≤ 1000 := by omega
      obtain ⟨e1, e2⟩ := e
      have hek := hci.sk (e1, e2) (by simp)
      simp only at hek
      obtain ⟨hvs, hne, hel⟩ := hek
      rcases hvs with ⟨h, _⟩ | ⟨g', o', cap', he2, hgn', hg', hrow⟩
      · exact absurd h hne
      subst he2
      obtain ⟨q, hq⟩ : ∃ q, q = s0.length := ⟨_, rfl⟩
      have hlen : (List.map Prod.snd (s0 ++ [(e1, .slice (some ⟨g', o', none⟩) e1.length cap')])).length = q + 1 := by simp [hq]
      rw [hlen] at hsb HSB ⊢
      obtain ⟨g, cap, hts, hgr, hcap, hcell⟩ := hsb.shape (by rw [hlen]; omega)
      rw [hlen] at hts hcap
      simp only [Value.slice.injEq, true_and] at hts
      obtain ⟨rfl, rfl⟩ := hts
      have hce : wr.cell? ⟨g, q, none⟩ = some (.slice (some ⟨g', o', none⟩) e1.length cap') := by
        rw [hcell q (by rw [hlen]; omega)]
        simp [hq]
      have hql : q ≤ 1002 := by have := hci.len; simp at this; omega
      have HPOP := Lib.hid (show SBuf W0 (.slice (some ⟨g, 0, none⟩) q tc) (s0.map Prod.snd) wr from by
        have h := hsb
        rw [List.map_append] at h
        exact SBuf.pop (by simp [hq]) h)
      have HCJ := Lib.hid (show CJ W0 total m m 0 s0 e1 from by
        have h1 := hci.eq hm
        rw [sumC_snoc] at h1
        exact ⟨fun x hx => hci.sk x (by simp [hx]), by omega, by omega, by simpa [Nat.add_assoc] using h1, by have := hci.len; simp at this; omega⟩)
      have HROW := Lib.hid hrow
      have hel0 : 0 < e1.length := List.length_pos_iff.2 hne
      have hqi : IntKind.i64.wrap ((q : Int) + 1 - 1) = (q : Int) := by rw [IntWalk.i64_in _ (by omega)]; omega
      have HQ := Lib.hid hq
      clear hci hsb hb hcell hlen HSB HCI hrow hq hne
      go_wp2
      go_loopw [5, 6, 8] (fun a tv i wr => ∃ (m1 j : Nat) (stk : List (List V × Value)), a = .int .i64 m1 ∧ i = .int .i64 j ∧ j ≤ e1.length ∧ SBuf W0 tv (stk.map Prod.snd) wr ∧ CJ W0 total m1 m j stk (e1.drop j)) (fun _ _ i _ => e1.length - (intOf i).toNat)
      case atStart => exact ⟨m, 0, s0, rfl, rfl, by omega, HPOP.out, HCJ.out⟩
      case round =>
        obtain ⟨m1, j, stk, rfl, rfl, hj, hsb, hcj⟩ := hrel
        obtain ⟨tp, tc2, rfl⟩ := hsb.shape0
        rw [List.length_map] at hsb ⊢
        have HSB2 := Lib.hid hsb
        have HCJ2 := Lib.hid hcj
        have hm1 := hcj.le
        have hst := hcj.len
        by_cases hjl : j < e1.length
        · have hji : (j : Int) < e1.length := by omega
          by_cases hm2 : m1 ≤ 1000
          · have hmi2 : (m1 : Int) ≤ 1000 := by omega
            obtain ⟨l', p', c', hc8, hv', hl', hcnt⟩ := HROW.out.kids j hjl
            have hg0 : g' < wr.heap.size := Nat.lt_of_lt_of_le hg' hsb.2.1.size
            have hc8' : wr.cell? ⟨g', o' + j * 10 + 8, none⟩ = some (.slice p' l'.length c') := (hsb.2.1.cell (p := ⟨g', _, none⟩) (by have := hgn'; omega)).trans hc8
            have HV2 := Lib.hid hv'
            have HCNT := Lib.hid hcnt
            have HDR := Lib.hid (countL_drop e1 j hjl)
            by_cases hz : l'.length = 0
            · rw [hz] at hc8'
              have HCN := Lib.hid (show CJ W0 total (m1 + 1) m (j + 1) stk (e1.drop (j + 1)) from by
                obtain ⟨b1, b2, b3, b4, b5⟩ := HCJ2.out
                have hl0 : l' = [] := List.length_eq_zero_iff.1 hz
                rw [HDR.out, HCNT.out, hl0, show countL [] = 0 from rfl] at b4
                exact ⟨b1, by omega, by omega, by omega, by omega⟩)
              clear hsb hcj hc8 hv' hcnt
              go_wp2
              go_roundw
              case rel => exact ⟨m1 + 1, j + 1, stk, by go_num, by go_num, by omega, HSB2.out, HCN.out⟩
              case measure => simp [intOf]; omega
            · have hz1 : (0 : Int) < l'.length := by omega
              have HCN := Lib.hid (show CJ W0 total (m1 + 1) m (j + 1) (stk ++ [(l', .slice p' l'.length c')]) (e1.drop (j + 1)) from by
                obtain ⟨b1, b2, b3, b4, b5⟩ := HCJ2.out
                rw [HDR.out, HCNT.out] at b4
                refine ⟨fun x hx => ?_, by omega, by omega, by rw [sumC_snoc]; simp only; omega, by simp; omega⟩
                rcases List.mem_append.1 hx with h | h
                · exact b1 x h
                · simp at h
                  subst h
                  exact ⟨HV2.out, fun e => hz (by simp only at e; rw [e]; rfl), hl'⟩)
              clear hsb hcj hc8 hv' hcnt
              go_wp2_with (at_builtin; refine append_sl (v := .slice tp stk.length tc2) (l := stk.map Prod.snd) rfl _ _ rfl rfl W0 wr p' l'.length c' HSB2.out rfl (by simp; omega) ?_; intro tv' w' hb')
              have HB2 := Lib.hid hb'
              go_roundw
              case rel => exact ⟨m1 + 1, j + 1, stk ++ [(l', .slice p' l'.length c')], by go_num, by go_num, by omega, by rw [List.map_append]; exact HB2.out, HCN.out⟩
              case measure => simp [intOf]; omega
          · have hmi2 : ¬ (m1 : Int) ≤ 1000 := by omega
            have HCN := Lib.hid (show CI W0 total m1 stk ∧ m < m1 from by
              obtain ⟨b1, b2, b3, b4, b5⟩ := HCJ2.out
              exact ⟨⟨b1, b2, by omega, fun h => by omega, by omega⟩, by omega⟩)
            clear hsb hcj
            go_wp2
            go_roundw
            case rel => exact ⟨m1, stk, rfl, HSB2.out, HCN.out.1⟩
            case measure => have := HCN.out.2; simp [intOf]; omega
        · obtain rfl : j = e1.length := by omega
          have hji : ¬ (e1.length : Int) < e1.length := by omega
          have HCN := Lib.hid (show CI W0 total m1 stk ∧ m < m1 from by
            obtain ⟨b1, b2, b3, b4, b5⟩ := HCJ2.out
            rw [List.drop_length, show countL [] = 0 from rfl] at b4
            exact ⟨⟨b1, b2, by omega, fun h => by omega, by omega⟩, by omega⟩)
          clear hsb hcj
          go_wp2
          go_roundw
          case rel => exact ⟨m1, stk, rfl, HSB2.out, HCN.out.1⟩
          case measure => have := HCN.out.2; simp [intOf]; omega
    · have hmi : ¬ (m : Int) ≤ 1000 := by omega
      have HE := Lib.hid (show m ≤ 1001 ∧ (total ≤ 1000 → m = total) ∧ (1000 < total → 1000 < m) by
        obtain ⟨a1, a2, a3, a4, a5⟩ := hci
        exact ⟨a2, fun h => by omega, fun h => by omega⟩)
      have hst : 0 < (List.map Prod.snd (s0 ++ [e])).length := by simp
      have hsti : (0 : Int) < (List.map Prod.snd (s0 ++ [e])).length := by omega
      generalize (List.map Prod.snd (s0 ++ [e])).length = q at *
      clear hci hsb hb HCI HSB
      go_wp2
      go_ret
      exact ⟨⟨m, rfl, HE.out⟩, HB.out⟩
end Go.Proofs.YtjkallelniggpaaGreatDoor
