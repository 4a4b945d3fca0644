/-
  What is compiled is sound, is undone to itself, and its jumps lead forward: plain.
  Instructions compared by slices.Equal; nodes compared; Back.
  CodeRound, the law.
-/
import Derived.Test.YtpgfgaloagdogaaDoorBo
import Derived.Test.YtpgfgaloagdogaaDoorBk
import Derived.Test.YtpgfgaloagdogaaDoorBp
namespace Go.Proofs.YtpgfgaloagdogaaDoor
open Go.RowKit Num Word Txt Vm

/-- each node that is checked is right -/
theorem docM_all {l : List NdD} : ∀ {r : List NdD} {ps : List (List Nat)} {D : List Nat} {d : Nat} {q}, docM l r ps D d = some q → ∀ j (h : j < r.length), okD l r[j] (ps.getD j []) = true
  | [], _, _, _, _, _, j, h => absurd h (Nat.not_lt_zero j)
  | x :: r, ps, D, d, q, e, j, h => by
    unfold docM at e
    split at e
    case isFalse => cases e
    case isTrue ho =>
    cases j with
    | zero => cases ps with
      | nil => exact ho
      | cons p ps => exact ho
    | succ j =>
      have := docM_all e j (by simpa using h)
      cases ps with
      | nil => simpa using this
      | cons p ps => simpa using this
/-- all that a check that says yes tells -/
structure Yes (l : List NdD) (tests : Bool) (q : Nat) (P : List (List Nat)) (L : List Nat) : Prop where
  stk : stkP 0 l [] = some ([q], P)
  tree : Tr l P L
  whole : Chain L 0 [q] l.length
  few : l.length ≤ 300
  ok : ∀ i, i < l.length → okD l (ndA l i) (P.getD i []) = true
  top : 3 ≤ sortN (ndA l q).op → tests = true
theorem yes_of {l : List NdD} {tests : Bool} (h : docE l tests = 0) : ∃ q P L, Yes l tests q P L := by
  obtain ⟨h300, hpos, q, P, hs⟩ := docE_zero h
  obtain ⟨L, hT, hch⟩ := tree_of hs
  suffices hh : (∀ i, i < l.length → okD l (ndA l i) (P.getD i []) = true) ∧ (3 ≤ sortN (ndA l q).op → tests = true) from ⟨q, P, L, ⟨hs, hT, hch, h300, hh.1, hh.2⟩⟩
  have hq : q + 1 = l.length := hch.2.2
  unfold docE at h
  rw [if_neg (by omega), hs] at h
  unfold docS at h
  simp only [List.length_cons, List.length_nil] at h
  rw [if_neg (by omega)] at h
  cases hm : docM l l P [] 0 with
  | none => rw [hm] at h; cases h
  | some e =>
    rw [hm] at h
    refine ⟨fun i hi => by rw [nd_at hi]; exact docM_all hm i hi, fun h3 => ?_⟩
    unfold docT at h
    simp only at h
    rw [show l.length - 1 = q by omega, op_at l (by omega)] at h
    cases tests with
    | true => rfl
    | false =>
      rw [if_pos (.inr ⟨rfl, by omega⟩)] at h
      cases h
section
variable {l : List NdD} {tests : Bool} {q : Nat} {P : List (List Nat)} {L : List Nat}
theorem Yes.srt (h : Yes l tests q P L) : Srt l P := fun i hi => by
  have h1 := h.ok i hi
  unfold okD at h1
  rw [Bool.and_eq_true, Bool.and_eq_true] at h1
  exact h1.2.1
theorem Yes.fill (h : Yes l tests q P L) {i : Nat} (hi : i < l.length) : filledB (ndA l i).op (ndA l i).t (ndA l i).neg (ndA l i).c (ndA l i).s (ndA l i).day = true := by
  have h1 := h.ok i hi
  unfold okD at h1
  rw [Bool.and_eq_true] at h1
  exact h1.1
theorem bare_of {x : NdD} (hf : filledB x.op x.t x.neg x.c x.s x.day = true) (ho : x.op = 21 ∨ x.op = 23) : x.t = ⟨#[]⟩ ∧ x.neg = false ∧ x.c = 0 ∧ x.s = 0 ∧ x.day = 0 := by
  unfold filledB textB numB dayB at hf
  rw [if_neg (by omega), if_neg (by omega), if_neg (by omega), if_neg (by omega), if_neg (by omega)] at hf
  simp only [Bool.and_eq_true, decide_eq_true_eq] at hf
  obtain ⟨h1, ⟨h2, h3, h4⟩, h5⟩ := hf
  refine ⟨?_, h2, h3, h4, h5⟩
  generalize x.t = t at h1 ⊢
  obtain ⟨⟨t⟩⟩ := t
  have h6 : t.length = 0 := h1
  rw [List.eq_nil_of_length_eq_zero h6]
theorem Yes.bare (h : Yes l tests q P L) : BareN l := fun i hi => by
  have hf := h.fill hi
  have hk := ndA_takes h.tree hi
  obtain ⟨x, hx⟩ : ∃ x, x = ndA l i := ⟨_, rfl⟩
  rw [← hx] at hf hk ⊢
  obtain ⟨op, k, t, neg, c, s, day⟩ := x
  clear hx
  simp only at hf hk ⊢
  constructor
  · intro ho
    subst ho
    obtain ⟨e1, e2, e3, e4, e5⟩ := bare_of (x := ⟨21, k, t, neg, c, s, day⟩) hf (.inl rfl)
    have e6 := takes_if hk
    simp only at e1 e2 e3 e4 e5
    subst e1 e2 e3 e4 e5 e6; rfl
  · intro ho
    subst ho
    obtain ⟨e1, e2, e3, e4, e5⟩ := bare_of (x := ⟨23, k, t, neg, c, s, day⟩) hf (.inr rfl)
    have e6 := takes_in hk
    simp only at e1 e2 e3 e4 e5
    subst e1 e2 e3 e4 e5 e6; rfl
theorem Yes.code (h : Yes l tests q P L) : codL l = ofF l P l.length q 0 := by
  have h2 : q + 1 = l.length := h.whole.2.2
  unfold codL
  rw [h.stk, show l.length - 1 = q by omega]
theorem Yes.back (h : Yes l tests q P L) : decP 0 (codL l) [] [] = l := by
  rw [h.code]; exact dec_whole h.tree h.bare h.whole
theorem Yes.len (h : Yes l tests q P L) : (codL l).length ≤ 2 * l.length := by
  have h1 : L.getD q 0 = 0 := h.whole.1
  have h2 : q + 1 = l.length := h.whole.2.2
  rw [h.code]
  have := ofF_len h.tree l.length q (by omega) 0
  omega
theorem Yes.run (h : Yes l tests q P L) : ∃ hi, progR (codL l).length (finN tests) ((codL l).map two) 0 (m0 (finN tests)) 0 = some hi ∧ 1 ≤ hi ∧ hi ≤ l.length := by
  have h1 : L.getD q 0 = 0 := h.whole.1
  have h2 : q + 1 = l.length := h.whole.2.2
  have hfin : 0 ≤ finN tests := by unfold finN; split <;> omega
  rw [h.code]
  obtain ⟨m', hi, e1, e2, e3, e4, e5, e6⟩ := (run_thing h.tree h.srt (ofF l P l.length q 0).length (finN tests) l.length q (by omega) (by omega) 0 (m0 (finN tests)) 0 0 (finN tests) (Int.le_refl 0) hfin (fun h3 => by
    have := h.top h3
    subst this
    unfold finN; simp) (by omega) (by unfold m0; simp) (fun j hj _ => by unfold m0; rw [if_neg (by omega)]) (.inl (by
      have := ofF_pos (l := l) (P := P) (l.length - 1) q 0
      rw [show l.length - 1 + 1 = l.length by omega] at this
      unfold m0; rw [if_neg (by omega)]))).ran
  refine ⟨hi, ?_, by simpa using e5, by omega⟩
  have := e1 []
  rw [List.append_nil, Nat.zero_add] at this
  rw [this]
  rw [Nat.zero_add] at e2
  show (if m' (ofF l P l.length q 0).length = some (1, finN tests) then some hi else none) = some hi
  rw [if_pos (by rw [e2]; simp)]
theorem prog_fwd {len : Nat} {fin : Int} : ∀ {r : List (Int × Int)} {i : Nat} {m : Nat → Option St} {hi h : Int}, progR len fin r i m hi = some h → ∀ j (hj : j < r.length), jmp r[j].1 → ((i + j : Nat) : Int) < r[j].2 ∧ r[j].2 ≤ len
  | [], _, _, _, _, _, j, hj, _ => absurd hj (Nat.not_lt_zero j)
  | (op, a) :: r, i, m, hi, h, e, j, hj, hjm => by
    unfold progR at e
    split at e
    case h_2 => cases e
    case h_1 t s ht hs =>
    split at e
    case isFalse => cases e
    case isTrue hok =>
    cases j with
    | zero => exact hok.1.2.2 hjm
    | succ j =>
      have := prog_fwd e j (by simpa using hj) hjm
      simp only [List.getElem_cons_succ]
      rw [show i + (j + 1) = i + 1 + j by omega]
      exact this
end
end Go.Proofs.YtpgfgaloagdogaaDoor
namespace Go.Proofs.YtpgfgaloagdogaaDoor
open Go.RowKit Go.Maps Go.WideMaps Num Word Txt
attribute [local go_sem] setCell_drewN cell?_ext frozen?_ext shape?_ext setCell_ext lt_1' ne_1' en_1' le_1' lt_2' ne_2' en_2' le_2' lt_3' ne_3' en_3' le_3' lt_4' ne_4' en_4' le_4' lt_5' ne_5' en_5' le_5' lt_6' ne_6' en_6' le_6' lt_7' ne_7' en_7' le_7' lt_8' ne_8' en_8' le_8' lt_9' ne_9' en_9' le_9' lt_10' ne_10' en_10' le_10' lt_11' ne_11' en_11' le_11' lt_12' ne_12' en_12' le_12'

set_option maxRecDepth 100000 in
set_option maxHeartbeats 4000000 in
theorem iequal_any {l m : List InsD} {n1 n2 : Nat} {w : World} {v x : Value} (hv : RL 8 insE n1 w v l) (hx : RL 8 insE n2 w x m) (hl : l.length ≤ 1000000) :
    Calls Tryd.prog 23 #[v, x] w fun e w' => e = .returned (.bool (sameB l m)) ∧ Below w.heap.size w w' := by
  obtain ⟨p, c, rfl, hp⟩ := hv
  obtain ⟨q, d, rfl, hq⟩ := hx
  obtain ⟨R, hR⟩ : ∃ R, R = sameB l m := ⟨_, rfl⟩
  have HR := Lib.hid hR
  obtain ⟨ll, hll⟩ : ∃ ll, ll = l.length := ⟨_, rfl⟩
  obtain ⟨lm, hlm⟩ : ∃ lm, lm = m.length := ⟨_, rfl⟩
  have HP := Lib.hid hp
  have HQ := Lib.hid hq
  have HLL := Lib.hid hll
  have HLM := Lib.hid hlm
  rw [← hR]
  rw [← hll] at hl ⊢
  rw [← hlm]
  have hmg : Tryd.prog.eqGuardType Tryd.prog.depth 43 = false := by kernel_rfl
  by_cases hne : ll = lm
  · have hRd : sameB (l.drop 0) (m.drop 0) = R := by rw [List.drop_zero, List.drop_zero]; exact hR.symm
    have HR0 := Lib.hid hRd
    clear hp hq hll hlm hR hRd
    subst hne
    go_enter Tryd.func23, Tryd.ntmps23
    go_wp2
    go_loopw [13] (fun z wr => ∃ k : Nat, z = .int .i64 k ∧ k ≤ ll ∧ Hid (sameB (l.drop k) (m.drop k) = R) ∧ (∃ d, wr = w.drewN d)) (fun z _ => ll - (intOf z).toNat)
    case atStart => exact ⟨0, rfl, Nat.zero_le _, HR0, 0, rfl⟩
    case round =>
      obtain ⟨k, rfl, hk, hrn, dd, rfl⟩ := hrel
      clear HR0
      by_cases hkl : k < ll
      · have hkl1 : (k : Int) < (ll : Int) := by omega
        have hk1 : k < l.length := by rw [← HLL.out]; exact hkl
        have hk2 : k < m.length := by rw [← HLM.out]; exact hkl
        obtain ⟨g1, o1, rfl, hg1, hc1⟩ := HP.out (by omega)
        obtain ⟨g2, o2, rfl, hg2, hc2⟩ := HQ.out (by omega)
        obtain ⟨op, a, t, neg, hh, lo', s, day, e1, x0, x1, x2, x3, x4, x5, x6, x7⟩ := ins_cells hc1 k hk1
        obtain ⟨op', a', t', neg', hh', lo'', s', day', e2, y0, y1, y2, y3, y4, y5, y6, y7⟩ := ins_cells hc2 k hk2
        have HRN := Lib.hid (show (insB ⟨op, a, t, neg, hh, lo', s, day⟩ ⟨op', a', t', neg', hh', lo'', s', day'⟩ && sameB (l.drop (k + 1)) (m.drop (k + 1))) = R by
          rw [← hrn.out, List.drop_eq_getElem_cons hk1, List.drop_eq_getElem_cons hk2, e1, e2]; rfl)
        have HE : ∀ w, (Op.equalIn 10000 43 (.agg #[.int .i64 op, .int .i64 a, .string t, .bool neg, .int .u64 hh, .int .u64 lo', .int .i64 s, .int .i64 day]) (.agg #[.int .i64 op', .int .i64 a', .string t', .bool neg', .int .u64 hh', .int .u64 lo'', .int .i64 s', .int .i64 day'])).run Tryd.prog w = .ok (insB ⟨op, a, t, neg, hh, lo', s, day⟩ ⟨op', a', t', neg', hh', lo'', s', day'⟩) w := fun w => inseq_any ⟨op, a, t, neg, hh, lo', s, day⟩ ⟨op', a', t', neg', hh', lo'', s', day'⟩ w
        clear hc1 hc2 e1 e2
        generalize insB ⟨op, a, t, neg, hh, lo', s, day⟩ ⟨op', a', t', neg', hh', lo'', s', day'⟩ = bb at HE HRN
        cases bb with
        | true =>
          have HRT := Lib.hid (show sameB (l.drop (k + 1)) (m.drop (k + 1)) = R by rw [← HRN.out]; rfl)
          go_wp2
          go_region
          all_goals
            go_wp2
            exact ⟨⟨k + 1, rfl, by omega, HRT, _, rfl⟩, by simp [intOf]; omega⟩
        | false =>
          have HRT := Lib.hid (show R = false by rw [← HRN.out]; rfl)
          go_wp2
          go_region
          all_goals
            go_wp2
            go_ret
            exact ⟨by rw [HRT.out]; rfl, by (repeat' (first | (with_reducible exact Below.refl _ _) | (with_reducible assumption) | (with_reducible refine Below.alloc ?_ ?_ _) | (with_reducible refine below_drewN ?_ _) | (with_reducible refine below_drew ?_) | (with_reducible refine below_ext ?_ ?_ _ _) | (with_reducible refine Below.setCell ?_ ?_ _) | (simp; done) | (simp; omega) | omega))⟩
      · have hkl1 : ¬ (k : Int) < (ll : Int) := by omega
        have HRT := Lib.hid (show R = true by rw [← hrn.out, List.drop_eq_nil_of_le (by rw [← HLL.out]; omega), List.drop_eq_nil_of_le (by rw [← HLM.out]; omega)]; rfl)
        go_wp2
        go_ret
        exact ⟨by rw [HRT.out]; rfl, by (repeat' (first | (with_reducible exact Below.refl _ _) | (with_reducible assumption) | (with_reducible refine Below.alloc ?_ ?_ _) | (with_reducible refine below_drewN ?_ _) | (with_reducible refine below_drew ?_) | (with_reducible refine below_ext ?_ ?_ _ _) | (with_reducible refine Below.setCell ?_ ?_ _) | (simp; done) | (simp; omega) | omega))⟩
  · have hnI : ((ll : Int) != (lm : Int)) = true := bne_iff_ne.2 (by omega)
    have hRf : R = false := by
      cases h : R with
      | false => rfl
      | true => exact absurd (by rw [hll, hlm]; exact sameB_len (by rw [← hR, h])) hne
    have HRT := Lib.hid hRf
    clear hp hq hll hlm hR hRf
    have hne2 : ¬ (ll : Int) = (lm : Int) := by omega
    go_enter Tryd.func23, Tryd.ntmps23
    go_wp2
    go_ret
    exact ⟨by rw [HRT.out]; rfl, by (repeat' (first | (with_reducible exact Below.refl _ _) | (with_reducible assumption) | (with_reducible refine Below.alloc ?_ ?_ _) | (with_reducible refine below_drewN ?_ _) | (with_reducible refine below_drew ?_) | (with_reducible refine below_ext ?_ ?_ _ _) | (with_reducible refine Below.setCell ?_ ?_ _) | (simp; done) | (simp; omega) | omega))⟩
theorem nodeq_refl (op k : Int) (t : ByteArray) (neg : Bool) (h l s day : Int) (w : World) : (Op.equalIn 10000 45 (NodV op k t neg h l s day) (NodV op k t neg h l s day)).run Tryd.prog w = .ok true w := by
  have u1 := Tryd.underlying9
  have a1 := Tryd.isAgg9
  have z1 := Tryd.sizeOf9
  have u2 := Tryd.underlying3
  have a2 := Tryd.isAgg3
  have z2 := Tryd.sizeOf3
  have a3 := Tryd.isAgg41
  have z3 := Tryd.sizeOf41
  have e := deq99 neg neg h l s h l s
  rw [decide_eq_true (p := neg = neg ∧ (h = h ∧ l = l) ∧ s = s) ⟨rfl, ⟨rfl, rfl⟩, rfl⟩] at e
  have hS : Tryd.prog.underlying 45 = some (.struct (Tryd.prog.fieldsOf 45)) := by kernel_rfl
  have hp : Tryd.prog.stoodInHeld 45 = false := by kernel_rfl
  rw [show (10000 : Nat) = 9999 + 1 from rfl, run_equalIn_agg w 9999 45 _ _ hS hp]
  simp only [Program.fieldsOf, Tryd.underlying45]
  go_simp
set_option maxRecDepth 100000 in
set_option maxHeartbeats 4000000 in
theorem rsameN_refl {l : List NdD} {n1 n2 : Nat} {w : World} {v x : Value} (hv : RL 8 ndE n1 w v l) (hx : RL 8 ndE n2 w x l) (hl : l.length ≤ 1000000) :
    Calls Tryd.prog 14 #[v, x] w fun e w' => e = .returned (.bool true) ∧ Below w.heap.size w w' := by
  obtain ⟨p, c, rfl, hp⟩ := hv
  obtain ⟨q, d, rfl, hq⟩ := hx
  obtain ⟨ll, hll⟩ : ∃ ll, ll = l.length := ⟨_, rfl⟩
  have HP := Lib.hid hp
  have HQ := Lib.hid hq
  have HLL := Lib.hid hll
  rw [← hll] at hl ⊢
  have hmg : Tryd.prog.eqGuardType Tryd.prog.depth 45 = false := by kernel_rfl
  clear hp hq hll
  go_enter Tryd.func14, Tryd.ntmps14
  go_wp2
  go_loopw [5] (fun z wr => ∃ k : Nat, z = .int .i64 k ∧ k ≤ ll ∧ (∃ d, wr = w.drewN d)) (fun z _ => ll - (intOf z).toNat)
  case atStart => exact ⟨0, rfl, Nat.zero_le _, 0, rfl⟩
  case round =>
    obtain ⟨k, rfl, hk, dd, rfl⟩ := hrel
    by_cases hkl : k < ll
    · have hkl1 : (k : Int) < (ll : Int) := by omega
      have hk1 : k < l.length := by rw [← HLL.out]; exact hkl
      obtain ⟨g1, o1, rfl, hg1, hc1⟩ := HP.out (by omega)
      obtain ⟨g2, o2, rfl, hg2, hc2⟩ := HQ.out (by omega)
      obtain ⟨op, kk, t, neg, c8, s, day, e1, x0, x1, x2, x3, x4, x5, x6, x7⟩ := nd_cells hc1 k hk1
      have hcy : ∀ i u, (ndE ⟨op, kk, t, neg, c8, s, day⟩)[i]? = some u → w.cell? ⟨g2, o2 + k * 8 + i, none⟩ = some u := fun i u hu => hc2 k hk1 i u (by rw [e1]; exact hu)
      have y0 := hcy 0 _ rfl
      have y1 := hcy 1 _ rfl
      have y2 := hcy 2 _ rfl
      have y3 := hcy 3 _ rfl
      have y4 := hcy 4 _ rfl
      have y5 := hcy 5 _ rfl
      have y6 := hcy 6 _ rfl
      have y7 := hcy 7 _ rfl
      rw [Nat.add_zero] at y0
      have HE : ∀ w, (Op.equalIn 10000 45 (.agg #[.int .i64 op, .int .i64 kk, .string t, .bool neg, .int .u64 (hi c8 : Int), .int .u64 (lo c8 : Int), .int .i64 s, .int .i64 day]) (.agg #[.int .i64 op, .int .i64 kk, .string t, .bool neg, .int .u64 (hi c8 : Int), .int .u64 (lo c8 : Int), .int .i64 s, .int .i64 day])).run Tryd.prog w = .ok true w := fun w => nodeq_refl op kk t neg _ _ s day w
      simp only at y0 y1 y2 y3 y4 y5 y6 y7
      generalize (hi c8 : Int) = ha at *
      generalize (lo c8 : Int) = la at *
      clear hc1 hc2 e1 hcy
      go_wp2
      go_region
      all_goals
        go_wp2
        exact ⟨⟨k + 1, rfl, by omega, _, rfl⟩, by simp [intOf]; omega⟩
    · have hkl1 : ¬ (k : Int) < (ll : Int) := by omega
      go_wp2
      go_ret
      exact ⟨rfl, by (repeat' (first | (with_reducible exact Below.refl _ _) | (with_reducible assumption) | (with_reducible refine Below.alloc ?_ ?_ _) | (with_reducible refine below_drewN ?_ _) | (with_reducible refine below_drew ?_) | (with_reducible refine below_ext ?_ ?_ _ _) | (with_reducible refine Below.setCell ?_ ?_ _) | (simp; done) | (simp; omega) | omega))⟩
theorem insN_wf {x : NdD} (hw : x.Wf) (ht : x.t.size ≤ 1048576) : (insN x).Wf := by
  have hc := hw.c
  unfold top2 at hc
  have h1 : hi x.c < 18446744073709551616 := by unfold hi; omega
  have h2 : lo x.c < 18446744073709551616 := by unfold lo; omega
  refine ⟨?_, ?_, ht, fun _ => ?_⟩
  · show 0 ≤ (hi x.c : Int) ∧ (hi x.c : Int) < 18446744073709551616
    omega
  · show 0 ≤ (lo x.c : Int) ∧ (lo x.c : Int) < 18446744073709551616
    omega
  · have := hw.k
    show -9223372036854775808 ≤ (if _ then x.k else 0) ∧ (if _ then x.k else 0) < 9223372036854775808
    split <;> omega
theorem iC_wf {op a : Int} (h : 100 < op) : (iC op a).Wf := ⟨⟨by show (0 : Int) ≤ 0; omega, by show (0 : Int) < 18446744073709551616; omega⟩, ⟨by show (0 : Int) ≤ 0; omega, by show (0 : Int) < 18446744073709551616; omega⟩, Nat.zero_le _, fun hc => by
  have : Vm.cnt op := hc
  unfold Vm.cnt at this
  omega⟩
theorem rwF_all {Pr : InsD → Prop} {f : Nat → Nat → List InsD} {op : Int} {fr : Nat} (h3 : Pr (iC 103 0)) : ∀ (ps : List Nat) (k : Nat) (out : List InsD), (∀ p ∈ ps, ∀ fr, ∀ y ∈ f p fr, Pr y) → (∀ y ∈ out, Pr y) → ∀ y ∈ rwF f op fr k ps out, Pr y
  | [], _, _, _, ho, y, hy => ho y hy
  | p :: ps, k, out, hf, ho, y, hy => by
    refine rwF_all h3 ps (k + 1) _ (fun q hq => hf q (List.mem_cons_of_mem _ hq)) (fun z hz => ?_) y hy
    have hp := hf p (List.mem_cons_self ..)
    split at hz
    · simp only [List.mem_append, List.mem_singleton] at hz
      rcases hz with (hz | hz) | rfl
      · exact ho z hz
      · exact hp _ z hz
      · exact h3
    · simp only [List.mem_append] at hz
      rcases hz with hz | hz
      · exact ho z hz
      · exact hp _ z hz
theorem ofF_wf {l : List NdD} {P : List (List Nat)} {L : List Nat} (h : Tr l P L) (hw : ∀ x ∈ l, x.Wf) (hs : ∀ x ∈ l, x.t.size ≤ 1048576) : ∀ (n i : Nat), i < l.length → ∀ fr, ∀ y ∈ ofF l P n i fr, y.Wf := by
  intro n
  induction n with
  | zero => intro i _ fr y hy; cases hy
  | succ n ih =>
    intro i hi fr y hy
    have hmem := (h.chain i hi).mem
    have hF : ∀ p ∈ P.getD i [], ∀ fr, ∀ y ∈ ofF l P n p fr, y.Wf := fun p hp => ih p (by have := hmem p hp; omega)
    rw [ofF_succ] at hy
    by_cases h21 : (ndA l i).op = 21
    · rw [if_pos h21] at hy
      obtain ⟨a, b, d, e⟩ := h.if3 hi h21
      rw [e] at hy hF
      unfold ifF at hy
      simp only [List.getD_cons_zero, List.getD_cons_succ, List.mem_append, List.mem_singleton] at hy
      rcases hy with (((hy | rfl) | hy) | rfl) | hy
      · exact hF a (by simp) _ y hy
      · exact iC_wf (by omega)
      · exact hF b (by simp) _ y hy
      · exact iC_wf (by omega)
      · exact hF d (by simp) _ y hy
    · rw [if_neg h21] at hy
      rcases List.mem_append.1 hy with hy | hy
      · exact rwF_all (iC_wf (by omega)) _ _ _ hF (fun y hy => by cases hy) y hy
      · have hx : ndA l i ∈ l := by rw [nd_at hi]; exact List.getElem_mem hi
        rw [List.mem_singleton] at hy
        subst hy
        split
        · exact iC_wf (by omega)
        · exact insN_wf (hw _ hx) (hs _ hx)
theorem nodI_wf {i : InsD} (h : i.Wf) : (nodI i).Wf ∧ (nodI i).t.size ≤ 1048576 := by
  have h1 := h.h
  have h2 := h.l
  have h3 := h.t
  have hm : (1048576 : Nat) ≤ maxLen := by unfold maxLen; omega
  refine ⟨⟨Nat.le_trans h3 hm, ?_, ?_⟩, h3⟩
  · show i.h.toNat * 18446744073709551616 + i.l.toNat < top2
    unfold top2; omega
  · show -9223372036854775808 ≤ (offN i.op i.a).getD 0 ∧ (offN i.op i.a).getD 0 < 9223372036854775808
    unfold offN
    split
    · rename_i hc; exact h.a hc
    · repeat' split
      all_goals (simp only [Option.getD_some, Option.getD_none]; omega)
theorem flush_all {Pr : NdD → Prop} (hIf : Pr nodIf) {at_ : Nat} : ∀ (E : List Int) (ns : List NdD), (∀ x ∈ ns, Pr x) → ∀ x ∈ (flushE at_ E ns).2, Pr x
  | [], _, h => h
  | e :: r, ns, h => by
    unfold flushE
    split
    · exact flush_all hIf r _ (fun x hx => by
        rcases List.mem_append.1 hx with hx | hx
        · exact h x hx
        · rw [List.mem_singleton] at hx; subst hx; exact hIf)
    · exact h
theorem dec_all {Pr : NdD → Prop} (hIf : Pr nodIf) (hIn : Pr nodIn) : ∀ (C : List InsD) (at_ : Nat) (E : List Int) (ns : List NdD), (∀ i ∈ C, Pr (nodI i)) → (∀ x ∈ ns, Pr x) → ∀ x ∈ decP at_ C E ns, Pr x
  | [], at_, E, ns, _, h => flush_all hIf E ns h
  | i :: r, at_, E, ns, hC, h => by
    rw [decP_cons]
    have h1 := flush_all (at_ := at_) hIf E ns h
    refine dec_all hIf hIn r _ _ _ (fun j hj => hC j (List.mem_cons_of_mem _ hj)) ?_
    unfold decStep
    split
    · exact h1
    · split
      · exact h1
      · split
        · intro x hx
          rcases List.mem_append.1 hx with hx | hx
          · exact h1 x hx
          · rw [List.mem_singleton] at hx; subst hx; exact hIn
        · intro x hx
          rcases List.mem_append.1 hx with hx | hx
          · exact h1 x hx
          · rw [List.mem_singleton] at hx; subst hx; exact hC i (List.mem_cons_self ..)
theorem bare_wf {op k : Int} (h : -9223372036854775808 ≤ k ∧ k < 9223372036854775808) : (⟨op, k, ⟨#[]⟩, false, 0, 0, 0⟩ : NdD).Wf ∧ (⟨op, k, ⟨#[]⟩, false, 0, 0, 0⟩ : NdD).t.size ≤ 1048576 :=
  ⟨⟨Nat.zero_le _, by show 0 < top2; unfold top2; omega, h⟩, Nat.zero_le _⟩
theorem dec_wf {C : List InsD} (h : ∀ i ∈ C, i.Wf) : (∀ x ∈ decP 0 C [] [], x.Wf) ∧ ∀ x ∈ decP 0 C [] [], x.t.size ≤ 1048576 := by
  have := dec_all (Pr := fun x => x.Wf ∧ x.t.size ≤ 1048576) (bare_wf (by omega)) (bare_wf (by omega)) C 0 [] [] (fun i hi => nodI_wf (h i hi)) (fun x hx => by cases hx)
  exact ⟨fun x hx => (this x hx).1, fun x hx => (this x hx).2⟩
/-- what Back answers -/
noncomputable def bkE (C : List InsD) (tests : Bool) : Int := if 600 < C.length then 6 else if docE (decP 0 C [] []) tests = 0 ∧ sameB (codL (decP 0 C [] [])) C = true then 0 else 2
def BkQ (E : Int) (D : List NdD) (w : World) (e : Ending) (w' : World) : Prop := Below w.heap.size w w' ∧ ∃ v, e = .returned (.tuple #[v, .int .i64 E]) ∧ RL 8 ndE w'.heap.size w' v (if E = 0 then D else [])
set_option maxRecDepth 100000 in
set_option maxHeartbeats 8000000 in
theorem cback_any {C : List InsD} {tests : Bool} {n : Nat} {w : World} {v : Value} (hv : RL 8 insE n w v C) (hn : n ≤ w.heap.size) (hwf : ∀ i ∈ C, i.Wf) (hT : Tens w) (hU : Tabs w) :
    Calls Tryd.prog 13 #[v, .bool tests] w fun e w' => BkQ (bkE C tests) (decP 0 C [] []) w e w' := by
  obtain ⟨E, hE⟩ : ∃ E, E = bkE C tests := ⟨_, rfl⟩
  obtain ⟨D, hD⟩ : ∃ D, D = decP 0 C [] [] := ⟨_, rfl⟩
  have hDw := dec_wf hwf
  rw [← hD] at hDw
  have HVR := Lib.hid hv
  have HDE := Lib.hid (fun (h6 : C.length ≤ 600) => decompile_any n w v hv hn h6 hwf)
  rw [← hD] at HDE
  have HCM := Lib.hid (fun w' x (hb : Below w.heap.size w w') (ho : OL ndK ndE w.heap.size w' x D) => ccompile_any (tests := tests) (ol_rl ndE_cells ho) (Nat.le_refl _) hDw.1 hDw.2 (fun p k c e => by
    obtain ⟨q, cp, e2, -, hcp⟩ := OL.form ho
    rw [e2] at e
    injection e with _ e3 e4
    omega) (hT.below hb) (hU.below hb))
  unfold CmQ at HCM
  obtain ⟨F, hF⟩ : ∃ F, F = docE D tests := ⟨_, rfl⟩
  obtain ⟨G, hG⟩ : ∃ G, G = codL D := ⟨_, rfl⟩
  rw [← hF, ← hG] at HCM
  have hE2 : E = if 600 < C.length then 6 else if F = 0 ∧ sameB G C = true then 0 else 2 := by rw [hE, hF, hG, hD]; rfl
  have HG := Lib.hid (show F = 0 → G.length ≤ 1000000 from fun h0 => by
    obtain ⟨q, P, L, hy⟩ := yes_of (hF.symm.trans h0)
    have := hy.len
    have := hy.few
    rw [hG]; omega)
  rw [← hE, ← hD]
  obtain ⟨p, c, rfl, -⟩ := hv
  obtain ⟨len, hlen⟩ : ∃ len, len = C.length := ⟨_, rfl⟩
  rw [← hlen] at HDE hE2 HVR ⊢
  clear hE hD hDw hF hG hT hU hwf
  have HLEN := Lib.hid hlen
  clear hlen
  by_cases h6 : 600 < len
  · have HEE := Lib.hid (show E = 6 by rw [hE2, if_pos h6])
    have h6i : (600 : Int) < (len : Int) := by omega
    clear hE2
    go_enter Tryd.func13, Tryd.ntmps13
    go_wp2
    go_ret2
    rw [HEE.out]
    exact ⟨Below.refl _ _, _, rfl, RL.nil _ _ _ _⟩
  · have h6i : ¬ (600 : Int) < (len : Int) := by omega
    rw [if_neg h6] at hE2
    have HDE2 := Lib.hid (HDE.out (by omega))
    clear HDE
    by_cases h0 : F = 0
    · subst h0
      obtain ⟨sb, hsb⟩ : ∃ sb, sb = sameB G C := ⟨_, rfl⟩
      have HEE := Lib.hid (show E = if sb = true then 0 else 2 by rw [hE2, hsb]; simp)
      have HEQ := Lib.hid (fun w' v' x (h1 : RL 8 insE w'.heap.size w' v' G) (h2 : RL 8 insE n w' x C) => iequal_any h1 h2 (HG.out rfl))
      rw [← hsb] at HEQ
      clear hE2 hsb
      cases sb with
      | true =>
        have HE0 := Lib.hid (show E = 0 by rw [HEE.out]; rfl)
        go_enter Tryd.func13, Tryd.ntmps13
        go_wp2_with (first
          | (go_at_call 22; (with_reducible refine (HDE2.out).mono ?_); rintro e w1 ⟨v1, rfl, ho1, hb1⟩; have HO1 := Lib.hid ho1; have HB1 := Lib.hid hb1; clear ho1 hb1)
          | (go_at_call 10; (with_reducible refine (HCM.out _ _ HB1.out HO1.out).mono ?_); rintro e w2 ⟨hb2, v2, rfl, hr2⟩; have HB2 := Lib.hid (HB1.out.trans (hb2.mono HB1.out.size)); have HR2 := Lib.hid hr2; have HO2 := Lib.hid (OL.new HO1.out hb2); clear hb2 hr2)
          | (go_at_call 23; (with_reducible refine (HEQ.out _ _ _ HR2.out (HVR.out.keep (HB2.out.mono (by omega)))).mono ?_); rintro e w3 ⟨rfl, hb3⟩; have HB3 := Lib.hid (HB2.out.trans (hb3.mono HB2.out.size)); have HO3 := Lib.hid (OL.new HO2.out hb3); clear hb3))
        go_ret2
        rw [HE0.out]
        exact ⟨HB3.out, _, rfl, by rw [if_pos rfl]; exact ol_rl ndE_cells HO3.out⟩
      | false =>
        have HE0 := Lib.hid (show E = 2 by rw [HEE.out]; rfl)
        go_enter Tryd.func13, Tryd.ntmps13
        go_wp2_with (first
          | (go_at_call 22; (with_reducible refine (HDE2.out).mono ?_); rintro e w1 ⟨v1, rfl, ho1, hb1⟩; have HO1 := Lib.hid ho1; have HB1 := Lib.hid hb1; clear ho1 hb1)
          | (go_at_call 10; (with_reducible refine (HCM.out _ _ HB1.out HO1.out).mono ?_); rintro e w2 ⟨hb2, v2, rfl, hr2⟩; have HB2 := Lib.hid (HB1.out.trans (hb2.mono HB1.out.size)); have HR2 := Lib.hid hr2; have HO2 := Lib.hid (OL.new HO1.out hb2); clear hb2 hr2)
          | (go_at_call 23; (with_reducible refine (HEQ.out _ _ _ HR2.out (HVR.out.keep (HB2.out.mono (by omega)))).mono ?_); rintro e w3 ⟨rfl, hb3⟩; have HB3 := Lib.hid (HB2.out.trans (hb3.mono HB2.out.size)); have HO3 := Lib.hid (OL.new HO2.out hb3); clear hb3))
        go_ret2
        rw [HE0.out]
        exact ⟨HB3.out, _, rfl, RL.nil _ _ _ _⟩
    · have HEE := Lib.hid (show E = 2 by rw [hE2, if_neg (fun h => h0 h.1)])
      have hnb : (F != 0) = true := bne_iff_ne.2 h0
      clear hE2
      go_enter Tryd.func13, Tryd.ntmps13
      go_wp2_with (first
        | (go_at_call 22; (with_reducible refine (HDE2.out).mono ?_); rintro e w1 ⟨v1, rfl, ho1, hb1⟩; have HO1 := Lib.hid ho1; have HB1 := Lib.hid hb1; clear ho1 hb1)
        | (go_at_call 10; (with_reducible refine (HCM.out _ _ HB1.out HO1.out).mono ?_); rintro e w2 ⟨hb2, v2, rfl, hr2⟩; have HB2 := Lib.hid (HB1.out.trans (hb2.mono HB1.out.size)); clear hb2 hr2))
      go_ret2
      rw [HEE.out]
      exact ⟨HB2.out, _, rfl, RL.nil _ _ _ _⟩
end Go.Proofs.YtpgfgaloagdogaaDoor
namespace Go.Proofs.YtpgfgaloagdogaaDoor
open Go.RowKit Go.Maps Go.WideMaps Num Word Txt
attribute [local go_sem] setCell_drewN cell?_ext frozen?_ext shape?_ext setCell_ext lt_1' ne_1' en_1' le_1' lt_2' ne_2' en_2' le_2' lt_3' ne_3' en_3' le_3' lt_4' ne_4' en_4' le_4' lt_5' ne_5' en_5' le_5' lt_6' ne_6' en_6' le_6' lt_7' ne_7' en_7' le_7' lt_8' ne_8' en_8' le_8' lt_9' ne_9' en_9' le_9' lt_10' ne_10' en_10' le_10' lt_11' ne_11' en_11' le_11' lt_12' ne_12' en_12' le_12'

/-- what the laws use of nodes that a check takes -/
structure Round (l : List NdD) (tests : Bool) (C : List InsD) (hi : Int) : Prop where
  code : codL l = C
  len : C.length ≤ 2 * l.length
  few : l.length ≤ 300
  ver : verV (C.map two) tests = hi ∧ verE (C.map two) tests = 0
  high : 1 ≤ hi ∧ hi ≤ l.length
  back : decP 0 C [] [] = l ∧ bkE C tests = 0
  fwd : ∀ j (h : j < C.length), (C[j].op = 101 ∨ C[j].op = 102) → (j : Int) < C[j].a ∧ C[j].a ≤ C.length
theorem round_of {l : List NdD} {tests : Bool} (h : docE l tests = 0) : ∃ hi, Round l tests (codL l) hi := by
  obtain ⟨q, P, L, hy⟩ := yes_of h
  obtain ⟨hi, h1, h2, h3⟩ := hy.run
  have hlen := hy.len
  have hfew := hy.few
  have h1' := h1
  have hs := Vm.same_run (finN tests) ((codL l).map two)
  rw [List.length_map] at hs
  rw [hs] at h1
  have hO : verO ((codL l).map two) tests = some hi := by
    unfold verO; rw [List.length_map]; exact h1
  have hb := hy.back
  refine ⟨hi, rfl, hlen, hfew, ⟨?_, ?_⟩, ⟨h2, h3⟩, ⟨hb, ?_⟩, fun j hj ho => ?_⟩
  · unfold verV; rw [List.length_map, if_neg (by omega), hO]; rfl
  · unfold verE; rw [List.length_map, if_neg (by omega), hO]; rfl
  · unfold bkE
    rw [if_neg (by omega), hb, if_pos ⟨h, (sameB_iff _ _).2 rfl⟩]
  · have := prog_fwd h1' j (by rw [List.length_map]; exact hj) (by
      rw [List.getElem_map]; exact ho)
    rw [List.getElem_map, Nat.zero_add] at this
    exact this
theorem code_wf {l : List NdD} {tests : Bool} (h : docE l tests = 0) (hw : ∀ x ∈ l, x.Wf) (hs : ∀ x ∈ l, x.t.size ≤ 1048576) : ∀ i ∈ codL l, i.Wf := by
  obtain ⟨q, P, L, hy⟩ := yes_of h
  have h2 : q + 1 = l.length := hy.whole.2.2
  rw [hy.code]
  exact ofF_wf hy.tree hw hs l.length q (by omega) 0
set_option maxRecDepth 100000 in
set_option maxHeartbeats 8000000 in
theorem codeRound_law (l : List NdD) (tests : Bool) (n : Nat) (w : World) (v : Value) (hv : RL 8 ndE n w v l) (hn : n ≤ w.heap.size) (hwf : ∀ x ∈ l, x.Wf) (hsm : ∀ x ∈ l, x.t.size ≤ 1048576) (hcap : ∀ p k c, v = .slice p k c → k ≤ c) (hT : Tens w) (hU : Tabs w) :
    Calls Tryd.prog 5 #[v, .bool tests] w fun e w' => e = .returned (.bool true) ∧ Below w.heap.size w w' := by
  have HKN := Lib.hid (codknown_any w)
  have HVR := Lib.hid hv
  have HDK := Lib.hid (fun w' (hb : Below w.heap.size w w') => dcheck_any l tests n w' v (hv.keep (hb.mono hn)) (Nat.le_trans hn hb.size) hwf hsm)
  have HCC := Lib.hid (fun w' (hb : Below w.heap.size w w') => ccompile_any (tests := tests) (hv.keep (hb.mono hn)) (Nat.le_trans hn hb.size) hwf hsm hcap (hT.below hb) (hU.below hb))
  unfold CmQ at HCC
  obtain ⟨E, hE⟩ : ∃ E, E = docE l tests := ⟨_, rfl⟩
  rw [← hE] at HDK HCC
  by_cases h0 : E = 0
  · subst h0
    obtain ⟨hi, hR⟩ := round_of hE.symm
    have hcw := code_wf hE.symm hwf hsm
    obtain ⟨C, hC⟩ : ∃ C, C = codL l := ⟨_, rfl⟩
    rw [if_pos rfl, ← hC] at HCC
    rw [← hC] at hR hcw
    have HVE := Lib.hid (fun w' v' (hr : RL 8 insE w'.heap.size w' v' C) => verify_any C tests _ w' v' hr (Nat.le_refl _))
    rw [hR.ver.1, hR.ver.2] at HVE
    have HBK := Lib.hid (fun w' v' (hb : Below w.heap.size w w') (hr : RL 8 insE w'.heap.size w' v' C) => cback_any (tests := tests) hr (Nat.le_refl _) hcw (hT.below hb) (hU.below hb))
    rw [hR.back.1, hR.back.2] at HBK
    unfold BkQ at HBK
    rw [if_pos rfl] at HBK
    have HSA := Lib.hid (fun w' v' (hr : RL 8 ndE w'.heap.size w' v' l) (hb : Below n w w') => rsameN_refl hr (hv.keep hb) (by have := hR.few; omega))
    have HFW := Lib.hid hR.fwd
    have hhi := hR.high
    have hle := hR.len
    have hfw := hR.few
    obtain ⟨p, c, rfl, -⟩ := hv
    obtain ⟨len, hlen⟩ : ∃ len, len = l.length := ⟨_, rfl⟩
    obtain ⟨nC, hnC⟩ : ∃ nC, nC = C.length := ⟨_, rfl⟩
    obtain ⟨d2, hd2⟩ : ∃ d2, d2 = 2 * len := ⟨_, rfl⟩
    rw [← hlen] at HDK HCC HSA hhi hle hfw ⊢
    rw [← hnC] at hle
    have E9 : 2 * (len : Int) = (d2 : Int) := by omega
    have g1 : ¬ hi < 1 := by omega
    have g2 : ¬ (len : Int) < hi := by omega
    have g3 : ¬ (d2 : Int) < (nC : Int) := by omega
    have hd2b : d2 ≤ 600 := by omega
    have hnCb : nC ≤ 600 := by omega
    have HNC := Lib.hid hnC
    have hhi2 : -9223372036854775808 ≤ hi ∧ hi < 9223372036854775808 := by omega
    clear hE hC hR hcw hT hU hwf hsm hcap hlen hd2 hhi hle hnC
    go_enter Tryd.func5, Tryd.ntmps5
    go_wp2_with (first
      | (go_at_call 8; (with_reducible refine (HKN.out).mono ?_); rintro e w1 ⟨rfl, hb1⟩; have HB1 := Lib.hid hb1; clear hb1)
      | (go_at_call 10; (with_reducible refine (HCC.out _ HB1.out).mono ?_); rintro e w2 ⟨hb2, v2, rfl, hr2⟩; have HB2 := Lib.hid (HB1.out.trans (hb2.mono HB1.out.size)); have HR2 := Lib.hid hr2; obtain ⟨p2, c2, e2, hx2⟩ := hr2; rw [← HNC.out] at e2; subst e2; have HX2 := Lib.hid hx2; clear hb2 hx2)
      | (go_at_call 16; (with_reducible refine (HVE.out _ _ HR2.out).mono ?_); rintro e w3 ⟨rfl, hb3⟩; have HB3 := Lib.hid (HB2.out.trans (hb3.mono HB2.out.size)); have HR3 := Lib.hid ((HR2.out.keep hb3).more hb3.size); have hb23 := Lib.hid hb3; clear hb3)
      | (go_at_call 13; (with_reducible refine (HBK.out _ _ HB3.out HR3.out).mono ?_); rintro e w4 ⟨hb4, v4, rfl, hr4⟩; have HB4 := Lib.hid (HB3.out.trans (hb4.mono HB3.out.size)); have HR4 := Lib.hid hr4; have hb24 := Lib.hid (hb23.out.trans (hb4.mono hb23.out.size)); clear hb4 hr4)
      | (go_at_call 14; (with_reducible refine (HSA.out _ _ HR4.out (HB4.out.mono hn)).mono ?_); rintro e w5 ⟨rfl, hb5⟩; have HB5 := Lib.hid (HB4.out.trans (hb5.mono HB4.out.size)); have hb25 := Lib.hid (hb24.out.trans (hb5.mono hb24.out.size)); clear hb5))
    go_loopw [11] (fun z wr => ∃ k : Nat, z = .int .i64 k ∧ k ≤ nC ∧ (∃ d, wr = w5.drewN d)) (fun z _ => nC - (intOf z).toNat)
    case atStart => exact ⟨0, rfl, Nat.zero_le _, 0, rfl⟩
    case round =>
      obtain ⟨k, rfl, hk, dd, rfl⟩ := hrel
      by_cases hkl : k < nC
      · have hkl1 : (k : Int) < (nC : Int) := by omega
        have hkC : k < C.length := by rw [← HNC.out]; exact hkl
        obtain ⟨g, o, rfl, hg, hc⟩ := HX2.out (by omega)
        have hc2 : ∀ j (h : j < C.length) i u, (insE C[j])[i]? = some u → w5.cell? ⟨g, o + j * 8 + i, none⟩ = some u := fun j hj i u hu => by
          rw [hb25.out.cell (p := ⟨g, _, none⟩) hg]; exact hc j hj i u hu
        obtain ⟨op, ia, t, neg, ha, la, sc, day, he, x0, x1, x2, x3, x4, x5, x6, x7⟩ := ins_cells hc2 k hkC
        have hfk := HFW.out k hkC
        rw [he] at hfk
        simp only at hfk
        clear hc hc2 he x2 x3 x4 x5 x6 x7
        by_cases h101 : op = 101
        · subst h101
          have hj := hfk (.inl rfl)
          have j1 : ¬ ia ≤ (k : Int) := by omega
          have j2 : ¬ (nC : Int) < ia := by rw [← HNC.out] at hj; omega
          clear hfk hj
          go_wp2
          exact ⟨⟨k + 1, rfl, by omega, _, rfl⟩, by simp [intOf]; omega⟩
        · by_cases h102 : op = 102
          · subst h102
            have hj := hfk (.inr rfl)
            have j1 : ¬ ia ≤ (k : Int) := by omega
            have j2 : ¬ (nC : Int) < ia := by rw [← HNC.out] at hj; omega
            clear hfk hj
            go_wp2
            exact ⟨⟨k + 1, rfl, by omega, _, rfl⟩, by simp [intOf]; omega⟩
          · have q1 : (op == 101) = false := beq_eq_false_iff_ne.2 h101
            have q2 : (op == 102) = false := beq_eq_false_iff_ne.2 h102
            clear hfk
            go_wp2
            exact ⟨⟨k + 1, rfl, by omega, _, rfl⟩, by simp [intOf]; omega⟩
      · have hkl1 : ¬ (k : Int) < (nC : Int) := by omega
        go_wp2
        go_ret
        exact ⟨rfl, HB5.out.trans (by (repeat' (first | (with_reducible exact Below.refl _ _) | (with_reducible assumption) | (with_reducible refine Below.alloc ?_ ?_ _) | (with_reducible refine below_drewN ?_ _) | (with_reducible refine below_drew ?_) | (with_reducible refine below_ext ?_ ?_ _ _) | (with_reducible refine Below.setCell ?_ ?_ _) | (simp; done) | (simp; omega) | omega)))⟩
  · have HRL := Lib.hid (show (if E = 0 then codL l else []) = [] from if_neg h0)
    rw [HRL.out] at HCC
    have hne : (E != 0) = true := bne_iff_ne.2 h0
    obtain ⟨p, c, rfl, -⟩ := hv
    generalize l.length = len at HDK HCC ⊢
    clear hE hT hU hwf hsm hcap hn HRL
    go_enter Tryd.func5, Tryd.ntmps5
    go_wp2_with (first
      | (go_at_call 8; (with_reducible refine (HKN.out).mono ?_); rintro e w1 ⟨rfl, hb1⟩; have HB1 := Lib.hid hb1; clear hb1)
      | (go_at_call 10; (with_reducible refine (HCC.out _ HB1.out).mono ?_); rintro e w2 ⟨hb2, v2, rfl, hr2⟩; have HB2 := Lib.hid (HB1.out.trans (hb2.mono HB1.out.size)); obtain ⟨p2, c2, e2, -⟩ := hr2; obtain rfl : v2 = .slice p2 0 c2 := e2; clear hb2)
      | (go_at_call 15; (with_reducible refine (HDK.out _ HB2.out).mono ?_); rintro e w3 ⟨rfl, hb3⟩; have HB3 := Lib.hid (HB2.out.trans (hb3.mono HB2.out.size)); clear hb3))
    go_ret
    exact ⟨rfl, HB3.out⟩
end Go.Proofs.YtpgfgaloagdogaaDoor
