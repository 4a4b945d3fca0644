/-
  Nodes as a law's argument, out of small bulk; arguments read again; the row's last step.
-/
import Derived.Test.YtalahkincccffaaGreatDoorBy
import Derived.Test.YtalahkincccffaaGreatDoorRl
import Derived.Test.YtalahkincccffaaGreatDoorRows
import Derived.LaidMore
import Derived.MakeChecks
import Derived.Lay
import Derived.LaidOnce
import Derived.LaidLaws
import Derived.ProofKit
import Derived.OpenShut
import Derived.ShutString
import Derived.WideKeyArgs
import Derived.ChangeMaps5
import Derived.Stop.Joined
import Derived.Lib.SmallJoins
import Derived.Deep.Strs
import Derived.Deep.Matrix
import Derived.Deep.DeepHandedRow
import Derived.SizedLaws
namespace Go.Proofs.YtalahkincccffaaGreatDoor
open Go.ChangeShapes Go.WideShapes Go.ChangeAt Go.RowKit Go.Joins Go.Deep Num Word Txt

theorem icInt : Tryz.prog.cellsOf 3 = 1 := by kernel_rfl
theorem icBool : Tryz.prog.cellsOf 4 = 1 := by kernel_rfl
theorem icWord : Tryz.prog.cellsOf 33 = 1 := by kernel_rfl
theorem icWide : Tryz.prog.cellsOf 35 = 2 := by kernel_rfl
theorem icDec : Tryz.prog.cellsOf 37 = 4 := by kernel_rfl
theorem icStr : Tryz.prog.cellsOf 9 = 1 := by kernel_rfl
theorem list8 {cs : List Value} (h : cs.length = 8) : ∃ x0 x1 x2 x3 x4 x5 x6 x7, cs = [x0, x1, x2, x3, x4, x5, x6, x7] := by
  match cs, h with
  | [x0, x1, x2, x3, x4, x5, x6, x7], _ => exact ⟨_, _, _, _, _, _, _, _, rfl⟩
theorem ilist_of {α : Type} (P : Nat → α → Prop) : ∀ n, (∀ i, i < n → ∃ v, P i v) → ∃ l : List α, l.length = n ∧ ∀ i (hi : i < l.length), P i l[i]
  | 0, _ => ⟨[], rfl, fun i hi => absurd hi (Nat.not_lt_zero _)⟩
  | n + 1, h => by
    obtain ⟨v, hv⟩ := h n (by omega)
    obtain ⟨l, hl, hp⟩ := ilist_of P n fun i hi => h i (by omega)
    refine ⟨l ++ [v], by simp [hl], fun i hi => ?_⟩
    rw [List.length_append, List.length_singleton] at hi
    by_cases he : i < l.length
    · rw [List.getElem_append_left he]; exact hp i he
    · obtain rfl : i = n := by omega
      rw [List.getElem_append_right (by omega)]
      simpa using hv
section
variable {H : Type} {enc : TypeId × Value → H} {P : Program} {w : World} {base : Nat} {spare : Nat → Bool} {held : Bool}
theorem trod_struct5 {t : TypeId} {f0 f1 f2 f3 f4 : Field} {fuel : Nat} {cs : List Value} {x : DataW H × List MemPlace} (ht : P.underlying t = some (.struct #[f0, f1, f2, f3, f4])) (h : DataW.trod enc P w base spare held fuel t cs = some x) :
    ∃ y0 y1 y2 y3 y4 n, fuel = n + 1 ∧ x.1 = .agg [y0.1, y1.1, y2.1, y3.1, y4.1] ∧ cs.length = P.cellsOf t ∧ DataW.trod enc P w base spare held n f0.type ((cs.drop f0.offset).take (P.cellsOf f0.type)) = some y0 ∧
      DataW.trod enc P w base spare held n f1.type ((cs.drop f1.offset).take (P.cellsOf f1.type)) = some y1 ∧ DataW.trod enc P w base spare held n f2.type ((cs.drop f2.offset).take (P.cellsOf f2.type)) = some y2 ∧
      DataW.trod enc P w base spare held n f3.type ((cs.drop f3.offset).take (P.cellsOf f3.type)) = some y3 ∧ DataW.trod enc P w base spare held n f4.type ((cs.drop f4.offset).take (P.cellsOf f4.type)) = some y4 := by
  obtain ⟨xs, n, hn, rfl, hl, hlen, hf⟩ := DataW.trod_struct ht h
  match xs, hlen with
  | [y0, y1, y2, y3, y4], _ => exact ⟨y0, y1, y2, y3, y4, n, hn, rfl, hl, by simpa using hf 0 f0 rfl, by simpa using hf 1 f1 rfl, by simpa using hf 2 f2 rfl, by simpa using hf 3 f3 rfl, by simpa using hf 4 f4 rfl⟩
end
theorem iown : ownKnob Tryz.prog.godebug = none := by kernel_rfl
theorem ilaidOut : laidOutB Tryz.prog = true := by kernel_rfl
section
variable {H : Type} {enc : TypeId × Value → H} {P : Program} {w : World}
theorem gtrodAll_stays {W W' : World} {sp' : Nat → Bool} (hl : laidOutB P = true) : ∀ {ts : List TypeId} {vs : List Value} {ds : List (DataW H)} {ps : List MemPlace}, DataW.TrodAll enc P W 0 (fun _ => true) true ts vs ds ps →
    (∀ t ∈ ts, P.readableRec t = true ∧ t < P.types.size) → (∀ p ∈ ps, W.sameAt W' p) → (∀ p ∈ ps, sp' p.block = true) → DataW.TrodAll enc P W' 0 sp' true ts vs ds ps
  | [], [], [], _, h, _, _, _ => h
  | [], [], _ :: _, _, h, _, _, _ => h.elim
  | [], _ :: _, _, _, h, _, _, _ => h.elim
  | _ :: _, [], _, _, h, _, _, _ => h.elim
  | _ :: _, _ :: _, [], _, h, _, _, _ => h.elim
  | t :: ts, v :: vs, d :: ds, ps, h, hr, hs, hp => by
    obtain ⟨p, q, h1, h2, rfl⟩ := h
    exact ⟨p, q, WideElems.Trod_stays hl (hr t (by simp)).1 (hr t (by simp)).2 h1 (fun x hx => hs x (by simp [hx])) (fun x hx => hp x (by simp [hx])),
      gtrodAll_stays hl h2 (fun u hu => hr u (by simp [hu])) (fun x hx => hs x (by simp [hx])) (fun x hx => hp x (by simp [hx])), rfl⟩
theorem gpost_keep {f : Func} {s : ChangeSpec} {apart fresh handsOn again : Bool} {A B : World} {args : Array Value} {v : Value} {ds : List (DataW H)} {ps : List MemPlace}
    (hl : laidOutB P = true) (hts : ∀ t ∈ f.params.toList, P.readableRec t = true ∧ t < P.types.size) (hvars : s.vars = [])
    (hA : DataW.Whole enc P f.params.toList s.vars apart A args.toList ds [] ps)
    (hr : ∀ (b : Nat) (sp : Nat → Bool) (hd : Bool), DataW.TrodAll enc P B b sp hd f.resultTypes.toList (v.resultList f.resultTypes.size) (s.fn H ds).results [])
    (hargs : (s.fn H ds).args = ds) (hvs : (s.fn H ds).vars = []) (hb : Below A.heap.size A B)
    (ho : ∀ (j : Nat) (t : TypeId) (r : Value), f.resultTypes[j]? = some t → (v.resultList f.resultTypes.size)[j]? = some r → Value.okWide P B .any 0 t r) :
    s.post enc P f apart fresh handsOn again A args v B := by
  have h1 : ∀ p ∈ ps, p.block < A.heap.size := fun p h => hA.lt p h
  have h2 : ∀ p ∈ ps, (fun b => decide (b < A.heap.size)) p.block = true := fun p h => by simpa using h1 p h
  obtain ⟨p, q, hT, hV, hpq, hz, hn⟩ := hA
  have hq : q = [] := by rw [hvars] at hV; exact hV
  subst hq
  simp only [List.append_nil] at hpq
  subst hpq
  have ha : ∀ sp : Nat → Bool, (∀ x ∈ ps, sp x.block = true) → DataW.TrodAll enc P B 0 sp true f.params.toList args.toList (s.fn H (ds ++ [])).args ps := fun sp hsp => by
    rw [List.append_nil, hargs]
    exact gtrodAll_stays hl hT hts (fun x hx => hb.same (h1 x hx)) hsp
  have hv : ∀ sp : Nat → Bool, DataW.TrodVars enc P B sp s.vars (s.fn H (ds ++ [])).vars [] := fun sp => by
    rw [List.append_nil, hvs, hvars]; exact rfl
  have hr' : ∀ (b : Nat) (sp : Nat → Bool) (hd : Bool), DataW.TrodAll enc P B b sp hd f.resultTypes.toList (v.resultList f.resultTypes.size) (s.fn H (ds ++ [])).results [] := fun b sp hd => by
    rw [List.append_nil]; exact hr b sp hd
  refine ⟨ds, [], ps, [], ps, [], ⟨ps, [], hT, hV, (List.append_nil _).symm, hz, hn⟩, hr' _ _ _, ha _ h2, hv _, World.keptBut_mono (fun x h => ⟨h, ?_⟩) (hb.frame (· ∈ ps)), fun _ => ?_⟩
  · exact .inr (.inl h)
  · refine ⟨ho, _, _, ([] ++ ps) ++ [], ⟨[] ++ ps, [], trodAll_append (ha _ (fun _ _ => rfl)) (hr' _ _ _), hv _, rfl, ?_, ?_⟩, ?_⟩
    · intro b off h
      have hin : MemPlace.cell b off ∈ ps := by simpa using h
      rw [hb.frozen (h1 _ hin)]
      exact hz b off hin
    · intro h
      have := hn h
      simpa using this
    · intro x h _
      simpa using h
end
theorem icNode : Tryz.prog.cellsOf 39 = 8 := by kernel_rfl
theorem nbulk_mem {H : Type} {d : DataW H} : ∀ {l : List (DataW H)}, d ∈ l → Rows.uptoBulk d ≤ Rows.uptoBulkAll l
  | e :: r, h => by
    show _ ≤ Rows.uptoBulk e + Rows.uptoBulkAll r
    rcases List.mem_cons.1 h with rfl | h
    · omega
    · have := nbulk_mem h; omega
theorem nbulk_pos {H : Type} (d : DataW H) : 0 < Rows.uptoBulk d := by
  cases d with
  | lit l => cases l <;> simp [Rows.uptoBulk]
  | _ => simp [Rows.uptoBulk]
theorem nbulk_len {H : Type} : ∀ l : List (DataW H), l.length ≤ Rows.uptoBulkAll l
  | [] => Nat.le_refl _
  | e :: r => by
    show r.length + 1 ≤ Rows.uptoBulk e + Rows.uptoBulkAll r
    have := nbulk_len r; have := nbulk_pos e; omega
theorem nbulk_one {H : Type} {d : DataW H} {l : List (DataW H)} (hk : Rows.uptoSmall H l = true) (hm : d ∈ l) : Rows.uptoBulk d ≤ 1048576 := Nat.le_trans (nbulk_mem hm) (of_decide_eq_true hk)
theorem wf_i64N {n : Int} (h : (Lit.int .i64 n).wf = true) : -9223372036854775808 ≤ n ∧ n < 9223372036854775808 := by
  simp only [Lit.wf, decide_eq_true_eq, Bool.and_eq_true] at h
  have h1 : IntKind.i64.min = -9223372036854775808 := by decide
  have h2 : IntKind.i64.max = 9223372036854775807 := by decide
  rw [h1, h2] at h
  omega
theorem wf_u64N {n : Int} (h : (Lit.int .u64 n).wf = true) : 0 ≤ n ∧ n < 18446744073709551616 := by
  simp only [Lit.wf, decide_eq_true_eq, Bool.and_eq_true] at h
  have h1 : IntKind.u64.min = 0 := by decide
  have h2 : IntKind.u64.max = 18446744073709551615 := by decide
  rw [h1, h2] at h
  omega
section
variable {H : Type} {enc : TypeId × Value → H} {w : World} {spare : Nat → Bool} {held : Bool}
set_option maxRecDepth 100000 in
theorem node_of_trod {fuel : Nat} {cs : List Value} {x : DataW H × List MemPlace} (h : DataW.trod enc Tryz.prog w 0 spare held fuel 39 cs = some x) (hb : Rows.uptoBulk x.1 ≤ 1048576) : ∃ v : NdD, cs = ndE v ∧ v.Wf ∧ v.t.size ≤ 1048576 := by
  obtain ⟨y0, y1, y2, y3, y4, n, rfl, hx, hl, g0, g1, g2, g3, g4⟩ := trod_struct5 Tryz.underlying39 h
  rw [icNode] at hl
  obtain ⟨x0, x1, x2, x3, x4, x5, x6, x7, rfl⟩ := list8 hl
  simp only [icInt, icDec, icStr] at g0 g1 g2 g3 g4
  obtain ⟨op, e0, -, -⟩ := DataW.trod_int Tryz.underlying3 g0
  obtain ⟨a, e1, -, wa⟩ := DataW.trod_int Tryz.underlying3 g1
  obtain ⟨t, e2, hy2, wt⟩ := DataW.trod_string Tryz.underlying9 g2
  obtain ⟨z0, z1, z2, m, -, -, d0, d1, d2⟩ := trod_struct3 Tryz.underlying37 g3
  simp only [icBool, icWide, icInt] at d0 d1 d2
  obtain ⟨u0, u1, m2, -, -, q0, q1⟩ := trod_struct2 Tryz.underlying35 d1
  simp only [icWord] at q0 q1
  obtain ⟨neg, e3, -⟩ := DataW.trod_bool Tryz.underlying4 d0
  obtain ⟨hh, e4, -, wh⟩ := DataW.trod_int Tryz.underlying33 q0
  obtain ⟨ll, e5, -, wl⟩ := DataW.trod_int Tryz.underlying33 q1
  obtain ⟨s, e6, -, -⟩ := DataW.trod_int Tryz.underlying3 d2
  obtain ⟨day, e7, -, -⟩ := DataW.trod_int Tryz.underlying3 g4
  simp at e0 e1 e2 e3 e4 e5 e6 e7
  subst e0 e1 e2 e3 e4 e5 e6 e7
  have hts : t.size ≤ 1048576 := by
    rw [hx] at hb
    have h1 : Rows.uptoBulk y2.1 ≤ Rows.uptoBulkAll [y0.1, y1.1, y2.1, y3.1, y4.1] := nbulk_mem (by simp)
    have h2 : Rows.uptoBulk (DataW.agg [y0.1, y1.1, y2.1, y3.1, y4.1]) = Rows.uptoBulkAll [y0.1, y1.1, y2.1, y3.1, y4.1] + 1 := rfl
    have h3 : Rows.uptoBulk y2.1 = t.data.toList.length + 1 := by rw [hy2]; rfl
    have h4 : t.data.toList.length = t.size := rfl
    omega
  have := wf_u64N wh
  have := wf_u64N wl
  have hc : hh.toNat * 18446744073709551616 + ll.toNat < top2 := by unfold top2; omega
  have hhi : (hi (hh.toNat * 18446744073709551616 + ll.toNat) : Int) = hh := by
    unfold hi; omega
  have hlo : (lo (hh.toNat * 18446744073709551616 + ll.toNat) : Int) = ll := by
    unfold lo; omega
  refine ⟨⟨op, a, t, neg, hh.toNat * 18446744073709551616 + ll.toNat, s, day⟩, ?_, ⟨wt, hc, wf_i64N wa⟩, hts⟩
  unfold ndE
  simp only
  rw [hhi, hlo]
set_option maxRecDepth 100000 in
theorem nodes_of {r : Reach} {b0 : Nat} {x : Value} {d : DataW H} {p : List MemPlace} (hv : Value.okWide Tryz.prog w r b0 22 x) (h : DataW.Trod enc Tryz.prog w 0 spare held 22 x d p) (hb : Rows.uptoBulk d ≤ 1048576) :
    ∃ L, RL 8 ndE w.heap.size w x L ∧ (∀ y ∈ L, y.Wf) ∧ (∀ y ∈ L, y.t.size ≤ 1048576) ∧ ∀ q k c, x = .slice q k c → k ≤ c := by
  obtain ⟨q, n, c, rfl⟩ := okWide_slice Tryz.underlying22 hv
  obtain ⟨fuel, hf⟩ := h
  rcases DataW.trod_slice Tryz.underlying22 hf with ⟨hcs0, -⟩ | ⟨ad, len, cap, elems, rest, n', hn', hcs0, hd, _, hlc, _, hlen, hel, _, _⟩
  · simp [Value.cells] at hcs0
    obtain ⟨rfl, rfl, rfl⟩ := hcs0
    exact ⟨[], RL.nil _ _ _ _, by simp, by simp, fun q k c e => by injection e with _ e2 e3; omega⟩
  · simp [Value.cells] at hcs0
    obtain ⟨rfl, rfl, rfl⟩ := hcs0
    have hbl : Rows.uptoBulkAll (elems.map (·.1)) ≤ 1048576 := by
      have hd1 := congrArg Prod.fst hd
      simp only at hd1
      rw [hd1] at hb
      have : Rows.uptoBulkAll (elems.map (·.1)) + Rows.uptoBulkAll (rest.map (·.1)) + 1 ≤ 1048576 := hb
      omega
    have hget : ∀ i, i < n → ∃ v : NdD, ((ad.add (i * 8)).spot = none ∧ ∀ j, j < 8 → w.cell? ((ad.add (i * 8)).add j) = (ndE v)[j]?) ∧ v.Wf ∧ v.t.size ≤ 1048576 := by
      intro i hi
      have h1 := hel i hi
      rw [icNode] at h1
      have hie : i < elems.length := by omega
      rw [List.getElem?_eq_getElem hie] at h1
      obtain ⟨cs', hc', ht'⟩ := Option.bind_eq_some_iff.1 h1
      have hm : elems[i].1 ∈ elems.map (·.1) := List.mem_map_of_mem (List.getElem_mem hie)
      obtain ⟨_, hc8, hcell⟩ := World.cells?_some hc'
      obtain ⟨v, rfl, hw, hs⟩ := node_of_trod ht' (Nat.le_trans (nbulk_mem hm) hbl)
      have hz0 : w.cell? (ad.add (i * 8)) = some (.int .i64 v.op) := by have := hcell 0 (by omega); simpa [Addr.add, ndE] using this
      exact ⟨v, ⟨World.cell?_spot hz0, hcell⟩, hw, hs⟩
    obtain ⟨l, hll, hp⟩ := ilist_of _ n hget
    refine ⟨l, ⟨some ad, c, by rw [hll], fun h0 => ?_⟩, fun y hy => ?_, fun y hy => ?_, fun q k c e => by injection e with _ e2 e3; omega⟩
    · obtain ⟨⟨hsp, hc0⟩, -⟩ := hp 0 h0
      have ha : ad.add (0 * 8) = ad := by simp [Addr.add]
      rw [ha] at hc0 hsp
      have h00 := hc0 0 (by omega)
      obtain ⟨g, o, sp⟩ := ad
      simp only at hsp
      subst hsp
      have hadd : ∀ i j, ((⟨g, o, none⟩ : Addr).add (i * 8)).add j = ⟨g, o + i * 8 + j, none⟩ := by
        intro i j
        by_cases hi0 : i = 0
        · subst hi0
          by_cases hj0 : j = 0
          · subst hj0; rfl
          · simp [Addr.add, hj0]
        · have hi8 : ¬ i * 8 = 0 := by omega
          by_cases hj0 : j = 0
          · subst hj0; simp [Addr.add, hi8]
          · simp [Addr.add, hi8, hj0]
      refine ⟨g, o, rfl, World.block_lt_of_cell? w ⟨g, o, none⟩ (u := .int .i64 l[0].op) (by simpa [Addr.add, ndE] using h00), fun j hj i u hu => ?_⟩
      have hi8 : i < 8 := by
        have := (List.getElem?_eq_some_iff.1 hu).1
        simpa [ndE] using this
      rw [← hadd, (hp j hj).1.2 i hi8]
      exact hu
    · obtain ⟨i, hi, rfl⟩ := List.getElem_of_mem hy
      exact (hp i hi).2.1
    · obtain ⟨i, hi, rfl⟩ := List.getElem_of_mem hy
      exact (hp i hi).2.2
end
section
variable {H : Type} {enc : TypeId × Value → H} {P : Program}
theorem witness_row_shapedN {C : Checked} {os : Os} {f : FuncId} {fn : Func} {s : OpenSpec} {conds : List PathCond} {apart : Bool} {laid : List (String × DataW Unit)} (modest : Bool) (w0 : World) (args : Array Value) (hos : w0.os = os)
    (hsh : (w0.forCall (fun _ _ => 0) ⟨#[], args, []⟩).Shaped C.prog)
    (hok : Input.okWideB C.prog (w0.forCall (fun _ _ => 0) ⟨#[], args, []⟩) f ⟨#[], args, []⟩ = true)
    (hrow : s.preRow enc C.prog fn conds apart laid (w0.forCall (fun _ _ => 0) ⟨#[], args, []⟩).memory args) :
    ∃ (w : World) (tape : Tape) (i : Input), w.os = os ∧ (w.forCall tape i).Shaped C.prog ∧ i.vars = [] ∧ Input.okWide C.prog (w.forCall tape i) .any w.heap.size f i ∧
      s.preRow enc C.prog fn conds apart laid (w.forCall tape i).memory i.args ∧ ({ modest := modest } : Assume).holds C.prog (lone (Frame.enter C.prog f i.args .normal) [] (w.forCall tape i)) :=
  ⟨w0, fun _ _ => 0, ⟨#[], args, []⟩, hos, hsh, (Input.okWide_of_okWideB (base := 0) hok).1, (Input.okWide_of_okWideB hok).2, hrow, by
    simp only [Assume.holds]
    exact ⟨by simp, by simp, fun _ => Modest.zero, by simp, by simp⟩⟩
end
end Go.Proofs.YtalahkincccffaaGreatDoor
