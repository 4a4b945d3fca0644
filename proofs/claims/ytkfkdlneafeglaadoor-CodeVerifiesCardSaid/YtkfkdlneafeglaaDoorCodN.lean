/-
  Instructions as a law's argument; arguments read again; the row's last step.
-/
import Derived.Test.YtkfkdlneafeglaaDoorCodD
import Derived.ProofKit
import Derived.OpenShut
import Derived.ShutString
import Derived.WideKeyArgs
import Derived.ChangeMaps5
import Derived.Stop.Joined
import Derived.Lib.SmallJoins
import Derived.Deep.Strs
import Derived.Deep.Matrix
import Derived.Deep.DeepHandedRow
import Derived.SizedLaws
namespace Go.Proofs.YtkfkdlneafeglaaDoor
open Go.ChangeShapes Go.WideShapes Go.ChangeAt Go.RowKit Go.Joins Go.Deep

theorem icInt : Tryd.prog.cellsOf 3 = 1 := by kernel_rfl
theorem icBool : Tryd.prog.cellsOf 4 = 1 := by kernel_rfl
theorem icWord : Tryd.prog.cellsOf 40 = 1 := by kernel_rfl
theorem icWide : Tryd.prog.cellsOf 42 = 2 := by kernel_rfl
theorem icDec : Tryd.prog.cellsOf 44 = 4 := by kernel_rfl
theorem icStr : Tryd.prog.cellsOf 9 = 1 := by kernel_rfl
theorem icIns : Tryd.prog.cellsOf 53 = 8 := by kernel_rfl
theorem list8 {cs : List Value} (h : cs.length = 8) : ∃ x0 x1 x2 x3 x4 x5 x6 x7, cs = [x0, x1, x2, x3, x4, x5, x6, x7] := by
  match cs, h with
  | [x0, x1, x2, x3, x4, x5, x6, x7], _ => exact ⟨_, _, _, _, _, _, _, _, rfl⟩
theorem ilist_of {α : Type} (P : Nat → α → Prop) : ∀ n, (∀ i, i < n → ∃ v, P i v) → ∃ l : List α, l.length = n ∧ ∀ i (hi : i < l.length), P i l[i]
  | 0, _ => ⟨[], rfl, fun i hi => absurd hi (Nat.not_lt_zero _)⟩
  | n + 1, h => by
    obtain ⟨v, hv⟩ := h n (by omega)
    obtain ⟨l, hl, hp⟩ := ilist_of P n fun i hi => h i (by omega)
    refine ⟨l ++ [v], by simp [hl], fun i hi => ?_⟩
    rw [List.length_append, List.length_singleton] at hi
    by_cases he : i < l.length
    · rw [List.getElem_append_left he]; exact hp i he
    · obtain rfl : i = n := by omega
      rw [List.getElem_append_right (by omega)]
      simpa using hv
section
variable {H : Type} {enc : TypeId × Value → H} {P : Program} {w : World} {base : Nat} {spare : Nat → Bool} {held : Bool}
theorem trod_struct5 {t : TypeId} {f0 f1 f2 f3 f4 : Field} {fuel : Nat} {cs : List Value} {x : DataW H × List MemPlace} (ht : P.underlying t = some (.struct #[f0, f1, f2, f3, f4])) (h : DataW.trod enc P w base spare held fuel t cs = some x) :
    ∃ y0 y1 y2 y3 y4 n, fuel = n + 1 ∧ x.1 = .agg [y0.1, y1.1, y2.1, y3.1, y4.1] ∧ cs.length = P.cellsOf t ∧ DataW.trod enc P w base spare held n f0.type ((cs.drop f0.offset).take (P.cellsOf f0.type)) = some y0 ∧
      DataW.trod enc P w base spare held n f1.type ((cs.drop f1.offset).take (P.cellsOf f1.type)) = some y1 ∧ DataW.trod enc P w base spare held n f2.type ((cs.drop f2.offset).take (P.cellsOf f2.type)) = some y2 ∧
      DataW.trod enc P w base spare held n f3.type ((cs.drop f3.offset).take (P.cellsOf f3.type)) = some y3 ∧ DataW.trod enc P w base spare held n f4.type ((cs.drop f4.offset).take (P.cellsOf f4.type)) = some y4 := by
  obtain ⟨xs, n, hn, rfl, hl, hlen, hf⟩ := DataW.trod_struct ht h
  match xs, hlen with
  | [y0, y1, y2, y3, y4], _ => exact ⟨y0, y1, y2, y3, y4, n, hn, rfl, hl, by simpa using hf 0 f0 rfl, by simpa using hf 1 f1 rfl, by simpa using hf 2 f2 rfl, by simpa using hf 3 f3 rfl, by simpa using hf 4 f4 rfl⟩
end
section
variable {H : Type} {enc : TypeId × Value → H} {w : World} {spare : Nat → Bool} {held : Bool}
set_option maxRecDepth 100000 in
theorem ins_of_trod {fuel : Nat} {cs : List Value} {x : DataW H × List MemPlace} (h : DataW.trod enc Tryd.prog w 0 spare held fuel 53 cs = some x) : ∃ v : InsD, cs = insE v := by
  obtain ⟨y0, y1, y2, y3, y4, n, rfl, hx, hl, g0, g1, g2, g3, g4⟩ := trod_struct5 Tryd.underlying53 h
  rw [icIns] at hl
  obtain ⟨x0, x1, x2, x3, x4, x5, x6, x7, rfl⟩ := list8 hl
  simp only [icInt, icDec, icStr] at g0 g1 g2 g3 g4
  obtain ⟨op, e0, -, -⟩ := DataW.trod_int Tryd.underlying3 g0
  obtain ⟨a, e1, -, -⟩ := DataW.trod_int Tryd.underlying3 g1
  obtain ⟨t, e2, -, -⟩ := DataW.trod_string Tryd.underlying9 g2
  obtain ⟨z0, z1, z2, m, -, -, d0, d1, d2⟩ := trod_struct3 Tryd.underlying44 g3
  simp only [icBool, icWide, icInt] at d0 d1 d2
  obtain ⟨u0, u1, m2, -, -, q0, q1⟩ := trod_struct2 Tryd.underlying42 d1
  simp only [icWord] at q0 q1
  obtain ⟨neg, e3, -⟩ := DataW.trod_bool Tryd.underlying4 d0
  obtain ⟨hh, e4, -, -⟩ := DataW.trod_int Tryd.underlying40 q0
  obtain ⟨ll, e5, -, -⟩ := DataW.trod_int Tryd.underlying40 q1
  obtain ⟨s, e6, -, -⟩ := DataW.trod_int Tryd.underlying3 d2
  obtain ⟨day, e7, -, -⟩ := DataW.trod_int Tryd.underlying3 g4
  simp at e0 e1 e2 e3 e4 e5 e6 e7
  subst e0 e1 e2 e3 e4 e5 e6 e7
  exact ⟨⟨op, a, t, neg, hh, ll, s, day⟩, rfl⟩
set_option maxRecDepth 100000 in
theorem inss_of {r : Reach} {b0 : Nat} {x : Value} {d : DataW H} {p : List MemPlace} (hv : Value.okWide Tryd.prog w r b0 32 x) (h : DataW.Trod enc Tryd.prog w 0 spare held 32 x d p) : ∃ L, RL 8 insE w.heap.size w x L := by
  obtain ⟨q, n, c, rfl⟩ := okWide_slice Tryd.underlying32 hv
  obtain ⟨fuel, hf⟩ := h
  rcases open_slice Tryd.underlying32 hf with ⟨hcs0, -⟩ | ⟨ad, len, cap, m, n', D, Pl, hcs0, -, hl, -, hm, -, hel⟩
  · simp [Value.cells] at hcs0
    obtain ⟨rfl, rfl, rfl⟩ := hcs0
    exact ⟨[], RL.nil _ _ _ _⟩
  · simp [Value.cells] at hcs0
    obtain ⟨rfl, rfl, rfl⟩ := hcs0
    have hlm : n ≤ m := by rw [hm]; split <;> omega
    have hget : ∀ i, i < n → ∃ v : InsD, (ad.add (i * 8)).spot = none ∧ ∀ j, j < 8 → w.cell? ((ad.add (i * 8)).add j) = (insE v)[j]? := by
      intro i hi
      obtain ⟨cs', hc', ht'⟩ := hel i (by omega)
      rw [icIns] at hc'
      obtain ⟨_, hc8, hcell⟩ := World.cells?_some hc'
      obtain ⟨v, rfl⟩ := ins_of_trod ht'
      have hz0 : w.cell? (ad.add (i * 8)) = some (.int .i64 v.op) := by have := hcell 0 (by omega); simpa [Addr.add, insE] using this
      exact ⟨v, World.cell?_spot hz0, hcell⟩
    obtain ⟨l, hll, hp⟩ := ilist_of _ n hget
    refine ⟨l, some ad, c, by rw [hll], fun h0 => ?_⟩
    obtain ⟨hsp, hc0⟩ := hp 0 h0
    have ha : ad.add (0 * 8) = ad := by simp [Addr.add]
    rw [ha] at hc0 hsp
    have h00 := hc0 0 (by omega)
    obtain ⟨g, o, sp⟩ := ad
    simp only at hsp
    subst hsp
    have hadd : ∀ i j, ((⟨g, o, none⟩ : Addr).add (i * 8)).add j = ⟨g, o + i * 8 + j, none⟩ := by
      intro i j
      by_cases hi0 : i = 0
      · subst hi0
        by_cases hj0 : j = 0
        · subst hj0; rfl
        · simp [Addr.add, hj0]
      · have hi8 : ¬ i * 8 = 0 := by omega
        by_cases hj0 : j = 0
        · subst hj0; simp [Addr.add, hi8]
        · simp [Addr.add, hi8, hj0]
    refine ⟨g, o, rfl, World.block_lt_of_cell? w ⟨g, o, none⟩ (u := .int .i64 l[0].op) (by simpa [Addr.add, insE] using h00), fun j hj i u hu => ?_⟩
    have hi8 : i < 8 := by
      have := (List.getElem?_eq_some_iff.1 hu).1
      simpa [insE] using this
    rw [← hadd, (hp j hj).2 i hi8]
    exact hu
end
theorem iown : ownKnob Tryd.prog.godebug = none := by kernel_rfl
theorem ilaidOut : laidOutB Tryd.prog = true := by kernel_rfl
section
variable {H : Type} {enc : TypeId × Value → H} {P : Program} {w : World}
/-- arguments read again where nothing that they read has turned -/
theorem gtrodAll_stays {W W' : World} {sp' : Nat → Bool} (hl : laidOutB P = true) : ∀ {ts : List TypeId} {vs : List Value} {ds : List (DataW H)} {ps : List MemPlace}, DataW.TrodAll enc P W 0 (fun _ => true) true ts vs ds ps →
    (∀ t ∈ ts, P.readableRec t = true ∧ t < P.types.size) → (∀ p ∈ ps, W.sameAt W' p) → (∀ p ∈ ps, sp' p.block = true) → DataW.TrodAll enc P W' 0 sp' true ts vs ds ps
  | [], [], [], _, h, _, _, _ => h
  | [], [], _ :: _, _, h, _, _, _ => h.elim
  | [], _ :: _, _, _, h, _, _, _ => h.elim
  | _ :: _, [], _, _, h, _, _, _ => h.elim
  | _ :: _, _ :: _, [], _, h, _, _, _ => h.elim
  | t :: ts, v :: vs, d :: ds, ps, h, hr, hs, hp => by
    obtain ⟨p, q, h1, h2, rfl⟩ := h
    exact ⟨p, q, WideElems.Trod_stays hl (hr t (by simp)).1 (hr t (by simp)).2 h1 (fun x hx => hs x (by simp [hx])) (fun x hx => hp x (by simp [hx])),
      gtrodAll_stays hl h2 (fun u hu => hr u (by simp [hu])) (fun x hx => hs x (by simp [hx])) (fun x hx => hp x (by simp [hx])), rfl⟩
/-- the row's last step where nothing below the first new block has turned, and the arguments read as they did -/
theorem gpost_keep {f : Func} {s : ChangeSpec} {apart fresh handsOn again : Bool} {A B : World} {args : Array Value} {v : Value} {ds : List (DataW H)} {ps : List MemPlace}
    (hl : laidOutB P = true) (hts : ∀ t ∈ f.params.toList, P.readableRec t = true ∧ t < P.types.size) (hvars : s.vars = [])
    (hA : DataW.Whole enc P f.params.toList s.vars apart A args.toList ds [] ps)
    (hr : ∀ (b : Nat) (sp : Nat → Bool) (hd : Bool), DataW.TrodAll enc P B b sp hd f.resultTypes.toList (v.resultList f.resultTypes.size) (s.fn H ds).results [])
    (hargs : (s.fn H ds).args = ds) (hvs : (s.fn H ds).vars = []) (hb : Below A.heap.size A B)
    (ho : ∀ (j : Nat) (t : TypeId) (r : Value), f.resultTypes[j]? = some t → (v.resultList f.resultTypes.size)[j]? = some r → Value.okWide P B .any 0 t r) :
    s.post enc P f apart fresh handsOn again A args v B := by
  have h1 : ∀ p ∈ ps, p.block < A.heap.size := fun p h => hA.lt p h
  have h2 : ∀ p ∈ ps, (fun b => decide (b < A.heap.size)) p.block = true := fun p h => by simpa using h1 p h
  obtain ⟨p, q, hT, hV, hpq, hz, hn⟩ := hA
  have hq : q = [] := by rw [hvars] at hV; exact hV
  subst hq
  simp only [List.append_nil] at hpq
  subst hpq
  have ha : ∀ sp : Nat → Bool, (∀ x ∈ ps, sp x.block = true) → DataW.TrodAll enc P B 0 sp true f.params.toList args.toList (s.fn H (ds ++ [])).args ps := fun sp hsp => by
    rw [List.append_nil, hargs]
    exact gtrodAll_stays hl hT hts (fun x hx => hb.same (h1 x hx)) hsp
  have hv : ∀ sp : Nat → Bool, DataW.TrodVars enc P B sp s.vars (s.fn H (ds ++ [])).vars [] := fun sp => by
    rw [List.append_nil, hvs, hvars]; exact rfl
  have hr' : ∀ (b : Nat) (sp : Nat → Bool) (hd : Bool), DataW.TrodAll enc P B b sp hd f.resultTypes.toList (v.resultList f.resultTypes.size) (s.fn H (ds ++ [])).results [] := fun b sp hd => by
    rw [List.append_nil]; exact hr b sp hd
  refine ⟨ds, [], ps, [], ps, [], ⟨ps, [], hT, hV, (List.append_nil _).symm, hz, hn⟩, hr' _ _ _, ha _ h2, hv _, World.keptBut_mono (fun x h => ⟨h, ?_⟩) (hb.frame (· ∈ ps)), fun _ => ?_⟩
  · exact .inr (.inl h)
  · refine ⟨ho, _, _, ([] ++ ps) ++ [], ⟨[] ++ ps, [], trodAll_append (ha _ (fun _ _ => rfl)) (hr' _ _ _), hv _, rfl, ?_, ?_⟩, ?_⟩
    · intro b off h
      have hin : MemPlace.cell b off ∈ ps := by simpa using h
      rw [hb.frozen (h1 _ hin)]
      exact hz b off hin
    · intro h
      have := hn h
      simpa using this
    · intro x h _
      simpa using h
end
end Go.Proofs.YtkfkdlneafeglaaDoor
