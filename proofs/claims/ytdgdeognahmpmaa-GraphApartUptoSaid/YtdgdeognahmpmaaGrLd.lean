/-
  Needs as a law's argument; the row's last step; arguments read again.
-/
import Derived.Test.YtdgdeognahmpmaaGrN
import Derived.ProofKit
import Derived.OpenShut
import Derived.WideKeyArgs
import Derived.Deep.Matrix
import Derived.Deep.DeepHandedRow
import Derived.SizedLaws
namespace Go.Proofs.Ytdgdeognahmpmaa
open Go.ChangeShapes Go.WideShapes Go.ChangeAt Go.RowKit

theorem ownG : ownKnob Try.prog.godebug = none := by kernel_rfl
theorem laidOutG : laidOutB Try.prog = true := by kernel_rfl
theorem gcInt : Try.prog.cellsOf 3 = 1 := by kernel_rfl
theorem gcInts : Try.prog.cellsOf 24 = 1 := by kernel_rfl
theorem add_gcell {w : World} {a : Addr} {x : Value} (h : w.cell? a = some x) : ∃ g o, a = ⟨g, o, none⟩ ∧ g < w.heap.size := by
  have hs := World.cell?_spot h
  obtain ⟨g, o, sp⟩ := a
  simp only at hs
  subst hs
  exact ⟨g, o, rfl, World.block_lt_of_cell? w _ h⟩
theorem gadd (g o j : Nat) : (⟨g, o, none⟩ : Addr).add j = ⟨g, o + j, none⟩ := by
  by_cases h : j = 0
  · subst h; simp [Addr.add]
  · simp [Addr.add, h]
section
variable {H : Type} {enc : TypeId × Value → H} {P : Program} {w : World}
/-- what is read of a [][]int are needs -/
theorem needs_of {r : Reach} {b0 : Nat} {x : Value} {d : DataW H} {p : List MemPlace} (hv : Value.okWide Try.prog w r b0 22 x) (h : DataW.Trod enc Try.prog w 0 (fun _ => true) true 22 x d p) : ∃ L, NRd w.heap.size w x L := by
  obtain ⟨q, n, c, rfl⟩ := okWide_slice Try.underlying22 hv
  obtain ⟨fuel, hf⟩ := h
  rcases Deep.open_int_rows Try.underlying22 Try.underlying24 Try.underlying3 gcInts gcInt hf with ⟨hcs0, hx⟩ | ⟨a, len, cap, A, L, C, Z, hcs0, _, hl, hm, hx, hrows⟩
  · simp [Value.cells] at hcs0
    obtain ⟨rfl, rfl, rfl⟩ := hcs0
    exact ⟨[], none, 0, rfl, fun h => absurd h (Nat.lt_irrefl 0)⟩
  · simp [Value.cells] at hcs0
    obtain ⟨rfl, rfl, rfl⟩ := hcs0
    refine ⟨(List.range n).map fun i => (Z i).take (L i), some a, c, by simp, fun h0 => ?_⟩
    rw [List.length_map, List.length_range] at h0
    obtain ⟨h1, -⟩ := hrows 0 (by omega)
    obtain ⟨g, o, e, hg⟩ := add_gcell (by rw [show a.add 0 = a by simp [Addr.add]] at h1; exact h1)
    subst e
    refine ⟨g, o, rfl, hg, fun i hi => ?_⟩
    rw [List.length_map, List.length_range] at hi
    obtain ⟨h2, h3, h4, h5, h6, h7, h8⟩ := hrows i (by omega)
    rw [gadd] at h2
    have hlen : ((Z i).take (L i)).length = L i := by rw [List.length_take]; omega
    refine ⟨_, h2, A i, C i, by simp [hlen], fun h9 => ?_⟩
    simp only [List.getElem_map, List.getElem_range] at h9 ⊢
    rw [hlen] at h9
    cases hA : A i with
    | none => have := h7 hA; omega
    | some a' =>
      obtain ⟨_, hc⟩ := h8 a' hA
      have hc0 := hc 0 (by omega)
      obtain ⟨g2, o2, e2, hg2⟩ := add_gcell (by rw [show a'.add 0 = a' by simp [Addr.add]] at hc0; exact hc0)
      subst e2
      refine ⟨g2, o2, rfl, hg2, fun j hj => ?_⟩
      rw [hlen] at hj
      have := hc j (by omega)
      rw [gadd] at this
      rw [this, List.getElem_take, List.getD_eq_getElem?_getD, List.getElem?_eq_getElem (by omega)]
      rfl
/-- arguments read again where nothing that they read has turned -/
theorem gtrodAll_stays {W W' : World} {sp' : Nat → Bool} (hl : laidOutB P = true) : ∀ {ts : List TypeId} {vs : List Value} {ds : List (DataW H)} {ps : List MemPlace}, DataW.TrodAll enc P W 0 (fun _ => true) true ts vs ds ps →
    (∀ t ∈ ts, P.readableRec t = true ∧ t < P.types.size) → (∀ p ∈ ps, W.sameAt W' p) → (∀ p ∈ ps, sp' p.block = true) → DataW.TrodAll enc P W' 0 sp' true ts vs ds ps
  | [], [], [], _, h, _, _, _ => h
  | [], [], _ :: _, _, h, _, _, _ => h.elim
  | [], _ :: _, _, _, h, _, _, _ => h.elim
  | _ :: _, [], _, _, h, _, _, _ => h.elim
  | _ :: _, _ :: _, [], _, h, _, _, _ => h.elim
  | t :: ts, v :: vs, d :: ds, ps, h, hr, hs, hp => by
    obtain ⟨p, q, h1, h2, rfl⟩ := h
    exact ⟨p, q, WideElems.Trod_stays hl (hr t (by simp)).1 (hr t (by simp)).2 h1 (fun x hx => hs x (by simp [hx])) (fun x hx => hp x (by simp [hx])),
      gtrodAll_stays hl h2 (fun u hu => hr u (by simp [hu])) (fun x hx => hs x (by simp [hx])) (fun x hx => hp x (by simp [hx])), rfl⟩
/-- the row's last step where nothing below the first new block has turned, and the arguments read as they did -/
theorem gpost_keep {f : Func} {s : ChangeSpec} {apart fresh handsOn again : Bool} {A B : World} {args : Array Value} {v : Value} {ds : List (DataW H)} {ps : List MemPlace}
    (hl : laidOutB P = true) (hts : ∀ t ∈ f.params.toList, P.readableRec t = true ∧ t < P.types.size) (hvars : s.vars = [])
    (hA : DataW.Whole enc P f.params.toList s.vars apart A args.toList ds [] ps)
    (hr : ∀ (b : Nat) (sp : Nat → Bool) (hd : Bool), DataW.TrodAll enc P B b sp hd f.resultTypes.toList (v.resultList f.resultTypes.size) (s.fn H ds).results [])
    (hargs : (s.fn H ds).args = ds) (hvs : (s.fn H ds).vars = []) (hb : Below A.heap.size A B)
    (ho : ∀ (j : Nat) (t : TypeId) (r : Value), f.resultTypes[j]? = some t → (v.resultList f.resultTypes.size)[j]? = some r → Value.okWide P B .any 0 t r) :
    s.post enc P f apart fresh handsOn again A args v B := by
  have h1 : ∀ p ∈ ps, p.block < A.heap.size := fun p h => hA.lt p h
  have h2 : ∀ p ∈ ps, (fun b => decide (b < A.heap.size)) p.block = true := fun p h => by simpa using h1 p h
  obtain ⟨p, q, hT, hV, hpq, hz, hn⟩ := hA
  have hq : q = [] := by rw [hvars] at hV; exact hV
  subst hq
  simp only [List.append_nil] at hpq
  subst hpq
  have ha : ∀ sp : Nat → Bool, (∀ x ∈ ps, sp x.block = true) → DataW.TrodAll enc P B 0 sp true f.params.toList args.toList (s.fn H (ds ++ [])).args ps := fun sp hsp => by
    rw [List.append_nil, hargs]
    exact gtrodAll_stays hl hT hts (fun x hx => hb.same (h1 x hx)) hsp
  have hv : ∀ sp : Nat → Bool, DataW.TrodVars enc P B sp s.vars (s.fn H (ds ++ [])).vars [] := fun sp => by
    rw [List.append_nil, hvs, hvars]; exact rfl
  have hr' : ∀ (b : Nat) (sp : Nat → Bool) (hd : Bool), DataW.TrodAll enc P B b sp hd f.resultTypes.toList (v.resultList f.resultTypes.size) (s.fn H (ds ++ [])).results [] := fun b sp hd => by
    rw [List.append_nil]; exact hr b sp hd
  refine ⟨ds, [], ps, [], ps, [], ⟨ps, [], hT, hV, (List.append_nil _).symm, hz, hn⟩, hr' _ _ _, ha _ h2, hv _, World.keptBut_mono (fun x h => ⟨h, ?_⟩) (hb.frame (· ∈ ps)), fun _ => ?_⟩
  · exact .inr (.inl h)
  · refine ⟨ho, _, _, ([] ++ ps) ++ [], ⟨[] ++ ps, [], trodAll_append (ha _ (fun _ _ => rfl)) (hr' _ _ _), hv _, rfl, ?_, ?_⟩, ?_⟩
    · intro b off h
      have hin : MemPlace.cell b off ∈ ps := by simpa using h
      rw [hb.frozen (h1 _ hin)]
      exact hz b off hin
    · intro h
      have := hn h
      simpa using this
    · intro x h _
      simpa using h
end
end Go.Proofs.Ytdgdeognahmpmaa
