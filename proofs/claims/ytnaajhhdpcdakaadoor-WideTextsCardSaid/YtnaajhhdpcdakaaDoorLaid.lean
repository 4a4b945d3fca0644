/-
  From the rows' conditions to the walks' words: the list of powers of ten; two words as one number; the row's last step.
-/
import Derived.Test.YtnaajhhdpcdakaaDoorWideC
import Derived.ProofKit
import Derived.LaidMore
import Derived.LaidLaws
import Derived.MakeChecks
import Derived.OpenShut
import Derived.Stop.Joined
import Derived.Lib.LaidTab
import Derived.Lib.SmallJoins
namespace Go.Proofs.YtnaajhhdpcdakaaDoor
open Go.ChangeShapes Go.WideShapes Go.ChangeAt Go.RowKit Go.Joins Word

theorem own : ownKnob Tryd.prog.godebug = none := by kernel_rfl
theorem gTens : Tryd.prog.globalNamed "tariff/wide.tens" = some 0 := by kernel_rfl
theorem tTens : (Tryd.prog.globals[0]?).map (·.type) = some 45 := by kernel_rfl
theorem cellsWord : Tryd.prog.cellsOf 22 = 1 := by kernel_rfl
theorem cellsTens : Tryd.prog.cellsOf 45 = 20 := by kernel_rfl
theorem cellsWide : Tryd.prog.cellsOf 24 = 2 := by kernel_rfl
def tensList : List Int := [1, 10, 100, 1000, 10000, 100000, 1000000, 10000000, 100000000, 1000000000, 10000000000, 100000000000, 1000000000000, 10000000000000, 100000000000000, 1000000000000000, 10000000000000000, 100000000000000000, 1000000000000000000, 10000000000000000000]
def tensLaid : List (String × DataW Unit) := [("tariff/wide.tens", Rows.laid_tariff_wide_tens)]
theorem tens_data : (Rows.laid_tariff_wide_tens : DataW Unit) = Lib.tabData .u64 tensList := rfl
theorem tens_at : ∀ j : Fin 20, tensList.getD j.val 0 = ((10 ^ j.val : Nat) : Int) := by decide
theorem tens_of_laid {W : World} (h : laidMetH Tryd.prog tensLaid W) : Tens W := by
  rw [MakeChecks.laidMetH_plain _ _ _ (by kernel_rfl)] at h
  unfold tensLaid at h
  rw [tens_data] at h
  have ht := Lib.tabIs_of_head gTens tTens Tryd.underlying45 Tryd.underlying22 cellsWord cellsTens h
  have hc : ∀ j, j < 20 → W.cell? ⟨0, j, none⟩ = some (.int .u64 (p10 j : Int)) := fun j hj => by
    have := Lib.TabIs.cell ht gTens j hj
    rw [tens_at ⟨j, hj⟩] at this
    exact this
  exact ⟨World.block_lt_of_cell? W _ (hc 0 (by decide)), hc⟩
theorem door_met (os : Os) (args : Array Value) : laidMetH Tryd.prog tensLaid ((World.doorLaid Tryd.prog 400 os).forCall (fun _ _ => 0) ⟨#[], args, []⟩).memory :=
  laidMetH_of_parts3 (fuel := 8) (laidMet_of_run' 8 (by kernel_rfl) (by kernel_rfl)) (by kernel_rfl) (by kernel_rfl)
/-- two words are the words of one number -/
theorem words_of_wf {x y : Int} (hx : (Lit.int .u64 x).wf = true) (hy : (Lit.int .u64 y).wf = true) : ∃ n, n < top2 ∧ x = (hi n : Int) ∧ y = (lo n : Int) := by
  simp [Lit.wf, IntKind.min, IntKind.max, IntKind.signed, IntKind.bits] at hx hy
  refine ⟨x.toNat * 18446744073709551616 + y.toNat, by unfold top2; omega, ?_, ?_⟩
  · unfold hi; omega
  · unfold lo; omega
section
variable {H : Type} {enc : TypeId × Value → H} {P : Program}
/-- the row's last step where nothing below the first new block has turned -/
theorem post_below {f : Func} {s : ChangeSpec} {apart fresh handsOn again : Bool} {A B : World} {args : Array Value} {v : Value} {ds gs : List (DataW H)} {ps pa pv : List MemPlace}
    (hA : DataW.Whole enc P f.params.toList s.vars apart A args.toList ds gs ps)
    (hr : ∀ (b : Nat) (sp : Nat → Bool) (hd : Bool), DataW.TrodAll enc P B b sp hd f.resultTypes.toList (v.resultList f.resultTypes.size) (s.fn H (ds ++ gs)).results [])
    (ha : ∀ sp : Nat → Bool, (∀ p ∈ ps, sp p.block = true) → DataW.TrodAll enc P B 0 sp true f.params.toList args.toList (s.fn H (ds ++ gs)).args pa)
    (hv : ∀ sp : Nat → Bool, (∀ p ∈ ps, sp p.block = true) → DataW.TrodVars enc P B sp s.vars (s.fn H (ds ++ gs)).vars pv)
    (hp : ps = pa ++ pv) (hb : Below A.heap.size A B)
    (ho : ∀ (j : Nat) (t : TypeId) (r : Value), f.resultTypes[j]? = some t → (v.resultList f.resultTypes.size)[j]? = some r → Value.okWide P B .any 0 t r) :
    s.post enc P f apart fresh handsOn again A args v B := by
  have h1 : ∀ p ∈ ps, p.block < A.heap.size := fun p h => hA.lt p h
  have h2 : ∀ p ∈ ps, (fun b => decide (b < A.heap.size)) p.block = true := fun p h => by simpa using h1 p h
  refine ⟨ds, gs, ps, [], pa, pv, hA, hr _ _ _, ha _ h2, hv _ h2, World.keptBut_mono (fun p h => ⟨h, ?_⟩) (hb.frame (· ∈ ps)), fun _ => ?_⟩
  · rw [hp, List.mem_append] at h
    exact .inr h
  · obtain ⟨_, _, _, _, _, hz, hn⟩ := hA
    refine ⟨ho, _, _, ([] ++ pa) ++ pv, ⟨[] ++ pa, pv, trodAll_append (ha _ (fun _ _ => rfl)) (hr _ _ _), hv _ (fun _ _ => rfl), rfl, ?_, ?_⟩, ?_⟩
    · intro b off h
      have hin : MemPlace.cell b off ∈ ps := by rw [hp]; simpa using h
      rw [hb.frozen (h1 _ hin)]
      exact hz b off hin
    · intro h
      have := hn h
      rw [hp] at this
      simpa using this
    · intro p h _
      rw [hp]
      simpa using h
end
end Go.Proofs.YtnaajhhdpcdakaaDoor
