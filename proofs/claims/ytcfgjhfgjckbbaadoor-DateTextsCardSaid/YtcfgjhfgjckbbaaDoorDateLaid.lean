/-
  From the rows' conditions to the walks' words: the months' lengths and the library's powers of ten lie as the texts lay them; the row's last step.
-/
import Derived.Test.YtcfgjhfgjckbbaaDoorPrint
import Derived.ProofKit
import Derived.LaidMore
import Derived.LaidLaws
import Derived.MakeChecks
import Derived.OpenShut
import Derived.ShutString
import Derived.Stop.Joined
import Derived.Stop.LaidErr
import Derived.Lib.LaidTab
import Derived.Lib.SmallJoins
namespace Go.Proofs.YtcfgjhfgjckbbaaDoor
open Go.ChangeShapes Go.WideShapes Go.ChangeAt Go.RowKit Go.Joins

theorem own : ownKnob Tryd.prog.godebug = none := by kernel_rfl
theorem gLens : Tryd.prog.globalNamed "tariff/date.lengths" = some 0 := by kernel_rfl
theorem tLens : (Tryd.prog.globals[0]?).map (·.type) = some 69 := by kernel_rfl
theorem tPow : (Tryd.prog.globals[3]?).map (·.type) = some 113 := by kernel_rfl
theorem cellsInt : Tryd.prog.cellsOf 3 = 1 := by kernel_rfl
theorem cellsWord : Tryd.prog.cellsOf 44 = 1 := by kernel_rfl
theorem cellsLens : Tryd.prog.cellsOf 69 = 12 := by kernel_rfl
theorem cellsPow : Tryd.prog.cellsOf 113 = 20 := by kernel_rfl
def dateLaid : List (String × DataW Unit) := [("math/bits.deBruijn32tab", Rows.laid_math_bits_deBruijn32tab), ("math/bits.deBruijn64tab", Rows.laid_math_bits_deBruijn64tab), ("internal/strconv.uint64pow10", Rows.laid_internal_strconv_uint64pow10), ("tariff/date.lengths", Rows.laid_tariff_date_lengths)]
theorem lens_data : (Rows.laid_tariff_date_lengths : DataW Unit) = Lib.tabData .i64 lensList := rfl
theorem pow_data : (Rows.laid_internal_strconv_uint64pow10 : DataW Unit) = Lib.tabData .u64 Lib.pow10Tab := rfl
theorem laid_of_row {W : World} (h : laidMetH Tryd.prog dateLaid W) : Laid W := by
  rw [MakeChecks.laidMetH_plain _ _ _ (by kernel_rfl)] at h
  unfold dateLaid at h
  have h3 := laidMet.tail (laidMet.tail h)
  have h4 := laidMet.tail h3
  rw [pow_data] at h3
  rw [lens_data] at h4
  have hp := Lib.tabIs_of_head gPow tPow Tryd.underlying113 Tryd.underlying44 cellsWord cellsPow h3
  have hl := Lib.tabIs_of_head gLens tLens Tryd.underlying69 Tryd.underlying3 cellsInt cellsLens h4
  have hc : ∀ j, j < 12 → W.cell? ⟨0, j, none⟩ = some (.int .i64 (lensList.getD j 0)) := fun j hj => Lib.TabIs.cell hl gLens j hj
  exact ⟨⟨World.block_lt_of_cell? W _ (hc 0 (by decide)), hc⟩, hp, World.block_lt_of_cell? W _ (Lib.TabIs.cell hp gPow 0 (by decide))⟩
theorem door_met (os : Os) (args : Array Value) : laidMetH Tryd.prog dateLaid ((World.doorLaid Tryd.prog 400 os).forCall (fun _ _ => 0) ⟨#[], args, []⟩).memory :=
  laidMetH_of_parts3 (fuel := 8) (laidMet_of_run' 8 (by kernel_rfl) (by kernel_rfl)) (by kernel_rfl) (by kernel_rfl)
section
variable {H : Type} {enc : TypeId × Value → H} {P : Program}
/-- the row's last step where nothing below the first new block has turned -/
theorem post_below {f : Func} {s : ChangeSpec} {apart fresh handsOn again : Bool} {A B : World} {args : Array Value} {v : Value} {ds gs : List (DataW H)} {ps pa pv : List MemPlace}
    (hA : DataW.Whole enc P f.params.toList s.vars apart A args.toList ds gs ps)
    (hr : ∀ (b : Nat) (sp : Nat → Bool) (hd : Bool), DataW.TrodAll enc P B b sp hd f.resultTypes.toList (v.resultList f.resultTypes.size) (s.fn H (ds ++ gs)).results [])
    (ha : ∀ sp : Nat → Bool, (∀ p ∈ ps, sp p.block = true) → DataW.TrodAll enc P B 0 sp true f.params.toList args.toList (s.fn H (ds ++ gs)).args pa)
    (hv : ∀ sp : Nat → Bool, (∀ p ∈ ps, sp p.block = true) → DataW.TrodVars enc P B sp s.vars (s.fn H (ds ++ gs)).vars pv)
    (hp : ps = pa ++ pv) (hb : Below A.heap.size A B)
    (ho : ∀ (j : Nat) (t : TypeId) (r : Value), f.resultTypes[j]? = some t → (v.resultList f.resultTypes.size)[j]? = some r → Value.okWide P B .any 0 t r) :
    s.post enc P f apart fresh handsOn again A args v B := by
  have h1 : ∀ p ∈ ps, p.block < A.heap.size := fun p h => hA.lt p h
  have h2 : ∀ p ∈ ps, (fun b => decide (b < A.heap.size)) p.block = true := fun p h => by simpa using h1 p h
  refine ⟨ds, gs, ps, [], pa, pv, hA, hr _ _ _, ha _ h2, hv _ h2, World.keptBut_mono (fun p h => ⟨h, ?_⟩) (hb.frame (· ∈ ps)), fun _ => ?_⟩
  · rw [hp, List.mem_append] at h
    exact .inr h
  · obtain ⟨_, _, _, _, _, hz, hn⟩ := hA
    refine ⟨ho, _, _, ([] ++ pa) ++ pv, ⟨[] ++ pa, pv, trodAll_append (ha _ (fun _ _ => rfl)) (hr _ _ _), hv _ (fun _ _ => rfl), rfl, ?_, ?_⟩, ?_⟩
    · intro b off h
      have hin : MemPlace.cell b off ∈ ps := by rw [hp]; simpa using h
      rw [hb.frozen (h1 _ hin)]
      exact hz b off hin
    · intro h
      have := hn h
      rw [hp] at this
      simpa using this
    · intro p h _
      rw [hp]
      simpa using h
end
end Go.Proofs.YtcfgjhfgjckbbaaDoor
