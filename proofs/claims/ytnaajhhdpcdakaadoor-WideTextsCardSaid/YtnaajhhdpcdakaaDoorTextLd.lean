/-
  From the row's conditions to the walks' words: both lists of powers of ten lie as the texts lay them.
-/
import Derived.Test.YtnaajhhdpcdakaaDoorTextP
import Derived.Test.YtnaajhhdpcdakaaDoorLaid
import Derived.ShutString
import Derived.Stop.LaidErr
namespace Go.Proofs.YtnaajhhdpcdakaaDoor
open Go.ChangeShapes Go.WideShapes Go.ChangeAt Go.RowKit Go.Joins Word

theorem tPowT : (Tryd.prog.globals[3]?).map (·.type) = some 45 := by kernel_rfl
def textLaid : List (String × DataW Unit) := [("math/bits.deBruijn32tab", Rows.laid_math_bits_deBruijn32tab), ("math/bits.deBruijn64tab", Rows.laid_math_bits_deBruijn64tab), ("internal/strconv.uint64pow10", Rows.laid_internal_strconv_uint64pow10), ("tariff/wide.tens", Rows.laid_tariff_wide_tens)]
theorem powT_data : (Rows.laid_internal_strconv_uint64pow10 : DataW Unit) = Lib.tabData .u64 Lib.pow10Tab := rfl
theorem tenPow_of_laid {W : World} (h : laidMetH Tryd.prog textLaid W) : TenPow W := by
  rw [MakeChecks.laidMetH_plain _ _ _ (by kernel_rfl)] at h
  unfold textLaid at h
  have h3 := laidMet.tail (laidMet.tail h)
  have h4 := laidMet.tail h3
  rw [powT_data] at h3
  rw [tens_data] at h4
  have hp := Lib.tabIs_of_head gPowT tPowT Tryd.underlying45 Tryd.underlying22 cellsWord cellsTens h3
  have ht := Lib.tabIs_of_head gTens tTens Tryd.underlying45 Tryd.underlying22 cellsWord cellsTens h4
  have hc : ∀ j, j < 20 → W.cell? ⟨0, j, none⟩ = some (.int .u64 (p10 j : Int)) := fun j hj => by
    have := Lib.TabIs.cell ht gTens j hj
    rw [tens_at ⟨j, hj⟩] at this
    exact this
  exact ⟨⟨World.block_lt_of_cell? W _ (hc 0 (by decide)), hc⟩, hp, World.block_lt_of_cell? W _ (Lib.TabIs.cell hp gPowT 0 (by decide))⟩
theorem reachT_of {s : ByteArray} (h : s.data.toList.length ≤ reachBytes) : s.size ≤ 140737488351232 := by
  have e : s.data.toList.length = s.size := rfl
  unfold reachBytes at h
  omega
theorem text_door_met (os : Os) (args : Array Value) : laidMetH Tryd.prog textLaid ((World.doorLaid Tryd.prog 400 os).forCall (fun _ _ => 0) ⟨#[], args, []⟩).memory :=
  laidMetH_of_parts3 (fuel := 8) (laidMet_of_run' 8 (by kernel_rfl) (by kernel_rfl)) (by kernel_rfl) (by kernel_rfl)
end Go.Proofs.YtnaajhhdpcdakaaDoor
