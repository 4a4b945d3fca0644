/-
  From the rows' conditions to the walks' words: the encoding's tables, the months' lengths; the row's last step.
-/
import Derived.Test.YtonajmngchfjeaaDoorLexW
import Derived.Test.YtonajmngchfjeaaDoorBg
import Derived.ProofKit
import Derived.Lib.LaidTab
import Derived.Lib.SmallJoins
namespace Go.Proofs.YtonajmngchfjeaaDoor
open Go.ChangeShapes Go.WideShapes Go.ChangeAt Go.RowKit Go.Joins Txt

theorem lxgLens : Tryd.prog.globalNamed "tariff/date.lengths" = some 3 := by kernel_rfl
theorem lxtLens : (Tryd.prog.globals[3]?).map (·.type) = some 98 := by kernel_rfl
theorem lxcInt : Tryd.prog.cellsOf 3 = 1 := by kernel_rfl
theorem lxcLens : Tryd.prog.cellsOf 98 = 12 := by kernel_rfl
def lexLaid : List (String × DataW Unit) := [("unicode/utf8.acceptRanges", Rows.laid_unicode_utf8_acceptRanges), ("tariff/date.lengths", Rows.laid_tariff_date_lengths), ("unicode/utf8.first", Rows.laid_unicode_utf8_first)]
theorem lxlens_data : (Rows.laid_tariff_date_lengths : DataW Unit) = Lib.tabData .i64 lensList := rfl
theorem lex_of_row {W : World} (h : laidMetH Tryd.prog lexLaid W) : Tabs W ∧ Lens W := by
  rw [MakeChecks.laidMetH_plain _ _ _ (by kernel_rfl)] at h
  have h3 := Lib.laidMet.reads h (n := "unicode/utf8.first") (d := Rows.laid_unicode_utf8_first) (.tail _ (.tail _ (.head _)))
  have h4 := Lib.laidMet.reads h (n := "unicode/utf8.acceptRanges") (d := Rows.laid_unicode_utf8_acceptRanges) (.head _)
  rw [first_data] at h3
  rw [accept_data] at h4
  have hT : Lib.Utf8Tabs 0 1 W := utf8Tabs_of_readsT (U8Types.of196 Tryd.lays196) xU8 h3 h4
  unfold lexLaid at h
  have h5 := laidMet.tail h
  rw [lxlens_data] at h5
  have hl := Lib.tabIs_of_head lxgLens lxtLens Tryd.underlying98 Tryd.underlying3 lxcInt lxcLens h5
  have hc : ∀ j, j < 12 → W.cell? ⟨3, j, none⟩ = some (.int .i64 (lensList.getD j 0)) := fun j hj => Lib.TabIs.cell hl lxgLens j hj
  exact ⟨⟨hT, World.block_lt_of_cell? W _ (hT.1 0 (by decide)), World.block_lt_of_cell? W _ (hT.2 0 (by decide)).1⟩, ⟨World.block_lt_of_cell? W _ (hc 0 (by decide)), hc⟩⟩
end Go.Proofs.YtonajmngchfjeaaDoor
