/-
  Two numbers of four words are compared word by word.
-/
import Derived.Test.YtjkallelniggpaaDoorKnown
import Derived.ChangeKeysEq
namespace Go.Proofs.YtjkallelniggpaaDoor
open Go.RowKit Word
theorem word_info : (Tryd.prog.info? 40).map (fun i => (i.zero, i.size, i.bytes)) = some (some (.int .u64 0), 1, 8) := by kernel_rfl
theorem word_cells : Tryd.prog.cellsOf 40 = 1 := by kernel_rfl
theorem long_eqIn (a0 a1 a2 a3 b0 b1 b2 b3 : Int) (w : World) :
    (Op.equalIn 10000 146 (.agg #[.int .u64 a0, .int .u64 a1, .int .u64 a2, .int .u64 a3]) (.agg #[.int .u64 b0, .int .u64 b1, .int .u64 b2, .int .u64 b3])).run Tryd.prog w = .ok (a0 == b0 && (a1 == b1 && (a2 == b2 && a3 == b3))) w := by
  obtain ⟨i, hi, _, _, _⟩ := info_parts word_info
  rw [run_equalIn_array w 9999 _ _ Tryd.underlying146 hi, word_cells]
  simp [Op.eqItems, List.range_succ, part, go_sem]
  by_cases h0 : a0 = b0 <;> by_cases h1 : a1 = b1 <;> by_cases h2 : a2 = b2 <;> by_cases h3 : a3 = b3 <;> simp [h0, h1, h2, h3]
end Go.Proofs.YtjkallelniggpaaDoor
