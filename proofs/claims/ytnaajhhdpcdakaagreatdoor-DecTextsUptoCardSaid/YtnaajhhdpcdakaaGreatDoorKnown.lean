/-
  The statements' own first question of package wide (a carry, and a rounding) is answered yes.
-/
import Derived.Test.YtnaajhhdpcdakaaGreatDoorRound
namespace Go.Proofs.YtnaajhhdpcdakaaGreatDoor
open Go.RowKit Word
attribute [local go_sem] setCell_drewN cell?_ext frozen?_ext shape?_ext setCell_ext lt_1' ne_1' en_1' le_1' lt_2' ne_2' en_2' le_2' lt_3' ne_3' en_3' le_3' lt_4' ne_4' en_4' le_4' lt_5' ne_5' en_5' le_5' lt_6' ne_6' en_6' le_6' lt_7' ne_7' en_7' le_7' lt_8' ne_8' en_8' le_8' lt_9' ne_9' en_9' le_9' lt_10' ne_10' en_10' le_10' lt_11' ne_11' en_11' le_11' lt_12' ne_12' en_12' le_12'

theorem known_round (w : World) (ht : Tens w) : Calls Tryz.prog 60 #[.agg #[.int .u64 35, .int .u64 0, .int .u64 0, .int .u64 0], .int .i64 1] w fun e w' => e = .returned (.tuple #[.agg #[.int .u64 0, .int .u64 4], .int .i64 0]) ∧ Below w.heap.size w w' := by
  have h := round_ok 35 1 4 (Or.inr (Or.inl ⟨rfl, rfl, rfl⟩)) (by omega) (by unfold top4; decide) w ht
  have e1 : L 35 = .agg #[.int .u64 35, .int .u64 0, .int .u64 0, .int .u64 0] := rfl
  have e2 : nw 4 = 4 := if_pos (by unfold top2; decide)
  have e3 : ne 4 = 0 := if_pos (by unfold top2; decide)
  have e4 : W 4 = .agg #[.int .u64 0, .int .u64 4] := rfl
  rw [e1, e2, e3, e4] at h
  exact h
end Go.Proofs.YtnaajhhdpcdakaaGreatDoor
