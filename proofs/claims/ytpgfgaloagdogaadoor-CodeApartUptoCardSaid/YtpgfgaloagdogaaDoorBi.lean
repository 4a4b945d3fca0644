/-
  Compile of a choice.
  Five instructions are the same.
  What the laws of code know of a choice.
-/
import Derived.Test.YtpgfgaloagdogaaDoorBh
import Derived.Test.YtpgfgaloagdogaaDoorNodC
import Derived.Test.YtpgfgaloagdogaaDoorNodB
namespace Go.Proofs.YtpgfgaloagdogaaDoor
open Go.RowKit Go.Maps Go.WideMaps Vm
attribute [local go_sem] setCell_drewN cell?_ext frozen?_ext shape?_ext setCell_ext lt_1' ne_1' en_1' le_1' lt_2' ne_2' en_2' le_2' lt_3' ne_3' en_3' le_3' lt_4' ne_4' en_4' le_4' lt_5' ne_5' en_5' le_5' lt_6' ne_6' en_6' le_6' lt_7' ne_7' en_7' le_7' lt_8' ne_8' en_8' le_8' lt_9' ne_9' en_9' le_9' lt_10' ne_10' en_10' le_10' lt_11' ne_11' en_11' le_11' lt_12' ne_12' en_12' le_12'

set_option maxRecDepth 100000 in
set_option maxHeartbeats 4000000 in
theorem ccompile_choice {g : Nat} {w : World} (h : ChC w g) :
    Calls Tryd.prog 10 #[.slice (some ⟨g, 0, none⟩) 4 4, .bool false] w fun e w' => ∃ v' B, e = .returned (.tuple #[v', .int .i64 0]) ∧ OL isK insE B w' v' (codeC 4) ∧ Below w.heap.size w w' := by
  have HCH := Lib.hid (echeck_choice h)
  have HCP := Lib.hid (fun w' (hb : Below w.heap.size w w') => compile_choice (h.new hb))
  clear h
  go_enter Tryd.func10, Tryd.ntmps10
  go_wp2_with (first
    | (go_at_call 19; (with_reducible refine (HCH.out).mono ?_); rintro e w1 ⟨rfl, hb1⟩)
    | (go_at_call 20; (with_reducible refine (HCP.out _ (by (repeat' (first | (with_reducible exact Below.refl _ _) | (with_reducible assumption) | (with_reducible refine Below.alloc ?_ ?_ _) | (with_reducible refine below_drewN ?_ _) | (with_reducible refine below_drew ?_) | (with_reducible refine below_ext ?_ ?_ _ _) | (with_reducible refine Below.setCell ?_ ?_ _) | (simp; done) | (simp; omega) | omega)))).mono ?_); rintro e w2 ⟨v2, rfl, hol, hb2⟩))
  go_ret2
  exact ⟨v2, _, rfl, hol, hb1.trans (hb2.mono hb1.size)⟩
end Go.Proofs.YtpgfgaloagdogaaDoor
namespace Go.Proofs.YtpgfgaloagdogaaDoor
open Go.RowKit Go.Maps Go.WideMaps Vm
attribute [local go_sem] setCell_drewN cell?_ext frozen?_ext shape?_ext setCell_ext lt_1' ne_1' en_1' le_1' lt_2' ne_2' en_2' le_2' lt_3' ne_3' en_3' le_3' lt_4' ne_4' en_4' le_4' lt_5' ne_5' en_5' le_5' lt_6' ne_6' en_6' le_6' lt_7' ne_7' en_7' le_7' lt_8' ne_8' en_8' le_8' lt_9' ne_9' en_9' le_9' lt_10' ne_10' en_10' le_10' lt_11' ne_11' en_11' le_11' lt_12' ne_12' en_12' le_12'

abbrev opI : Nat → Int := fun j => if j = 0 then 2 else if j = 1 then 102 else if j = 2 then 1 else if j = 3 then 101 else 3
abbrev aI : Nat → Int := fun j => if j = 1 then 4 else if j = 3 then 5 else 0
def FiC (w : World) (g : Nat) : Prop := g < w.heap.size ∧ ∀ j, j < 5 → w.cell? ⟨g, j * 8, none⟩ = some (.int .i64 (opI j)) ∧ w.cell? ⟨g, j * 8 + 1, none⟩ = some (.int .i64 (aI j)) ∧ w.cell? ⟨g, j * 8 + 2, none⟩ = some (.string ⟨#[]⟩) ∧ w.cell? ⟨g, j * 8 + 3, none⟩ = some (.bool false) ∧
  w.cell? ⟨g, j * 8 + 4, none⟩ = some (.int .u64 0) ∧ w.cell? ⟨g, j * 8 + 5, none⟩ = some (.int .u64 0) ∧ w.cell? ⟨g, j * 8 + 6, none⟩ = some (.int .i64 0) ∧ w.cell? ⟨g, j * 8 + 7, none⟩ = some (.int .i64 0)
theorem FiC.new {w w' : World} {g : Nat} (h : FiC w g) (hb : Below w.heap.size w w') : FiC w' g := by
  have hc := fun j => hb.cell (p := ⟨g, j, none⟩) h.1
  refine ⟨Nat.lt_of_lt_of_le h.1 hb.size, fun j hj => ?_⟩
  obtain ⟨h0, h1, h2, h3, h4, h5, h6, h7⟩ := h.2 j hj
  exact ⟨(hc _).trans h0, (hc _).trans h1, (hc _).trans h2, (hc _).trans h3, (hc _).trans h4, (hc _).trans h5, (hc _).trans h6, (hc _).trans h7⟩
theorem FiC.of {B : Nat} {w : World} {v : Value} (h : OL isK insE B w v (codeC 4)) : ∃ g c, v = .slice (some ⟨g, 0, none⟩) 5 c ∧ 5 ≤ c ∧ FiC w g := by
  obtain ⟨q, c, hv, hq, hc⟩ := OL.form h
  obtain rfl : v = .slice q 5 c := hv
  obtain ⟨g, rfl, -, hg⟩ := hq (by decide)
  refine ⟨g, c, rfl, hc, hg, fun j hj => ?_⟩
  have hj5 : j = 0 ∨ j = 1 ∨ j = 2 ∨ j = 3 ∨ j = 4 := by omega
  rcases hj5 with rfl | rfl | rfl | rfl | rfl
  · exact ⟨OL.cell isE_cells h 0 0 (by decide) rfl, OL.cell isE_cells h 0 1 (by decide) rfl, OL.cell isE_cells h 0 2 (by decide) rfl, OL.cell isE_cells h 0 3 (by decide) rfl, OL.cell isE_cells h 0 4 (by decide) rfl, OL.cell isE_cells h 0 5 (by decide) rfl, OL.cell isE_cells h 0 6 (by decide) rfl, OL.cell isE_cells h 0 7 (by decide) rfl⟩
  · exact ⟨OL.cell isE_cells h 1 0 (by decide) rfl, OL.cell isE_cells h 1 1 (by decide) rfl, OL.cell isE_cells h 1 2 (by decide) rfl, OL.cell isE_cells h 1 3 (by decide) rfl, OL.cell isE_cells h 1 4 (by decide) rfl, OL.cell isE_cells h 1 5 (by decide) rfl, OL.cell isE_cells h 1 6 (by decide) rfl, OL.cell isE_cells h 1 7 (by decide) rfl⟩
  · exact ⟨OL.cell isE_cells h 2 0 (by decide) rfl, OL.cell isE_cells h 2 1 (by decide) rfl, OL.cell isE_cells h 2 2 (by decide) rfl, OL.cell isE_cells h 2 3 (by decide) rfl, OL.cell isE_cells h 2 4 (by decide) rfl, OL.cell isE_cells h 2 5 (by decide) rfl, OL.cell isE_cells h 2 6 (by decide) rfl, OL.cell isE_cells h 2 7 (by decide) rfl⟩
  · exact ⟨OL.cell isE_cells h 3 0 (by decide) rfl, OL.cell isE_cells h 3 1 (by decide) rfl, OL.cell isE_cells h 3 2 (by decide) rfl, OL.cell isE_cells h 3 3 (by decide) rfl, OL.cell isE_cells h 3 4 (by decide) rfl, OL.cell isE_cells h 3 5 (by decide) rfl, OL.cell isE_cells h 3 6 (by decide) rfl, OL.cell isE_cells h 3 7 (by decide) rfl⟩
  · exact ⟨OL.cell isE_cells h 4 0 (by decide) rfl, OL.cell isE_cells h 4 1 (by decide) rfl, OL.cell isE_cells h 4 2 (by decide) rfl, OL.cell isE_cells h 4 3 (by decide) rfl, OL.cell isE_cells h 4 4 (by decide) rfl, OL.cell isE_cells h 4 5 (by decide) rfl, OL.cell isE_cells h 4 6 (by decide) rfl, OL.cell isE_cells h 4 7 (by decide) rfl⟩
set_option maxRecDepth 100000 in
set_option maxHeartbeats 4000000 in
theorem isame_five {g1 g2 c1 c2 : Nat} {w : World} (h1 : FiC w g1) (h2 : FiC w g2) :
    Calls Tryd.prog 11 #[.slice (some ⟨g1, 0, none⟩) 5 c1, .slice (some ⟨g2, 0, none⟩) 5 c2] w fun e w' => e = .returned (.bool true) ∧ Below w.heap.size w w' := by
  have H1 := Lib.hid h1
  have H2 := Lib.hid h2
  clear h1 h2
  have hmg : Tryd.prog.eqGuardType Tryd.prog.depth 43 = false := by kernel_rfl
  go_enter Tryd.func11, Tryd.ntmps11
  go_wp2
  go_loopw [5] (fun z wr => ∃ k : Nat, z = .int .i64 k ∧ k ≤ 5 ∧ (∃ d, wr = w.drewN d)) (fun z _ => 5 - (intOf z).toNat)
  case atStart => exact ⟨0, rfl, by omega, 0, rfl⟩
  case round =>
    obtain ⟨k, rfl, hk, d, rfl⟩ := hrel
    have hk5 : k = 0 ∨ k = 1 ∨ k = 2 ∨ k = 3 ∨ k = 4 ∨ k = 5 := by omega
    rcases hk5 with rfl | rfl | rfl | rfl | rfl | rfl
    · obtain ⟨x0, x1, x2, x3, x4, x5, x6, x7⟩ := H1.out.2 0 (by omega)
      obtain ⟨y0, y1, y2, y3, y4, y5, y6, y7⟩ := H2.out.2 0 (by omega)
      have m0 : w.cell? ⟨g1, 0, none⟩ = some (.int .i64 2) := x0
      have n0 : w.cell? ⟨g2, 0, none⟩ = some (.int .i64 2) := y0
      have m1 : w.cell? ⟨g1, 1, none⟩ = some (.int .i64 0) := x1
      have n1 : w.cell? ⟨g2, 1, none⟩ = some (.int .i64 0) := y1
      have m2 : w.cell? ⟨g1, 2, none⟩ = some (.string ⟨#[]⟩) := x2
      have n2 : w.cell? ⟨g2, 2, none⟩ = some (.string ⟨#[]⟩) := y2
      have m3 : w.cell? ⟨g1, 3, none⟩ = some (.bool false) := x3
      have n3 : w.cell? ⟨g2, 3, none⟩ = some (.bool false) := y3
      have m4 : w.cell? ⟨g1, 4, none⟩ = some (.int .u64 0) := x4
      have n4 : w.cell? ⟨g2, 4, none⟩ = some (.int .u64 0) := y4
      have m5 : w.cell? ⟨g1, 5, none⟩ = some (.int .u64 0) := x5
      have n5 : w.cell? ⟨g2, 5, none⟩ = some (.int .u64 0) := y5
      have m6 : w.cell? ⟨g1, 6, none⟩ = some (.int .i64 0) := x6
      have n6 : w.cell? ⟨g2, 6, none⟩ = some (.int .i64 0) := y6
      have m7 : w.cell? ⟨g1, 7, none⟩ = some (.int .i64 0) := x7
      have n7 : w.cell? ⟨g2, 7, none⟩ = some (.int .i64 0) := y7
      clear x0 x1 x2 x3 x4 x5 x6 x7 y0 y1 y2 y3 y4 y5 y6 y7
      have HE : ∀ w, (Op.equalIn 10000 43 (.agg #[.int .i64 2, .int .i64 0, .string ⟨#[]⟩, .bool false, .int .u64 0, .int .u64 0, .int .i64 0, .int .i64 0]) (.agg #[.int .i64 2, .int .i64 0, .string ⟨#[]⟩, .bool false, .int .u64 0, .int .u64 0, .int .i64 0, .int .i64 0])).run Tryd.prog w = .ok true w := fun w => ins_eq 2 0 w
      go_wp2
      go_region
      all_goals
        go_wp2
        go_roundw
        case rel => exact ⟨1, rfl, by omega, ⟨_, rfl⟩⟩
        case measure => simp [intOf]
    · obtain ⟨x0, x1, x2, x3, x4, x5, x6, x7⟩ := H1.out.2 1 (by omega)
      obtain ⟨y0, y1, y2, y3, y4, y5, y6, y7⟩ := H2.out.2 1 (by omega)
      have m0 : w.cell? ⟨g1, 8, none⟩ = some (.int .i64 102) := x0
      have n0 : w.cell? ⟨g2, 8, none⟩ = some (.int .i64 102) := y0
      have m1 : w.cell? ⟨g1, 9, none⟩ = some (.int .i64 4) := x1
      have n1 : w.cell? ⟨g2, 9, none⟩ = some (.int .i64 4) := y1
      have m2 : w.cell? ⟨g1, 10, none⟩ = some (.string ⟨#[]⟩) := x2
      have n2 : w.cell? ⟨g2, 10, none⟩ = some (.string ⟨#[]⟩) := y2
      have m3 : w.cell? ⟨g1, 11, none⟩ = some (.bool false) := x3
      have n3 : w.cell? ⟨g2, 11, none⟩ = some (.bool false) := y3
      have m4 : w.cell? ⟨g1, 12, none⟩ = some (.int .u64 0) := x4
      have n4 : w.cell? ⟨g2, 12, none⟩ = some (.int .u64 0) := y4
      have m5 : w.cell? ⟨g1, 13, none⟩ = some (.int .u64 0) := x5
      have n5 : w.cell? ⟨g2, 13, none⟩ = some (.int .u64 0) := y5
      have m6 : w.cell? ⟨g1, 14, none⟩ = some (.int .i64 0) := x6
      have n6 : w.cell? ⟨g2, 14, none⟩ = some (.int .i64 0) := y6
      have m7 : w.cell? ⟨g1, 15, none⟩ = some (.int .i64 0) := x7
      have n7 : w.cell? ⟨g2, 15, none⟩ = some (.int .i64 0) := y7
      clear x0 x1 x2 x3 x4 x5 x6 x7 y0 y1 y2 y3 y4 y5 y6 y7
      have HE : ∀ w, (Op.equalIn 10000 43 (.agg #[.int .i64 102, .int .i64 4, .string ⟨#[]⟩, .bool false, .int .u64 0, .int .u64 0, .int .i64 0, .int .i64 0]) (.agg #[.int .i64 102, .int .i64 4, .string ⟨#[]⟩, .bool false, .int .u64 0, .int .u64 0, .int .i64 0, .int .i64 0])).run Tryd.prog w = .ok true w := fun w => ins_eq 102 4 w
      go_wp2
      go_region
      all_goals
        go_wp2
        go_roundw
        case rel => exact ⟨2, rfl, by omega, ⟨_, rfl⟩⟩
        case measure => simp [intOf]
    · obtain ⟨x0, x1, x2, x3, x4, x5, x6, x7⟩ := H1.out.2 2 (by omega)
      obtain ⟨y0, y1, y2, y3, y4, y5, y6, y7⟩ := H2.out.2 2 (by omega)
      have m0 : w.cell? ⟨g1, 16, none⟩ = some (.int .i64 1) := x0
      have n0 : w.cell? ⟨g2, 16, none⟩ = some (.int .i64 1) := y0
      have m1 : w.cell? ⟨g1, 17, none⟩ = some (.int .i64 0) := x1
      have n1 : w.cell? ⟨g2, 17, none⟩ = some (.int .i64 0) := y1
      have m2 : w.cell? ⟨g1, 18, none⟩ = some (.string ⟨#[]⟩) := x2
      have n2 : w.cell? ⟨g2, 18, none⟩ = some (.string ⟨#[]⟩) := y2
      have m3 : w.cell? ⟨g1, 19, none⟩ = some (.bool false) := x3
      have n3 : w.cell? ⟨g2, 19, none⟩ = some (.bool false) := y3
      have m4 : w.cell? ⟨g1, 20, none⟩ = some (.int .u64 0) := x4
      have n4 : w.cell? ⟨g2, 20, none⟩ = some (.int .u64 0) := y4
      have m5 : w.cell? ⟨g1, 21, none⟩ = some (.int .u64 0) := x5
      have n5 : w.cell? ⟨g2, 21, none⟩ = some (.int .u64 0) := y5
      have m6 : w.cell? ⟨g1, 22, none⟩ = some (.int .i64 0) := x6
      have n6 : w.cell? ⟨g2, 22, none⟩ = some (.int .i64 0) := y6
      have m7 : w.cell? ⟨g1, 23, none⟩ = some (.int .i64 0) := x7
      have n7 : w.cell? ⟨g2, 23, none⟩ = some (.int .i64 0) := y7
      clear x0 x1 x2 x3 x4 x5 x6 x7 y0 y1 y2 y3 y4 y5 y6 y7
      have HE : ∀ w, (Op.equalIn 10000 43 (.agg #[.int .i64 1, .int .i64 0, .string ⟨#[]⟩, .bool false, .int .u64 0, .int .u64 0, .int .i64 0, .int .i64 0]) (.agg #[.int .i64 1, .int .i64 0, .string ⟨#[]⟩, .bool false, .int .u64 0, .int .u64 0, .int .i64 0, .int .i64 0])).run Tryd.prog w = .ok true w := fun w => ins_eq 1 0 w
      go_wp2
      go_region
      all_goals
        go_wp2
        go_roundw
        case rel => exact ⟨3, rfl, by omega, ⟨_, rfl⟩⟩
        case measure => simp [intOf]
    · obtain ⟨x0, x1, x2, x3, x4, x5, x6, x7⟩ := H1.out.2 3 (by omega)
      obtain ⟨y0, y1, y2, y3, y4, y5, y6, y7⟩ := H2.out.2 3 (by omega)
      have m0 : w.cell? ⟨g1, 24, none⟩ = some (.int .i64 101) := x0
      have n0 : w.cell? ⟨g2, 24, none⟩ = some (.int .i64 101) := y0
      have m1 : w.cell? ⟨g1, 25, none⟩ = some (.int .i64 5) := x1
      have n1 : w.cell? ⟨g2, 25, none⟩ = some (.int .i64 5) := y1
      have m2 : w.cell? ⟨g1, 26, none⟩ = some (.string ⟨#[]⟩) := x2
      have n2 : w.cell? ⟨g2, 26, none⟩ = some (.string ⟨#[]⟩) := y2
      have m3 : w.cell? ⟨g1, 27, none⟩ = some (.bool false) := x3
      have n3 : w.cell? ⟨g2, 27, none⟩ = some (.bool false) := y3
      have m4 : w.cell? ⟨g1, 28, none⟩ = some (.int .u64 0) := x4
      have n4 : w.cell? ⟨g2, 28, none⟩ = some (.int .u64 0) := y4
      have m5 : w.cell? ⟨g1, 29, none⟩ = some (.int .u64 0) := x5
      have n5 : w.cell? ⟨g2, 29, none⟩ = some (.int .u64 0) := y5
      have m6 : w.cell? ⟨g1, 30, none⟩ = some (.int .i64 0) := x6
      have n6 : w.cell? ⟨g2, 30, none⟩ = some (.int .i64 0) := y6
      have m7 : w.cell? ⟨g1, 31, none⟩ = some (.int .i64 0) := x7
      have n7 : w.cell? ⟨g2, 31, none⟩ = some (.int .i64 0) := y7
      clear x0 x1 x2 x3 x4 x5 x6 x7 y0 y1 y2 y3 y4 y5 y6 y7
      have HE : ∀ w, (Op.equalIn 10000 43 (.agg #[.int .i64 101, .int .i64 5, .string ⟨#[]⟩, .bool false, .int .u64 0, .int .u64 0, .int .i64 0, .int .i64 0]) (.agg #[.int .i64 101, .int .i64 5, .string ⟨#[]⟩, .bool false, .int .u64 0, .int .u64 0, .int .i64 0, .int .i64 0])).run Tryd.prog w = .ok true w := fun w => ins_eq 101 5 w
      go_wp2
      go_region
      all_goals
        go_wp2
        go_roundw
        case rel => exact ⟨4, rfl, by omega, ⟨_, rfl⟩⟩
        case measure => simp [intOf]
    · obtain ⟨x0, x1, x2, x3, x4, x5, x6, x7⟩ := H1.out.2 4 (by omega)
      obtain ⟨y0, y1, y2, y3, y4, y5, y6, y7⟩ := H2.out.2 4 (by omega)
      have m0 : w.cell? ⟨g1, 32, none⟩ = some (.int .i64 3) := x0
      have n0 : w.cell? ⟨g2, 32, none⟩ = some (.int .i64 3) := y0
      have m1 : w.cell? ⟨g1, 33, none⟩ = some (.int .i64 0) := x1
      have n1 : w.cell? ⟨g2, 33, none⟩ = some (.int .i64 0) := y1
      have m2 : w.cell? ⟨g1, 34, none⟩ = some (.string ⟨#[]⟩) := x2
      have n2 : w.cell? ⟨g2, 34, none⟩ = some (.string ⟨#[]⟩) := y2
      have m3 : w.cell? ⟨g1, 35, none⟩ = some (.bool false) := x3
      have n3 : w.cell? ⟨g2, 35, none⟩ = some (.bool false) := y3
      have m4 : w.cell? ⟨g1, 36, none⟩ = some (.int .u64 0) := x4
      have n4 : w.cell? ⟨g2, 36, none⟩ = some (.int .u64 0) := y4
      have m5 : w.cell? ⟨g1, 37, none⟩ = some (.int .u64 0) := x5
      have n5 : w.cell? ⟨g2, 37, none⟩ = some (.int .u64 0) := y5
      have m6 : w.cell? ⟨g1, 38, none⟩ = some (.int .i64 0) := x6
      have n6 : w.cell? ⟨g2, 38, none⟩ = some (.int .i64 0) := y6
      have m7 : w.cell? ⟨g1, 39, none⟩ = some (.int .i64 0) := x7
      have n7 : w.cell? ⟨g2, 39, none⟩ = some (.int .i64 0) := y7
      clear x0 x1 x2 x3 x4 x5 x6 x7 y0 y1 y2 y3 y4 y5 y6 y7
      have HE : ∀ w, (Op.equalIn 10000 43 (.agg #[.int .i64 3, .int .i64 0, .string ⟨#[]⟩, .bool false, .int .u64 0, .int .u64 0, .int .i64 0, .int .i64 0]) (.agg #[.int .i64 3, .int .i64 0, .string ⟨#[]⟩, .bool false, .int .u64 0, .int .u64 0, .int .i64 0, .int .i64 0])).run Tryd.prog w = .ok true w := fun w => ins_eq 3 0 w
      go_wp2
      go_region
      all_goals
        go_wp2
        go_roundw
        case rel => exact ⟨5, rfl, by omega, ⟨_, rfl⟩⟩
        case measure => simp [intOf]
    · go_wp2
      go_ret
      exact ⟨rfl, by (repeat' (first | (with_reducible exact Below.refl _ _) | (with_reducible assumption) | (with_reducible refine Below.alloc ?_ ?_ _) | (with_reducible refine below_drewN ?_ _) | (with_reducible refine below_drew ?_) | (with_reducible refine below_ext ?_ ?_ _ _) | (with_reducible refine Below.setCell ?_ ?_ _) | (simp; done) | (simp; omega) | omega))⟩
end Go.Proofs.YtpgfgaloagdogaaDoor
namespace Go.Proofs.YtpgfgaloagdogaaDoor
open Go.RowKit Go.Maps Go.WideMaps Vm
attribute [local go_sem] setCell_drewN cell?_ext frozen?_ext shape?_ext setCell_ext lt_1' ne_1' en_1' le_1' lt_2' ne_2' en_2' le_2' lt_3' ne_3' en_3' le_3' lt_4' ne_4' en_4' le_4' lt_5' ne_5' en_5' le_5' lt_6' ne_6' en_6' le_6' lt_7' ne_7' en_7' le_7' lt_8' ne_8' en_8' le_8' lt_9' ne_9' en_9' le_9' lt_10' ne_10' en_10' le_10' lt_11' ne_11' en_11' le_11' lt_12' ne_12' en_12' le_12'

theorem fic_lit (w : World) (t : Nat) : FiC (w.alloc (.cells #[.int .i64 2, .int .i64 0, .string ⟨#[]⟩, .bool false, .int .u64 0, .int .u64 0, .int .i64 0, .int .i64 0, .int .i64 102, .int .i64 4, .string ⟨#[]⟩, .bool false, .int .u64 0, .int .u64 0, .int .i64 0, .int .i64 0, .int .i64 1, .int .i64 0, .string ⟨#[]⟩, .bool false, .int .u64 0, .int .u64 0, .int .i64 0, .int .i64 0, .int .i64 101, .int .i64 5, .string ⟨#[]⟩, .bool false, .int .u64 0, .int .u64 0, .int .i64 0, .int .i64 0, .int .i64 3, .int .i64 0, .string ⟨#[]⟩, .bool false, .int .u64 0, .int .u64 0, .int .i64 0, .int .i64 0] t)) w.heap.size := by
  refine ⟨by simp, fun j hj => ?_⟩
  have hj5 : j = 0 ∨ j = 1 ∨ j = 2 ∨ j = 3 ∨ j = 4 := by omega
  rcases hj5 with rfl | rfl | rfl | rfl | rfl <;> simp [opI, aI]
set_option maxRecDepth 100000 in
set_option maxHeartbeats 4000000 in
theorem codknown_any (w : World) :
    Calls Tryd.prog 8 #[] w fun e w' => e = .returned (.bool true) ∧ Below w.heap.size w w' := by
  have HCA := Lib.hid (fun w' => choice_any w')
  have HCC := Lib.hid (fun g w' (h : ChC w' g) => ccompile_choice h)
  have HSA := Lib.hid (fun g1 g2 c1 c2 w' (h1 : FiC w' g1) (h2 : FiC w' g2) => isame_five (c1 := c1) (c2 := c2) h1 h2)
  go_enter Tryd.func8, Tryd.ntmps8
  go_wp2_with (first
    | (go_at_call 17; (with_reducible refine (HCA.out _).mono ?_); rintro e w1 ⟨g, rfl, hb1, hch⟩)
    | (go_at_call 10; (with_reducible refine (HCC.out _ _ hch).mono ?_); rintro e w2 ⟨v2, B, rfl, hol, hb2⟩; obtain ⟨g1, c1, rfl, hc1, h1⟩ := FiC.of hol)
    | (go_at_call 11; (with_reducible refine (HSA.out _ _ _ _ _ (h1.new (by (repeat' (first | (with_reducible exact Below.refl _ _) | (with_reducible assumption) | (with_reducible refine Below.alloc ?_ ?_ _) | (with_reducible refine below_drewN ?_ _) | (with_reducible refine below_drew ?_) | (with_reducible refine below_ext ?_ ?_ _ _) | (with_reducible refine Below.setCell ?_ ?_ _) | (simp; done) | (simp; omega) | omega)))) (fic_lit _ _)).mono ?_); rintro e w3 ⟨rfl, hb3⟩))
  go_ret
  exact ⟨rfl, (hb1.trans (hb2.mono hb1.size)).trans (Below.mono ((Below.alloc (Below.refl _ _) (Nat.le_refl _) _ : Below w2.heap.size w2 _).trans (hb3.mono (by simp))) (Nat.le_trans hb1.size hb2.size))⟩
end Go.Proofs.YtpgfgaloagdogaaDoor
