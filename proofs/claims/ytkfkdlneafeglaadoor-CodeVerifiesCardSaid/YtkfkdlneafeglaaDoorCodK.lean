/-
  What the laws of code know of a choice.
-/
import Derived.Test.YtkfkdlneafeglaaDoorNodH
import Derived.Test.YtkfkdlneafeglaaDoorNodI
import Derived.Test.YtkfkdlneafeglaaDoorNodB
namespace Go.Proofs.YtkfkdlneafeglaaDoor
open Go.RowKit Go.Maps Go.WideMaps Vm
attribute [local go_sem] setCell_drewN cell?_ext frozen?_ext shape?_ext setCell_ext lt_1' ne_1' en_1' le_1' lt_2' ne_2' en_2' le_2' lt_3' ne_3' en_3' le_3' lt_4' ne_4' en_4' le_4' lt_5' ne_5' en_5' le_5' lt_6' ne_6' en_6' le_6' lt_7' ne_7' en_7' le_7' lt_8' ne_8' en_8' le_8' lt_9' ne_9' en_9' le_9' lt_10' ne_10' en_10' le_10' lt_11' ne_11' en_11' le_11' lt_12' ne_12' en_12' le_12'

theorem fic_lit (w : World) (t : Nat) : FiC (w.alloc (.cells #[.int .i64 2, .int .i64 0, .string ⟨#[]⟩, .bool false, .int .u64 0, .int .u64 0, .int .i64 0, .int .i64 0, .int .i64 102, .int .i64 4, .string ⟨#[]⟩, .bool false, .int .u64 0, .int .u64 0, .int .i64 0, .int .i64 0, .int .i64 1, .int .i64 0, .string ⟨#[]⟩, .bool false, .int .u64 0, .int .u64 0, .int .i64 0, .int .i64 0, .int .i64 101, .int .i64 5, .string ⟨#[]⟩, .bool false, .int .u64 0, .int .u64 0, .int .i64 0, .int .i64 0, .int .i64 3, .int .i64 0, .string ⟨#[]⟩, .bool false, .int .u64 0, .int .u64 0, .int .i64 0, .int .i64 0] t)) w.heap.size := by
  refine ⟨by simp, fun j hj => ?_⟩
  have hj5 : j = 0 ∨ j = 1 ∨ j = 2 ∨ j = 3 ∨ j = 4 := by omega
  rcases hj5 with rfl | rfl | rfl | rfl | rfl <;> simp [opI, aI]
set_option maxRecDepth 100000 in
set_option maxHeartbeats 4000000 in
theorem codknown_any (w : World) :
    Calls Tryd.prog 10 #[] w fun e w' => e = .returned (.bool true) ∧ Below w.heap.size w w' := by
  have HCA := Lib.hid (fun w' => choice_any w')
  have HCC := Lib.hid (fun g w' (h : ChC w' g) => ccompile_choice h)
  have HSA := Lib.hid (fun g1 g2 c1 c2 w' (h1 : FiC w' g1) (h2 : FiC w' g2) => isame_five (c1 := c1) (c2 := c2) h1 h2)
  go_enter Tryd.func10, Tryd.ntmps10
  go_wp2_with (first
    | (go_at_call 19; (with_reducible refine (HCA.out _).mono ?_); rintro e w1 ⟨g, rfl, hb1, hch⟩)
    | (go_at_call 12; (with_reducible refine (HCC.out _ _ hch).mono ?_); rintro e w2 ⟨v2, B, rfl, hol, hb2⟩; obtain ⟨g1, c1, rfl, hc1, h1⟩ := FiC.of hol)
    | (go_at_call 13; (with_reducible refine (HSA.out _ _ _ _ _ (h1.new (by (repeat' (first | (with_reducible exact Below.refl _ _) | (with_reducible assumption) | (with_reducible refine Below.alloc ?_ ?_ _) | (with_reducible refine below_drewN ?_ _) | (with_reducible refine below_drew ?_) | (with_reducible refine below_ext ?_ ?_ _ _) | (with_reducible refine Below.setCell ?_ ?_ _) | (simp; done) | (simp; omega) | omega)))) (fic_lit _ _)).mono ?_); rintro e w3 ⟨rfl, hb3⟩))
  go_ret
  exact ⟨rfl, (hb1.trans (hb2.mono hb1.size)).trans (Below.mono ((Below.alloc (Below.refl _ _) (Nat.le_refl _) _ : Below w2.heap.size w2 _).trans (hb3.mono (by simp))) (Nat.le_trans hb1.size hb2.size))⟩
end Go.Proofs.YtkfkdlneafeglaaDoor
