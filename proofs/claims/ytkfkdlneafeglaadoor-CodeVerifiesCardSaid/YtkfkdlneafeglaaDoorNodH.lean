/-
  Compile of a choice.
-/
import Derived.Test.YtkfkdlneafeglaaDoorNodG
import Derived.Test.YtkfkdlneafeglaaDoorNodC
namespace Go.Proofs.YtkfkdlneafeglaaDoor
open Go.RowKit Go.Maps Go.WideMaps Vm
attribute [local go_sem] setCell_drewN cell?_ext frozen?_ext shape?_ext setCell_ext lt_1' ne_1' en_1' le_1' lt_2' ne_2' en_2' le_2' lt_3' ne_3' en_3' le_3' lt_4' ne_4' en_4' le_4' lt_5' ne_5' en_5' le_5' lt_6' ne_6' en_6' le_6' lt_7' ne_7' en_7' le_7' lt_8' ne_8' en_8' le_8' lt_9' ne_9' en_9' le_9' lt_10' ne_10' en_10' le_10' lt_11' ne_11' en_11' le_11' lt_12' ne_12' en_12' le_12'

set_option maxRecDepth 100000 in
set_option maxHeartbeats 4000000 in
theorem ccompile_choice {g : Nat} {w : World} (h : ChC w g) :
    Calls Tryd.prog 12 #[.slice (some ⟨g, 0, none⟩) 4 4, .bool false] w fun e w' => ∃ v' B, e = .returned (.tuple #[v', .int .i64 0]) ∧ OL isK insE B w' v' (codeC 4) ∧ Below w.heap.size w w' := by
  have HCH := Lib.hid (echeck_choice h)
  have HCP := Lib.hid (fun w' (hb : Below w.heap.size w w') => compile_choice (h.new hb))
  clear h
  go_enter Tryd.func12, Tryd.ntmps12
  go_wp2_with (first
    | (go_at_call 22; (with_reducible refine (HCH.out).mono ?_); rintro e w1 ⟨rfl, hb1⟩)
    | (go_at_call 23; (with_reducible refine (HCP.out _ (by (repeat' (first | (with_reducible exact Below.refl _ _) | (with_reducible assumption) | (with_reducible refine Below.alloc ?_ ?_ _) | (with_reducible refine below_drewN ?_ _) | (with_reducible refine below_drew ?_) | (with_reducible refine below_ext ?_ ?_ _ _) | (with_reducible refine Below.setCell ?_ ?_ _) | (simp; done) | (simp; omega) | omega)))).mono ?_); rintro e w2 ⟨v2, rfl, hol, hb2⟩))
  go_ret2
  exact ⟨v2, _, rfl, hol, hb1.trans (hb2.mono hb1.size)⟩
end Go.Proofs.YtkfkdlneafeglaaDoor
