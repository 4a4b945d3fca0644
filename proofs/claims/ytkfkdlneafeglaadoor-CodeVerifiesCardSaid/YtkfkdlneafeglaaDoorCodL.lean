/-
  CodeVerifies, the law.
-/
import Derived.Test.YtkfkdlneafeglaaDoorCodH
import Derived.Test.YtkfkdlneafeglaaDoorCodK
namespace Go.Proofs.YtkfkdlneafeglaaDoor
open Go.RowKit Go.Maps Go.WideMaps Vm
attribute [local go_sem] setCell_drewN cell?_ext frozen?_ext shape?_ext setCell_ext lt_1' ne_1' en_1' le_1' lt_2' ne_2' en_2' le_2' lt_3' ne_3' en_3' le_3' lt_4' ne_4' en_4' le_4' lt_5' ne_5' en_5' le_5' lt_6' ne_6' en_6' le_6' lt_7' ne_7' en_7' le_7' lt_8' ne_8' en_8' le_8' lt_9' ne_9' en_9' le_9' lt_10' ne_10' en_10' le_10' lt_11' ne_11' en_11' le_11' lt_12' ne_12' en_12' le_12'

set_option maxRecDepth 100000 in
set_option maxHeartbeats 4000000 in
theorem codeVerifies_law (l : List InsD) (b : Bool) (n : Nat) (w : World) (v : Value) (hv : RL 8 insE n w v l) (hn : n ≤ w.heap.size) :
    Calls Tryd.prog 5 #[v, .bool b] w fun e w' => e = .returned (.bool true) ∧ Below w.heap.size w w' := by
  have HKN := Lib.hid (codknown_any w)
  have HDV := Lib.hid (fun w' (hb : Below w.heap.size w w') => docverify_all l b n w' v (hv.keep (hb.mono hn)) (Nat.le_trans hn hb.size))
  have HVE := Lib.hid (fun w' (hb : Below w.heap.size w w') => verify_any l b n w' v (hv.keep (hb.mono hn)) (Nat.le_trans hn hb.size))
  generalize verV (l.map two) b = vv at HDV HVE
  generalize verE (l.map two) b = ve at HDV HVE
  obtain ⟨p, c, rfl, -⟩ := hv
  generalize l.length = len at HDV HVE ⊢
  clear hn
  go_enter Tryd.func5, Tryd.ntmps5
  go_wp2_with (first
    | (go_at_call 10; (with_reducible refine (HKN.out).mono ?_); rintro e w1 ⟨rfl, hb1⟩)
    | (go_at_call 14; (with_reducible refine (HDV.out _ (by (repeat' (first | (with_reducible exact Below.refl _ _) | (with_reducible assumption) | (with_reducible refine Below.alloc ?_ ?_ _) | (with_reducible refine below_drewN ?_ _) | (with_reducible refine below_drew ?_) | (with_reducible refine below_ext ?_ ?_ _ _) | (with_reducible refine Below.setCell ?_ ?_ _) | (simp; done) | (simp; omega) | omega)))).mono ?_); rintro e w2 ⟨rfl, hb2⟩)
    | (go_at_call 15; (with_reducible refine (HVE.out _ (hb1.trans (hb2.mono hb1.size))).mono ?_); rintro e w3 ⟨rfl, hb3⟩))
  go_ret
  exact ⟨rfl, (hb1.trans (hb2.mono hb1.size)).trans (hb3.mono (Nat.le_trans hb1.size hb2.size))⟩
end Go.Proofs.YtkfkdlneafeglaaDoor
