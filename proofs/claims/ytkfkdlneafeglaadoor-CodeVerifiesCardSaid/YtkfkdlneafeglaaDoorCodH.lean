/-
  DocVerify of whatever length, and that both answer one.
-/
import Derived.Test.YtkfkdlneafeglaaDoorCodG
import Derived.Test.YtkfkdlneafeglaaDoorCodD
namespace Go.Proofs.YtkfkdlneafeglaaDoor
open Go.RowKit Go.Maps Go.WideMaps Vm
attribute [local go_sem] setCell_drewN cell?_ext frozen?_ext shape?_ext setCell_ext lt_1' ne_1' en_1' le_1' lt_2' ne_2' en_2' le_2' lt_3' ne_3' en_3' le_3' lt_4' ne_4' en_4' le_4' lt_5' ne_5' en_5' le_5' lt_6' ne_6' en_6' le_6' lt_7' ne_7' en_7' le_7' lt_8' ne_8' en_8' le_8' lt_9' ne_9' en_9' le_9' lt_10' ne_10' en_10' le_10' lt_11' ne_11' en_11' le_11' lt_12' ne_12' en_12' le_12'

set_option maxRecDepth 100000 in
set_option maxHeartbeats 4000000 in
theorem docverify_all (l : List InsD) (b : Bool) (n : Nat) (w : World) (v : Value) (hv : RL 8 insE n w v l) (hn : n ≤ w.heap.size) :
    Calls Tryd.prog 14 #[v, .bool b] w fun e w' => e = .returned (.tuple #[.int .i64 (verV (l.map two) b), .int .i64 (verE (l.map two) b)]) ∧ Below w.heap.size w w' := by
  by_cases hl : l.length ≤ 600
  · have hv2 : verV (l.map two) b = (verO (l.map two) b).getD 0 := by unfold verV; rw [List.length_map, if_neg (by omega)]
    have he2 : verE (l.map two) b = if (verO (l.map two) b).isSome then 0 else 2 := by unfold verE; rw [List.length_map, if_neg (by omega)]
    refine (docverify_any l b n w v hv hn hl).mono ?_
    rintro e w' ⟨rfl, hb⟩
    exact ⟨by rw [hv2, he2], hb⟩
  · have hv2 : verV (l.map two) b = 0 := by unfold verV; rw [List.length_map, if_pos (by omega)]
    have he2 : verE (l.map two) b = 6 := by unfold verE; rw [List.length_map, if_pos (by omega)]
    rw [hv2, he2]
    clear hv2 he2
    obtain ⟨p, c, rfl, -⟩ := hv
    obtain ⟨len, hlen⟩ : ∃ len, len = l.length := ⟨_, rfl⟩
    rw [← hlen] at hl ⊢
    have hli : (600 : Int) < (len : Int) := by omega
    clear hlen hn
    go_enter Tryd.func14, Tryd.ntmps14
    go_wp2
    go_ret2
    exact ⟨rfl, by (repeat' (first | (with_reducible exact Below.refl _ _) | (with_reducible assumption) | (with_reducible refine Below.alloc ?_ ?_ _) | (with_reducible refine below_drewN ?_ _) | (with_reducible refine below_drew ?_) | (with_reducible refine below_ext ?_ ?_ _ _) | (with_reducible refine Below.setCell ?_ ?_ _) | (simp; done) | (simp; omega) | omega))⟩
end Go.Proofs.YtkfkdlneafeglaaDoor
