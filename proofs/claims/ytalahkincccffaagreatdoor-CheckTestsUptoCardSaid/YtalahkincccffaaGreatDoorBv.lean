/-
  Expr where no node asks anything; the statements' own first question on types.
  What the functions of the language take and answer: the program's table and the document's.
-/
import Derived.Test.YtalahkincccffaaGreatDoorChkD
import Derived.Test.YtalahkincccffaaGreatDoorBz
import Derived.Test.YtalahkincccffaaGreatDoorBu
import Derived.Test.YtalahkincccffaaGreatDoorBf
import Derived.Deep.RegionWith
namespace Go.Proofs.YtalahkincccffaaGreatDoor
open Go.RowKit Go.Maps Go.WideMaps Word Txt
attribute [local go_sem] setCell_drewN cell?_ext frozen?_ext shape?_ext setCell_ext lt_1' ne_1' en_1' le_1' lt_2' ne_2' en_2' le_2' lt_3' ne_3' en_3' le_3' lt_4' ne_4' en_4' le_4' lt_5' ne_5' en_5' le_5' lt_6' ne_6' en_6' le_6' lt_7' ne_7' en_7' le_7' lt_8' ne_8' en_8' le_8' lt_9' ne_9' en_9' le_9' lt_10' ne_10' en_10' le_10' lt_11' ne_11' en_11' le_11' lt_12' ne_12' en_12' le_12'

theorem run_mmS (w : World) : (Instr.makeMap 43 none).run Tryz.prog w = .ok (.map (some w.heap.size)) (w.alloc (.map #[] 0)) := by
  simp [Instr.makeMap, go_sem]
theorem learn_nil (w : World) : Calls Tryz.prog 14 #[.slice none 0 0] w fun e w' => e = .returned (.tuple #[.map (some w.heap.size), .int .i64 0]) ∧ Below w.heap.size w w' := by
  have hmm := run_mmS
  go_enter Tryz.func14, Tryz.ntmps14
  go_wp2
  refine wp_loop_rounds 1 ?_
  rw [rounds_succ]
  go_wp2
  go_ret2
  exact ⟨rfl, by (repeat' (first | (with_reducible first | exact Below.refl _ _ | assumption | refine Below.alloc ?_ ?_ _ | refine below_drewN ?_ _ | refine below_drew ?_ | refine below_ext ?_ ?_ _ _ | refine Below.setCell ?_ ?_ _) | (simp; done) | (simp; omega) | omega))⟩
set_option maxRecDepth 100000 in
theorem expr_plain (l : List NdD) (res : Ty) (err : Int) (n : Nat) (w : World) (v : Value) (hv : RL 8 ndE n w v l) (hn : n ≤ w.heap.size) (hl : l.length ≤ 300) (hwf : ∀ x ∈ l, x.Wf) (hT : Tens w) (hU : Tabs w) (hc : chkE l false = 0) (hrun : ∀ m w', Below w.heap.size w w' → okRun (TyC m w') res err l []) :
    Calls Tryz.prog 7 #[v, .slice none 0 0] w fun e w' => e = .returned (.tuple #[TyV res, .int .i64 err]) ∧ Below w.heap.size w w' := by
  have HC := Lib.hid (show ∀ w', Below w.heap.size w w' → Calls Tryz.prog 13 #[v, .bool false] w' fun e w'' => e = .returned (.int .i64 0) ∧ Below w'.heap.size w' w'' from fun w' hb => by
    have := check_any l false n w' v (hv.keep (hb.mono hn)) (Nat.le_trans hn hb.size) hwf (hT.below hb) (hU.below hb)
    rwa [hc] at this)
  have HL := Lib.hid learn_nil
  have HD := Lib.hid (fun m w' (hb : Below w.heap.size w w') => determine_plain l m res err n w' v (hv.keep (hb.mono hn)) (Nat.le_trans hn hb.size) hl (hrun m w' hb))
  obtain ⟨p, c, rfl, -⟩ := hv
  obtain ⟨k1, k2⟩ := res
  generalize l.length = len at HC HD ⊢
  clear hc hrun hwf hT hU hl hn
  go_enter Tryz.func7, Tryz.ntmps7
  go_wp2_with (first
    | (go_at_call 13; ((with_reducible refine (HC.out _ (by (repeat' (first | (with_reducible first | exact Below.refl _ _ | assumption | refine Below.alloc ?_ ?_ _ | refine below_drewN ?_ _ | refine below_drew ?_ | refine below_ext ?_ ?_ _ _ | refine Below.setCell ?_ ?_ _) | (simp; done) | (simp; omega) | omega)))).mono ?_); rintro e w1 ⟨rfl, hb1⟩; obtain ⟨osA, dA, rfl⟩ := ext_of_below hb1; clear hb1))
    | (go_at_call 14; ((with_reducible refine (HL.out _).mono ?_); rintro e w1 ⟨rfl, hb1⟩; obtain ⟨osB, dB, rfl⟩ := ext_of_below hb1; clear hb1))
    | (go_at_call 15; ((with_reducible refine (HD.out _ _ (by (repeat' (first | (with_reducible first | exact Below.refl _ _ | assumption | refine Below.alloc ?_ ?_ _ | refine below_drewN ?_ _ | refine below_drew ?_ | refine below_ext ?_ ?_ _ _ | refine Below.setCell ?_ ?_ _) | (simp; done) | (simp; omega) | omega)))).mono ?_); rintro e w1 ⟨rfl, hb1⟩; obtain ⟨osC, dC, rfl⟩ := ext_of_below hb1; clear hb1)))
  all_goals
    go_returns
    exact ⟨rfl, by (repeat' (first | (with_reducible first | exact Below.refl _ _ | assumption | refine Below.alloc ?_ ?_ _ | refine below_drewN ?_ _ | refine below_drew ?_ | refine below_ext ?_ ?_ _ _ | refine Below.setCell ?_ ?_ _) | (simp; done) | (simp; omega) | omega))⟩
theorem rl_two {n : Nat} {w : World} {pv : Value} {a b : Ty} (h : RL 2 tpE n w pv [a, b]) : ∃ g o c, pv = .slice (some ⟨g, o, none⟩) 2 c ∧ g < n ∧ w.cell? ⟨g, o, none⟩ = some (.int .i64 a.1) ∧ w.cell? ⟨g, o + 1, none⟩ = some (.int .i64 a.2) ∧ w.cell? ⟨g, o + 2, none⟩ = some (.int .i64 b.1) ∧ w.cell? ⟨g, o + 2 + 1, none⟩ = some (.int .i64 b.2) := by
  obtain ⟨p, c, rfl, h2⟩ := h
  obtain ⟨g, o, rfl, hg, hc⟩ := h2 (by simp)
  exact ⟨g, o, c, rfl, hg, hc 0 (by simp) 0 _ rfl, hc 0 (by simp) 1 _ rfl, hc 1 (by simp) 0 _ rfl, hc 1 (by simp) 1 _ rfl⟩
abbrev lstN : List NdD := [ndC 4 0 1, ndC 4 0 1, ndC 26 2 0]
abbrev sumN2 : List NdD := [ndC 4 0 1, ndC 5 0 0, ndC 9 2 0]
set_option maxRecDepth 100000 in
theorem chk_lst : chkE lstN false = 0 := by decide
set_option maxRecDepth 100000 in
theorem chk_sum : chkE sumN2 false = 0 := by decide
theorem wf_ndC (op k : Int) (c : Nat) (hk : -9223372036854775808 ≤ k ∧ k < 9223372036854775808) (hc : c < top2) : (ndC op k c).Wf := ⟨by show (0 : Nat) ≤ maxLen; exact Nat.zero_le _, hc, hk⟩
theorem run_lst (m : Option Nat) (w : World) (hG : TyG w) : okRun (TyC m w) (5, 2) 0 lstN [] := by
  have hN : TyC m w (ndC 4 0 1) [] (2, 0) 0 := fun w' pv hb _ => typeOf_leaf 4 (2, 0) 1 m pv w' (.inl ⟨rfl, rfl⟩) (hG.below hb)
  refine ⟨by decide, by decide, by decide, .inl (by decide), (2, 0), 0, hN, fun _ => ?_, fun h => absurd rfl h⟩
  refine ⟨by decide, by decide, by decide, .inl (by decide), (2, 0), 0, hN, fun _ => ?_, fun h => absurd rfl h⟩
  refine ⟨by decide, by decide, by decide, .inl (by decide), (5, 2), 0, fun w' pv hb hp => ?_, fun _ => ⟨rfl, [], rfl⟩, fun h => absurd rfl h⟩
  obtain ⟨g, o, c, rfl, hg, c0, c1, c2, c3⟩ := rl_two hp
  exact typeOf_list 2 m g o c w' hg c0 c1 c2 c3
theorem run_sum (m : Option Nat) (w : World) (hG : TyG w) : okRun (TyC m w) (0, 0) 9 sumN2 [] := by
  refine ⟨by decide, by decide, by decide, .inl (by decide), (2, 0), 0, fun w' pv hb _ => typeOf_leaf 4 (2, 0) 1 m pv w' (.inl ⟨rfl, rfl⟩) (hG.below hb), fun _ => ?_, fun h => absurd rfl h⟩
  refine ⟨by decide, by decide, by decide, .inl (by decide), (3, 0), 0, fun w' pv hb _ => typeOf_leaf 5 (3, 0) 0 m pv w' (.inr ⟨rfl, rfl⟩) (hG.below hb), fun _ => ?_, fun h => absurd rfl h⟩
  refine ⟨by decide, by decide, by decide, .inl (by decide), (0, 0), 9, fun w' pv hb hp => ?_, fun h => absurd h (by decide), fun _ => ⟨rfl, rfl⟩⟩
  obtain ⟨g, o, c, rfl, hg, c0, c1, c2, c3⟩ := rl_two hp
  exact typeOf_add 2 m g o c w' hg c0 c1 c2 c3 (hG.below hb)
end Go.Proofs.YtalahkincccffaaGreatDoor
namespace Go.Proofs.YtalahkincccffaaGreatDoor
open Go.RowKit Word Txt
attribute [local go_sem] setCell_drewN cell?_ext frozen?_ext shape?_ext setCell_ext lt_1' ne_1' en_1' le_1' lt_2' ne_2' en_2' le_2' lt_3' ne_3' en_3' le_3' lt_4' ne_4' en_4' le_4' lt_5' ne_5' en_5' le_5' lt_6' ne_6' en_6' le_6' lt_7' ne_7' en_7' le_7' lt_8' ne_8' en_8' le_8' lt_9' ne_9' en_9' le_9' lt_10' ne_10' en_10' le_10' lt_11' ne_11' en_11' le_11' lt_12' ne_12' en_12' le_12'

def fnTab : List (List UInt8 × (List Ty × Ty)) := [([97, 98, 115], [(2, 0)], (2, 0)), ([102, 108, 111, 111, 114], [(2, 0)], (2, 0)), ([99, 101, 105, 108, 105, 110, 103], [(2, 0)], (2, 0)), ([114, 111, 117, 110, 100], [(2, 0), (2, 0)], (2, 0)), ([109, 111, 100, 117, 108, 111], [(2, 0), (2, 0)], (2, 0)), ([109, 105, 110], [(5, 2)], (2, 0)), ([109, 97, 120], [(5, 2)], (2, 0)), ([115, 117, 109], [(5, 2)], (2, 0)), ([99, 111, 117, 110, 116], [(5, 0)], (2, 0)), ([99, 111, 110, 116, 97, 105, 110, 115], [(3, 0), (3, 0)], (1, 0)), ([115, 116, 97, 114, 116, 115], [(3, 0), (3, 0)], (1, 0)), ([108, 101, 110, 103, 116, 104], [(3, 0)], (2, 0)), ([115, 117, 98, 115, 116, 114, 105, 110, 103], [(3, 0), (2, 0), (2, 0)], (3, 0)), ([117, 112, 112, 101, 114], [(3, 0)], (3, 0)), ([108, 111, 119, 101, 114], [(3, 0)], (3, 0)), ([100, 97, 116, 101], [(3, 0)], (4, 0)), ([121, 101, 97, 114], [(4, 0)], (2, 0)), ([109, 111, 110, 116, 104], [(4, 0)], (2, 0)), ([100, 97, 121], [(4, 0)], (2, 0)), ([119, 101, 101, 107, 100, 97, 121], [(4, 0)], (2, 0)), ([100, 97, 121, 115], [(4, 0), (2, 0)], (4, 0)), ([109, 111, 110, 116, 104, 115], [(4, 0), (2, 0)], (4, 0)), ([110, 101, 103, 97, 116, 101], [(1, 0)], (1, 0)), ([97, 112, 112, 101, 110, 100], [(5, 0), (0, 0)], (5, 0)), ([115, 116, 114, 105, 110, 103], [(0, 0)], (3, 0))]
def fnOf (s : ByteArray) : Option (List Ty × Ty) := (fnTab.find? fun r => r.1 == s.data.toList).map (·.2)
def Fre (n : Nat) (pv : Value) : Prop := ∀ g o c m, pv = .slice (some ⟨g, o, none⟩) m c → n ≤ g
theorem fre_lit {n g o c m : Nat} (h : n ≤ g) : Fre n (.slice (some ⟨g, o, none⟩) m c) := fun g' o' c' m' e => by
  injection e with e1 _ _
  injection e1 with e1
  injection e1 with e1 _ _
  rw [← e1]; exact h
def FnQ (o : Option (List Ty × Ty)) (w : World) (e : Ending) (w' : World) : Prop := match o with
  | some q => ∃ pv, e = .returned (.tuple #[pv, TyV q.2, .bool true]) ∧ RL 2 tpE w'.heap.size w' pv q.1 ∧ Fre w.heap.size pv ∧ Below w.heap.size w w'
  | none => e = .returned (.tuple #[.slice none 0 0, TyV (0, 0), .bool false]) ∧ Below w.heap.size w w'
theorem rl_1 {w : World} {g c : Nat} (a : Ty) (hg : g < w.heap.size) (c0 : w.cell? ⟨g, 0, none⟩ = some (.int .i64 a.1)) (c1 : w.cell? ⟨g, 1, none⟩ = some (.int .i64 a.2)) : RL 2 tpE w.heap.size w (.slice (some ⟨g, 0, none⟩) 1 c) [a] := by
  refine ⟨_, c, rfl, fun _ => ⟨g, 0, rfl, hg, fun j hj i u hu => ?_⟩⟩
  obtain rfl : j = 0 := by simp at hj; exact hj
  have hi2 : i < 2 := by have := (List.getElem?_eq_some_iff.1 hu).1; simpa [tpE] using this
  have hi3 : i = 0 ∨ i = 1 := by omega
  rcases hi3 with rfl | rfl
  · rw [← show (some (Value.int .i64 a.1)) = some u from hu]; exact c0
  · rw [← show (some (Value.int .i64 a.2)) = some u from hu]; exact c1
theorem rl_2 {w : World} {g c : Nat} (a b : Ty) (hg : g < w.heap.size) (c0 : w.cell? ⟨g, 0, none⟩ = some (.int .i64 a.1)) (c1 : w.cell? ⟨g, 1, none⟩ = some (.int .i64 a.2)) (c2 : w.cell? ⟨g, 2, none⟩ = some (.int .i64 b.1)) (c3 : w.cell? ⟨g, 3, none⟩ = some (.int .i64 b.2)) : RL 2 tpE w.heap.size w (.slice (some ⟨g, 0, none⟩) 2 c) [a, b] := two_rl a b hg c0 c1 c2 c3
theorem rl_3 {w : World} {g c : Nat} (a b d : Ty) (hg : g < w.heap.size) (c0 : w.cell? ⟨g, 0, none⟩ = some (.int .i64 a.1)) (c1 : w.cell? ⟨g, 1, none⟩ = some (.int .i64 a.2)) (c2 : w.cell? ⟨g, 2, none⟩ = some (.int .i64 b.1)) (c3 : w.cell? ⟨g, 3, none⟩ = some (.int .i64 b.2)) (c4 : w.cell? ⟨g, 4, none⟩ = some (.int .i64 d.1)) (c5 : w.cell? ⟨g, 5, none⟩ = some (.int .i64 d.2)) : RL 2 tpE w.heap.size w (.slice (some ⟨g, 0, none⟩) 3 c) [a, b, d] := by
  refine ⟨_, c, rfl, fun _ => ⟨g, 0, rfl, hg, fun j hj i u hu => ?_⟩⟩
  have hj2 : j = 0 ∨ j = 1 ∨ j = 2 := by simp at hj; omega
  rcases hj2 with rfl | rfl | rfl
  all_goals
    have hi2 : i < 2 := by have := (List.getElem?_eq_some_iff.1 hu).1; simpa [tpE] using this
    have hi3 : i = 0 ∨ i = 1 := by omega
    rcases hi3 with rfl | rfl
  · rw [← show (some (Value.int .i64 a.1)) = some u from hu]; exact c0
  · rw [← show (some (Value.int .i64 a.2)) = some u from hu]; exact c1
  · rw [← show (some (Value.int .i64 b.1)) = some u from hu]; exact c2
  · rw [← show (some (Value.int .i64 b.2)) = some u from hu]; exact c3
  · rw [← show (some (Value.int .i64 d.1)) = some u from hu]; exact c4
  · rw [← show (some (Value.int .i64 d.2)) = some u from hu]; exact c5
theorem cof_any (k : Int) (w : World) : Calls Tryz.prog 66 #[.int .i64 k] w fun e w' => e = .returned (TyV (k, 0)) ∧ Below w.heap.size w w' := by
  go_enter Tryz.func66, Tryz.ntmps66
  go_wp2
  go_returns
  exact ⟨rfl, by (repeat' (first | (with_reducible first | exact Below.refl _ _ | assumption | refine Below.alloc ?_ ?_ _ | refine below_drewN ?_ _ | refine below_drew ?_ | refine below_ext ?_ ?_ _ _ | refine Below.setCell ?_ ?_ _) | (simp; done) | (simp; omega) | omega))⟩
theorem list_any (k : Int) (w : World) : Calls Tryz.prog 88 #[.int .i64 k] w fun e w' => e = .returned (TyV (5, k)) ∧ Below w.heap.size w w' := by
  go_enter Tryz.func88, Tryz.ntmps88
  go_wp2
  go_returns
  exact ⟨rfl, by (repeat' (first | (with_reducible first | exact Below.refl _ _ | assumption | refine Below.alloc ?_ ?_ _ | refine below_drewN ?_ _ | refine below_drew ?_ | refine below_ext ?_ ?_ _ _ | refine Below.setCell ?_ ?_ _) | (simp; done) | (simp; omega) | omega))⟩
set_option maxRecDepth 100000 in
set_option maxHeartbeats 4000000 in
theorem fn_abs (w : World) (hG : TyG w) : Calls Tryz.prog 76 #[.string (mkb [97, 98, 115])] w fun e w' => FnQ (some ([(2, 0)], (2, 0))) w e w' := by
  obtain ⟨hg, g0, g1, g2, g3, g4, g5, g6, g7, g8, g9, g10, g11, g12, g13⟩ := hG
  go_enter Tryz.func76, Tryz.ntmps76
  go_wp2
  all_goals
    try go_region
  all_goals
    go_wp2
    go_returns
    exact (show ∃ pv, _ from ⟨_, rfl, rl_1 (2, 0) (by first | (simp; done) | (simp; omega)) (by simp [go_sem]) (by simp [go_sem]), fre_lit (by first | (simp; done) | (simp; omega) | omega), by (repeat' (first | (with_reducible first | exact Below.refl _ _ | assumption | refine Below.alloc ?_ ?_ _ | refine below_drewN ?_ _ | refine below_drew ?_ | refine below_ext ?_ ?_ _ _ | refine Below.setCell ?_ ?_ _) | (simp; done) | (simp; omega) | omega))⟩)
set_option maxRecDepth 100000 in
set_option maxHeartbeats 4000000 in
theorem fn_floor (w : World) (hG : TyG w) : Calls Tryz.prog 76 #[.string (mkb [102, 108, 111, 111, 114])] w fun e w' => FnQ (some ([(2, 0)], (2, 0))) w e w' := by
  obtain ⟨hg, g0, g1, g2, g3, g4, g5, g6, g7, g8, g9, g10, g11, g12, g13⟩ := hG
  go_enter Tryz.func76, Tryz.ntmps76
  go_wp2
  all_goals
    try go_region
  all_goals
    go_wp2
    go_returns
    exact (show ∃ pv, _ from ⟨_, rfl, rl_1 (2, 0) (by first | (simp; done) | (simp; omega)) (by simp [go_sem]) (by simp [go_sem]), fre_lit (by first | (simp; done) | (simp; omega) | omega), by (repeat' (first | (with_reducible first | exact Below.refl _ _ | assumption | refine Below.alloc ?_ ?_ _ | refine below_drewN ?_ _ | refine below_drew ?_ | refine below_ext ?_ ?_ _ _ | refine Below.setCell ?_ ?_ _) | (simp; done) | (simp; omega) | omega))⟩)
set_option maxRecDepth 100000 in
set_option maxHeartbeats 4000000 in
theorem fn_ceiling (w : World) (hG : TyG w) : Calls Tryz.prog 76 #[.string (mkb [99, 101, 105, 108, 105, 110, 103])] w fun e w' => FnQ (some ([(2, 0)], (2, 0))) w e w' := by
  obtain ⟨hg, g0, g1, g2, g3, g4, g5, g6, g7, g8, g9, g10, g11, g12, g13⟩ := hG
  go_enter Tryz.func76, Tryz.ntmps76
  go_wp2
  all_goals
    try go_region
  all_goals
    go_wp2
    go_returns
    exact (show ∃ pv, _ from ⟨_, rfl, rl_1 (2, 0) (by first | (simp; done) | (simp; omega)) (by simp [go_sem]) (by simp [go_sem]), fre_lit (by first | (simp; done) | (simp; omega) | omega), by (repeat' (first | (with_reducible first | exact Below.refl _ _ | assumption | refine Below.alloc ?_ ?_ _ | refine below_drewN ?_ _ | refine below_drew ?_ | refine below_ext ?_ ?_ _ _ | refine Below.setCell ?_ ?_ _) | (simp; done) | (simp; omega) | omega))⟩)
set_option maxRecDepth 100000 in
set_option maxHeartbeats 4000000 in
theorem fn_round (w : World) (hG : TyG w) : Calls Tryz.prog 76 #[.string (mkb [114, 111, 117, 110, 100])] w fun e w' => FnQ (some ([(2, 0), (2, 0)], (2, 0))) w e w' := by
  obtain ⟨hg, g0, g1, g2, g3, g4, g5, g6, g7, g8, g9, g10, g11, g12, g13⟩ := hG
  go_enter Tryz.func76, Tryz.ntmps76
  go_wp2
  all_goals
    try go_region
  all_goals
    go_wp2
    go_returns
    exact (show ∃ pv, _ from ⟨_, rfl, rl_2 (2, 0) (2, 0) (by first | (simp; done) | (simp; omega)) (by simp [go_sem]) (by simp [go_sem]) (by simp [go_sem]) (by simp [go_sem]), fre_lit (by first | (simp; done) | (simp; omega) | omega), by (repeat' (first | (with_reducible first | exact Below.refl _ _ | assumption | refine Below.alloc ?_ ?_ _ | refine below_drewN ?_ _ | refine below_drew ?_ | refine below_ext ?_ ?_ _ _ | refine Below.setCell ?_ ?_ _) | (simp; done) | (simp; omega) | omega))⟩)
set_option maxRecDepth 100000 in
set_option maxHeartbeats 4000000 in
theorem fn_modulo (w : World) (hG : TyG w) : Calls Tryz.prog 76 #[.string (mkb [109, 111, 100, 117, 108, 111])] w fun e w' => FnQ (some ([(2, 0), (2, 0)], (2, 0))) w e w' := by
  obtain ⟨hg, g0, g1, g2, g3, g4, g5, g6, g7, g8, g9, g10, g11, g12, g13⟩ := hG
  go_enter Tryz.func76, Tryz.ntmps76
  go_wp2
  all_goals
    try go_region
  all_goals
    go_wp2
    go_returns
    exact (show ∃ pv, _ from ⟨_, rfl, rl_2 (2, 0) (2, 0) (by first | (simp; done) | (simp; omega)) (by simp [go_sem]) (by simp [go_sem]) (by simp [go_sem]) (by simp [go_sem]), fre_lit (by first | (simp; done) | (simp; omega) | omega), by (repeat' (first | (with_reducible first | exact Below.refl _ _ | assumption | refine Below.alloc ?_ ?_ _ | refine below_drewN ?_ _ | refine below_drew ?_ | refine below_ext ?_ ?_ _ _ | refine Below.setCell ?_ ?_ _) | (simp; done) | (simp; omega) | omega))⟩)
set_option maxRecDepth 100000 in
set_option maxHeartbeats 4000000 in
theorem fn_min (w : World) (hG : TyG w) : Calls Tryz.prog 76 #[.string (mkb [109, 105, 110])] w fun e w' => FnQ (some ([(5, 2)], (2, 0))) w e w' := by
  obtain ⟨hg, g0, g1, g2, g3, g4, g5, g6, g7, g8, g9, g10, g11, g12, g13⟩ := hG
  go_enter Tryz.func76, Tryz.ntmps76
  go_wp2
  all_goals
    try go_region
  all_goals
    go_wp2
    go_returns
    exact (show ∃ pv, _ from ⟨_, rfl, rl_1 (5, 2) (by first | (simp; done) | (simp; omega)) (by simp [go_sem]) (by simp [go_sem]), fre_lit (by first | (simp; done) | (simp; omega) | omega), by (repeat' (first | (with_reducible first | exact Below.refl _ _ | assumption | refine Below.alloc ?_ ?_ _ | refine below_drewN ?_ _ | refine below_drew ?_ | refine below_ext ?_ ?_ _ _ | refine Below.setCell ?_ ?_ _) | (simp; done) | (simp; omega) | omega))⟩)
set_option maxRecDepth 100000 in
set_option maxHeartbeats 4000000 in
theorem fn_max (w : World) (hG : TyG w) : Calls Tryz.prog 76 #[.string (mkb [109, 97, 120])] w fun e w' => FnQ (some ([(5, 2)], (2, 0))) w e w' := by
  obtain ⟨hg, g0, g1, g2, g3, g4, g5, g6, g7, g8, g9, g10, g11, g12, g13⟩ := hG
  go_enter Tryz.func76, Tryz.ntmps76
  go_wp2
  all_goals
    try go_region
  all_goals
    go_wp2
    go_returns
    exact (show ∃ pv, _ from ⟨_, rfl, rl_1 (5, 2) (by first | (simp; done) | (simp; omega)) (by simp [go_sem]) (by simp [go_sem]), fre_lit (by first | (simp; done) | (simp; omega) | omega), by (repeat' (first | (with_reducible first | exact Below.refl _ _ | assumption | refine Below.alloc ?_ ?_ _ | refine below_drewN ?_ _ | refine below_drew ?_ | refine below_ext ?_ ?_ _ _ | refine Below.setCell ?_ ?_ _) | (simp; done) | (simp; omega) | omega))⟩)
set_option maxRecDepth 100000 in
set_option maxHeartbeats 4000000 in
theorem fn_sum (w : World) (hG : TyG w) : Calls Tryz.prog 76 #[.string (mkb [115, 117, 109])] w fun e w' => FnQ (some ([(5, 2)], (2, 0))) w e w' := by
  obtain ⟨hg, g0, g1, g2, g3, g4, g5, g6, g7, g8, g9, g10, g11, g12, g13⟩ := hG
  go_enter Tryz.func76, Tryz.ntmps76
  go_wp2
  all_goals
    try go_region
  all_goals
    go_wp2
    go_returns
    exact (show ∃ pv, _ from ⟨_, rfl, rl_1 (5, 2) (by first | (simp; done) | (simp; omega)) (by simp [go_sem]) (by simp [go_sem]), fre_lit (by first | (simp; done) | (simp; omega) | omega), by (repeat' (first | (with_reducible first | exact Below.refl _ _ | assumption | refine Below.alloc ?_ ?_ _ | refine below_drewN ?_ _ | refine below_drew ?_ | refine below_ext ?_ ?_ _ _ | refine Below.setCell ?_ ?_ _) | (simp; done) | (simp; omega) | omega))⟩)
set_option maxRecDepth 100000 in
set_option maxHeartbeats 4000000 in
theorem fn_count (w : World) (hG : TyG w) : Calls Tryz.prog 76 #[.string (mkb [99, 111, 117, 110, 116])] w fun e w' => FnQ (some ([(5, 0)], (2, 0))) w e w' := by
  obtain ⟨hg, g0, g1, g2, g3, g4, g5, g6, g7, g8, g9, g10, g11, g12, g13⟩ := hG
  go_enter Tryz.func76, Tryz.ntmps76
  go_wp2
  all_goals
    try go_region
  all_goals
    go_wp2
    go_returns
    exact (show ∃ pv, _ from ⟨_, rfl, rl_1 (5, 0) (by first | (simp; done) | (simp; omega)) (by simp [go_sem]) (by simp [go_sem]), fre_lit (by first | (simp; done) | (simp; omega) | omega), by (repeat' (first | (with_reducible first | exact Below.refl _ _ | assumption | refine Below.alloc ?_ ?_ _ | refine below_drewN ?_ _ | refine below_drew ?_ | refine below_ext ?_ ?_ _ _ | refine Below.setCell ?_ ?_ _) | (simp; done) | (simp; omega) | omega))⟩)
set_option maxRecDepth 100000 in
set_option maxHeartbeats 4000000 in
theorem fn_contains (w : World) (hG : TyG w) : Calls Tryz.prog 76 #[.string (mkb [99, 111, 110, 116, 97, 105, 110, 115])] w fun e w' => FnQ (some ([(3, 0), (3, 0)], (1, 0))) w e w' := by
  obtain ⟨hg, g0, g1, g2, g3, g4, g5, g6, g7, g8, g9, g10, g11, g12, g13⟩ := hG
  go_enter Tryz.func76, Tryz.ntmps76
  go_wp2
  all_goals
    try go_region
  all_goals
    go_wp2
    go_returns
    exact (show ∃ pv, _ from ⟨_, rfl, rl_2 (3, 0) (3, 0) (by first | (simp; done) | (simp; omega)) (by simp [go_sem]) (by simp [go_sem]) (by simp [go_sem]) (by simp [go_sem]), fre_lit (by first | (simp; done) | (simp; omega) | omega), by (repeat' (first | (with_reducible first | exact Below.refl _ _ | assumption | refine Below.alloc ?_ ?_ _ | refine below_drewN ?_ _ | refine below_drew ?_ | refine below_ext ?_ ?_ _ _ | refine Below.setCell ?_ ?_ _) | (simp; done) | (simp; omega) | omega))⟩)
set_option maxRecDepth 100000 in
set_option maxHeartbeats 4000000 in
theorem fn_starts (w : World) (hG : TyG w) : Calls Tryz.prog 76 #[.string (mkb [115, 116, 97, 114, 116, 115])] w fun e w' => FnQ (some ([(3, 0), (3, 0)], (1, 0))) w e w' := by
  obtain ⟨hg, g0, g1, g2, g3, g4, g5, g6, g7, g8, g9, g10, g11, g12, g13⟩ := hG
  go_enter Tryz.func76, Tryz.ntmps76
  go_wp2
  all_goals
    try go_region
  all_goals
    go_wp2
    go_returns
    exact (show ∃ pv, _ from ⟨_, rfl, rl_2 (3, 0) (3, 0) (by first | (simp; done) | (simp; omega)) (by simp [go_sem]) (by simp [go_sem]) (by simp [go_sem]) (by simp [go_sem]), fre_lit (by first | (simp; done) | (simp; omega) | omega), by (repeat' (first | (with_reducible first | exact Below.refl _ _ | assumption | refine Below.alloc ?_ ?_ _ | refine below_drewN ?_ _ | refine below_drew ?_ | refine below_ext ?_ ?_ _ _ | refine Below.setCell ?_ ?_ _) | (simp; done) | (simp; omega) | omega))⟩)
set_option maxRecDepth 100000 in
set_option maxHeartbeats 4000000 in
theorem fn_length (w : World) (hG : TyG w) : Calls Tryz.prog 76 #[.string (mkb [108, 101, 110, 103, 116, 104])] w fun e w' => FnQ (some ([(3, 0)], (2, 0))) w e w' := by
  obtain ⟨hg, g0, g1, g2, g3, g4, g5, g6, g7, g8, g9, g10, g11, g12, g13⟩ := hG
  go_enter Tryz.func76, Tryz.ntmps76
  go_wp2
  all_goals
    try go_region
  all_goals
    go_wp2
    go_returns
    exact (show ∃ pv, _ from ⟨_, rfl, rl_1 (3, 0) (by first | (simp; done) | (simp; omega)) (by simp [go_sem]) (by simp [go_sem]), fre_lit (by first | (simp; done) | (simp; omega) | omega), by (repeat' (first | (with_reducible first | exact Below.refl _ _ | assumption | refine Below.alloc ?_ ?_ _ | refine below_drewN ?_ _ | refine below_drew ?_ | refine below_ext ?_ ?_ _ _ | refine Below.setCell ?_ ?_ _) | (simp; done) | (simp; omega) | omega))⟩)
set_option maxRecDepth 100000 in
set_option maxHeartbeats 4000000 in
theorem fn_substring (w : World) (hG : TyG w) : Calls Tryz.prog 76 #[.string (mkb [115, 117, 98, 115, 116, 114, 105, 110, 103])] w fun e w' => FnQ (some ([(3, 0), (2, 0), (2, 0)], (3, 0))) w e w' := by
  obtain ⟨hg, g0, g1, g2, g3, g4, g5, g6, g7, g8, g9, g10, g11, g12, g13⟩ := hG
  go_enter Tryz.func76, Tryz.ntmps76
  go_wp2
  all_goals
    try go_region
  all_goals
    go_wp2
    go_returns
    exact (show ∃ pv, _ from ⟨_, rfl, rl_3 (3, 0) (2, 0) (2, 0) (by first | (simp; done) | (simp; omega)) (by simp [go_sem]) (by simp [go_sem]) (by simp [go_sem]) (by simp [go_sem]) (by simp [go_sem]) (by simp [go_sem]), fre_lit (by first | (simp; done) | (simp; omega) | omega), by (repeat' (first | (with_reducible first | exact Below.refl _ _ | assumption | refine Below.alloc ?_ ?_ _ | refine below_drewN ?_ _ | refine below_drew ?_ | refine below_ext ?_ ?_ _ _ | refine Below.setCell ?_ ?_ _) | (simp; done) | (simp; omega) | omega))⟩)
set_option maxRecDepth 100000 in
set_option maxHeartbeats 4000000 in
theorem fn_upper (w : World) (hG : TyG w) : Calls Tryz.prog 76 #[.string (mkb [117, 112, 112, 101, 114])] w fun e w' => FnQ (some ([(3, 0)], (3, 0))) w e w' := by
  obtain ⟨hg, g0, g1, g2, g3, g4, g5, g6, g7, g8, g9, g10, g11, g12, g13⟩ := hG
  go_enter Tryz.func76, Tryz.ntmps76
  go_wp2
  all_goals
    try go_region
  all_goals
    go_wp2
    go_returns
    exact (show ∃ pv, _ from ⟨_, rfl, rl_1 (3, 0) (by first | (simp; done) | (simp; omega)) (by simp [go_sem]) (by simp [go_sem]), fre_lit (by first | (simp; done) | (simp; omega) | omega), by (repeat' (first | (with_reducible first | exact Below.refl _ _ | assumption | refine Below.alloc ?_ ?_ _ | refine below_drewN ?_ _ | refine below_drew ?_ | refine below_ext ?_ ?_ _ _ | refine Below.setCell ?_ ?_ _) | (simp; done) | (simp; omega) | omega))⟩)
set_option maxRecDepth 100000 in
set_option maxHeartbeats 4000000 in
theorem fn_lower (w : World) (hG : TyG w) : Calls Tryz.prog 76 #[.string (mkb [108, 111, 119, 101, 114])] w fun e w' => FnQ (some ([(3, 0)], (3, 0))) w e w' := by
  obtain ⟨hg, g0, g1, g2, g3, g4, g5, g6, g7, g8, g9, g10, g11, g12, g13⟩ := hG
  go_enter Tryz.func76, Tryz.ntmps76
  go_wp2
  all_goals
    try go_region
  all_goals
    go_wp2
    go_returns
    exact (show ∃ pv, _ from ⟨_, rfl, rl_1 (3, 0) (by first | (simp; done) | (simp; omega)) (by simp [go_sem]) (by simp [go_sem]), fre_lit (by first | (simp; done) | (simp; omega) | omega), by (repeat' (first | (with_reducible first | exact Below.refl _ _ | assumption | refine Below.alloc ?_ ?_ _ | refine below_drewN ?_ _ | refine below_drew ?_ | refine below_ext ?_ ?_ _ _ | refine Below.setCell ?_ ?_ _) | (simp; done) | (simp; omega) | omega))⟩)
set_option maxRecDepth 100000 in
set_option maxHeartbeats 4000000 in
theorem fn_date (w : World) (hG : TyG w) : Calls Tryz.prog 76 #[.string (mkb [100, 97, 116, 101])] w fun e w' => FnQ (some ([(3, 0)], (4, 0))) w e w' := by
  obtain ⟨hg, g0, g1, g2, g3, g4, g5, g6, g7, g8, g9, g10, g11, g12, g13⟩ := hG
  go_enter Tryz.func76, Tryz.ntmps76
  go_wp2
  all_goals
    try go_region
  all_goals
    go_wp2
    go_returns
    exact (show ∃ pv, _ from ⟨_, rfl, rl_1 (3, 0) (by first | (simp; done) | (simp; omega)) (by simp [go_sem]) (by simp [go_sem]), fre_lit (by first | (simp; done) | (simp; omega) | omega), by (repeat' (first | (with_reducible first | exact Below.refl _ _ | assumption | refine Below.alloc ?_ ?_ _ | refine below_drewN ?_ _ | refine below_drew ?_ | refine below_ext ?_ ?_ _ _ | refine Below.setCell ?_ ?_ _) | (simp; done) | (simp; omega) | omega))⟩)
set_option maxRecDepth 100000 in
set_option maxHeartbeats 4000000 in
theorem fn_year (w : World) (hG : TyG w) : Calls Tryz.prog 76 #[.string (mkb [121, 101, 97, 114])] w fun e w' => FnQ (some ([(4, 0)], (2, 0))) w e w' := by
  obtain ⟨hg, g0, g1, g2, g3, g4, g5, g6, g7, g8, g9, g10, g11, g12, g13⟩ := hG
  go_enter Tryz.func76, Tryz.ntmps76
  go_wp2
  all_goals
    try go_region
  all_goals
    go_wp2
    go_returns
    exact (show ∃ pv, _ from ⟨_, rfl, rl_1 (4, 0) (by first | (simp; done) | (simp; omega)) (by simp [go_sem]) (by simp [go_sem]), fre_lit (by first | (simp; done) | (simp; omega) | omega), by (repeat' (first | (with_reducible first | exact Below.refl _ _ | assumption | refine Below.alloc ?_ ?_ _ | refine below_drewN ?_ _ | refine below_drew ?_ | refine below_ext ?_ ?_ _ _ | refine Below.setCell ?_ ?_ _) | (simp; done) | (simp; omega) | omega))⟩)
set_option maxRecDepth 100000 in
set_option maxHeartbeats 4000000 in
theorem fn_month (w : World) (hG : TyG w) : Calls Tryz.prog 76 #[.string (mkb [109, 111, 110, 116, 104])] w fun e w' => FnQ (some ([(4, 0)], (2, 0))) w e w' := by
  obtain ⟨hg, g0, g1, g2, g3, g4, g5, g6, g7, g8, g9, g10, g11, g12, g13⟩ := hG
  go_enter Tryz.func76, Tryz.ntmps76
  go_wp2
  all_goals
    try go_region
  all_goals
    go_wp2
    go_returns
    exact (show ∃ pv, _ from ⟨_, rfl, rl_1 (4, 0) (by first | (simp; done) | (simp; omega)) (by simp [go_sem]) (by simp [go_sem]), fre_lit (by first | (simp; done) | (simp; omega) | omega), by (repeat' (first | (with_reducible first | exact Below.refl _ _ | assumption | refine Below.alloc ?_ ?_ _ | refine below_drewN ?_ _ | refine below_drew ?_ | refine below_ext ?_ ?_ _ _ | refine Below.setCell ?_ ?_ _) | (simp; done) | (simp; omega) | omega))⟩)
set_option maxRecDepth 100000 in
set_option maxHeartbeats 4000000 in
theorem fn_day (w : World) (hG : TyG w) : Calls Tryz.prog 76 #[.string (mkb [100, 97, 121])] w fun e w' => FnQ (some ([(4, 0)], (2, 0))) w e w' := by
  obtain ⟨hg, g0, g1, g2, g3, g4, g5, g6, g7, g8, g9, g10, g11, g12, g13⟩ := hG
  go_enter Tryz.func76, Tryz.ntmps76
  go_wp2
  all_goals
    try go_region
  all_goals
    go_wp2
    go_returns
    exact (show ∃ pv, _ from ⟨_, rfl, rl_1 (4, 0) (by first | (simp; done) | (simp; omega)) (by simp [go_sem]) (by simp [go_sem]), fre_lit (by first | (simp; done) | (simp; omega) | omega), by (repeat' (first | (with_reducible first | exact Below.refl _ _ | assumption | refine Below.alloc ?_ ?_ _ | refine below_drewN ?_ _ | refine below_drew ?_ | refine below_ext ?_ ?_ _ _ | refine Below.setCell ?_ ?_ _) | (simp; done) | (simp; omega) | omega))⟩)
set_option maxRecDepth 100000 in
set_option maxHeartbeats 4000000 in
theorem fn_weekday (w : World) (hG : TyG w) : Calls Tryz.prog 76 #[.string (mkb [119, 101, 101, 107, 100, 97, 121])] w fun e w' => FnQ (some ([(4, 0)], (2, 0))) w e w' := by
  obtain ⟨hg, g0, g1, g2, g3, g4, g5, g6, g7, g8, g9, g10, g11, g12, g13⟩ := hG
  go_enter Tryz.func76, Tryz.ntmps76
  go_wp2
  all_goals
    try go_region
  all_goals
    go_wp2
    go_returns
    exact (show ∃ pv, _ from ⟨_, rfl, rl_1 (4, 0) (by first | (simp; done) | (simp; omega)) (by simp [go_sem]) (by simp [go_sem]), fre_lit (by first | (simp; done) | (simp; omega) | omega), by (repeat' (first | (with_reducible first | exact Below.refl _ _ | assumption | refine Below.alloc ?_ ?_ _ | refine below_drewN ?_ _ | refine below_drew ?_ | refine below_ext ?_ ?_ _ _ | refine Below.setCell ?_ ?_ _) | (simp; done) | (simp; omega) | omega))⟩)
set_option maxRecDepth 100000 in
set_option maxHeartbeats 4000000 in
theorem fn_days (w : World) (hG : TyG w) : Calls Tryz.prog 76 #[.string (mkb [100, 97, 121, 115])] w fun e w' => FnQ (some ([(4, 0), (2, 0)], (4, 0))) w e w' := by
  obtain ⟨hg, g0, g1, g2, g3, g4, g5, g6, g7, g8, g9, g10, g11, g12, g13⟩ := hG
  go_enter Tryz.func76, Tryz.ntmps76
  go_wp2
  all_goals
    try go_region
  all_goals
    go_wp2
    go_returns
    exact (show ∃ pv, _ from ⟨_, rfl, rl_2 (4, 0) (2, 0) (by first | (simp; done) | (simp; omega)) (by simp [go_sem]) (by simp [go_sem]) (by simp [go_sem]) (by simp [go_sem]), fre_lit (by first | (simp; done) | (simp; omega) | omega), by (repeat' (first | (with_reducible first | exact Below.refl _ _ | assumption | refine Below.alloc ?_ ?_ _ | refine below_drewN ?_ _ | refine below_drew ?_ | refine below_ext ?_ ?_ _ _ | refine Below.setCell ?_ ?_ _) | (simp; done) | (simp; omega) | omega))⟩)
set_option maxRecDepth 100000 in
set_option maxHeartbeats 4000000 in
theorem fn_months (w : World) (hG : TyG w) : Calls Tryz.prog 76 #[.string (mkb [109, 111, 110, 116, 104, 115])] w fun e w' => FnQ (some ([(4, 0), (2, 0)], (4, 0))) w e w' := by
  obtain ⟨hg, g0, g1, g2, g3, g4, g5, g6, g7, g8, g9, g10, g11, g12, g13⟩ := hG
  go_enter Tryz.func76, Tryz.ntmps76
  go_wp2
  all_goals
    try go_region
  all_goals
    go_wp2
    go_returns
    exact (show ∃ pv, _ from ⟨_, rfl, rl_2 (4, 0) (2, 0) (by first | (simp; done) | (simp; omega)) (by simp [go_sem]) (by simp [go_sem]) (by simp [go_sem]) (by simp [go_sem]), fre_lit (by first | (simp; done) | (simp; omega) | omega), by (repeat' (first | (with_reducible first | exact Below.refl _ _ | assumption | refine Below.alloc ?_ ?_ _ | refine below_drewN ?_ _ | refine below_drew ?_ | refine below_ext ?_ ?_ _ _ | refine Below.setCell ?_ ?_ _) | (simp; done) | (simp; omega) | omega))⟩)
set_option maxRecDepth 100000 in
set_option maxHeartbeats 4000000 in
theorem fn_negate (w : World) (hG : TyG w) : Calls Tryz.prog 76 #[.string (mkb [110, 101, 103, 97, 116, 101])] w fun e w' => FnQ (some ([(1, 0)], (1, 0))) w e w' := by
  obtain ⟨hg, g0, g1, g2, g3, g4, g5, g6, g7, g8, g9, g10, g11, g12, g13⟩ := hG
  go_enter Tryz.func76, Tryz.ntmps76
  go_wp2
  all_goals
    try go_region
  all_goals
    go_wp2
    go_returns
    exact (show ∃ pv, _ from ⟨_, rfl, rl_1 (1, 0) (by first | (simp; done) | (simp; omega)) (by simp [go_sem]) (by simp [go_sem]), fre_lit (by first | (simp; done) | (simp; omega) | omega), by (repeat' (first | (with_reducible first | exact Below.refl _ _ | assumption | refine Below.alloc ?_ ?_ _ | refine below_drewN ?_ _ | refine below_drew ?_ | refine below_ext ?_ ?_ _ _ | refine Below.setCell ?_ ?_ _) | (simp; done) | (simp; omega) | omega))⟩)
set_option maxRecDepth 100000 in
set_option maxHeartbeats 4000000 in
theorem fn_append (w : World) (hG : TyG w) : Calls Tryz.prog 76 #[.string (mkb [97, 112, 112, 101, 110, 100])] w fun e w' => FnQ (some ([(5, 0), (0, 0)], (5, 0))) w e w' := by
  obtain ⟨hg, g0, g1, g2, g3, g4, g5, g6, g7, g8, g9, g10, g11, g12, g13⟩ := hG
  go_enter Tryz.func76, Tryz.ntmps76
  go_wp2
  all_goals
    try go_region
  all_goals
    go_wp2
    go_returns
    exact (show ∃ pv, _ from ⟨_, rfl, rl_2 (5, 0) (0, 0) (by first | (simp; done) | (simp; omega)) (by simp [go_sem]) (by simp [go_sem]) (by simp [go_sem]) (by simp [go_sem]), fre_lit (by first | (simp; done) | (simp; omega) | omega), by (repeat' (first | (with_reducible first | exact Below.refl _ _ | assumption | refine Below.alloc ?_ ?_ _ | refine below_drewN ?_ _ | refine below_drew ?_ | refine below_ext ?_ ?_ _ _ | refine Below.setCell ?_ ?_ _) | (simp; done) | (simp; omega) | omega))⟩)
set_option maxRecDepth 100000 in
set_option maxHeartbeats 4000000 in
theorem fn_string (w : World) (hG : TyG w) : Calls Tryz.prog 76 #[.string (mkb [115, 116, 114, 105, 110, 103])] w fun e w' => FnQ (some ([(0, 0)], (3, 0))) w e w' := by
  obtain ⟨hg, g0, g1, g2, g3, g4, g5, g6, g7, g8, g9, g10, g11, g12, g13⟩ := hG
  go_enter Tryz.func76, Tryz.ntmps76
  go_wp2
  all_goals
    try go_region
  all_goals
    go_wp2
    go_returns
    exact (show ∃ pv, _ from ⟨_, rfl, rl_1 (0, 0) (by first | (simp; done) | (simp; omega)) (by simp [go_sem]) (by simp [go_sem]), fre_lit (by first | (simp; done) | (simp; omega) | omega), by (repeat' (first | (with_reducible first | exact Below.refl _ _ | assumption | refine Below.alloc ?_ ?_ _ | refine below_drewN ?_ _ | refine below_drew ?_ | refine below_ext ?_ ?_ _ _ | refine Below.setCell ?_ ?_ _) | (simp; done) | (simp; omega) | omega))⟩)
end Go.Proofs.YtalahkincccffaaGreatDoor
