/-
  Expr where no node asks anything; the statements' own first question on types.
-/
import Derived.Test.YtjkallelniggpaaDoorChkD
import Derived.Test.YtjkallelniggpaaDoorNodS
namespace Go.Proofs.YtjkallelniggpaaDoor
open Go.RowKit Go.Maps Go.WideMaps Word Txt
attribute [local go_sem] setCell_drewN cell?_ext frozen?_ext shape?_ext setCell_ext lt_1' ne_1' en_1' le_1' lt_2' ne_2' en_2' le_2' lt_3' ne_3' en_3' le_3' lt_4' ne_4' en_4' le_4' lt_5' ne_5' en_5' le_5' lt_6' ne_6' en_6' le_6' lt_7' ne_7' en_7' le_7' lt_8' ne_8' en_8' le_8' lt_9' ne_9' en_9' le_9' lt_10' ne_10' en_10' le_10' lt_11' ne_11' en_11' le_11' lt_12' ne_12' en_12' le_12'

theorem run_mmS (w : World) : (Instr.makeMap 69 none).run Tryd.prog w = .ok (.map (some w.heap.size)) (w.alloc (.map #[] 0)) := by
  simp [Instr.makeMap, go_sem]
theorem learn_nil (w : World) : Calls Tryd.prog 27 #[.slice none 0 0] w fun e w' => e = .returned (.tuple #[.map (some w.heap.size), .int .i64 0]) ∧ Below w.heap.size w w' := by
  have hmm := run_mmS
  go_enter Tryd.func27, Tryd.ntmps27
  go_wp2
  refine wp_loop_rounds 1 ?_
  rw [rounds_succ]
  go_wp2
  go_ret2
  exact ⟨rfl, by (repeat' (first | (with_reducible exact Below.refl _ _) | (with_reducible assumption) | (with_reducible refine Below.alloc ?_ ?_ _) | (with_reducible refine below_drewN ?_ _) | (with_reducible refine below_drew ?_) | (with_reducible refine below_ext ?_ ?_ _ _) | (with_reducible refine Below.setCell ?_ ?_ _) | (simp; done) | (simp; omega) | omega))⟩
set_option maxRecDepth 100000 in
theorem expr_plain (l : List NdD) (res : Ty) (err : Int) (n : Nat) (w : World) (v : Value) (hv : RL 8 ndE n w v l) (hn : n ≤ w.heap.size) (hl : l.length ≤ 300) (hwf : ∀ x ∈ l, x.Wf) (hT : Tens w) (hU : Tabs w) (hc : chkE l false = 0) (hrun : ∀ m w', Below w.heap.size w w' → okRun (TyC m w') res err l []) :
    Calls Tryd.prog 16 #[v, .slice none 0 0] w fun e w' => e = .returned (.tuple #[TyV res, .int .i64 err]) ∧ Below w.heap.size w w' := by
  have HC := Lib.hid (show ∀ w', Below w.heap.size w w' → Calls Tryd.prog 22 #[v, .bool false] w' fun e w'' => e = .returned (.int .i64 0) ∧ Below w'.heap.size w' w'' from fun w' hb => by
    have := check_any l false n w' v (hv.keep (hb.mono hn)) (Nat.le_trans hn hb.size) hwf (hT.below hb) (hU.below hb)
    rwa [hc] at this)
  have HL := Lib.hid learn_nil
  have HD := Lib.hid (fun m w' (hb : Below w.heap.size w w') => determine_plain l m res err n w' v (hv.keep (hb.mono hn)) (Nat.le_trans hn hb.size) hl (hrun m w' hb))
  obtain ⟨p, c, rfl, -⟩ := hv
  obtain ⟨k1, k2⟩ := res
  generalize l.length = len at HC HD ⊢
  clear hc hrun hwf hT hU hl hn
  go_enter Tryd.func16, Tryd.ntmps16
  go_wp2_with (first
    | (go_at_call 22; ((with_reducible refine (HC.out _ (by (repeat' (first | (with_reducible exact Below.refl _ _) | (with_reducible assumption) | (with_reducible refine Below.alloc ?_ ?_ _) | (with_reducible refine below_drewN ?_ _) | (with_reducible refine below_drew ?_) | (with_reducible refine below_ext ?_ ?_ _ _) | (with_reducible refine Below.setCell ?_ ?_ _) | (simp; done) | (simp; omega) | omega)))).mono ?_); rintro e w1 ⟨rfl, hb1⟩; obtain ⟨osA, dA, rfl⟩ := ext_of_below hb1; clear hb1))
    | (go_at_call 27; ((with_reducible refine (HL.out _).mono ?_); rintro e w1 ⟨rfl, hb1⟩; obtain ⟨osB, dB, rfl⟩ := ext_of_below hb1; clear hb1))
    | (go_at_call 28; ((with_reducible refine (HD.out _ _ (by (repeat' (first | (with_reducible exact Below.refl _ _) | (with_reducible assumption) | (with_reducible refine Below.alloc ?_ ?_ _) | (with_reducible refine below_drewN ?_ _) | (with_reducible refine below_drew ?_) | (with_reducible refine below_ext ?_ ?_ _ _) | (with_reducible refine Below.setCell ?_ ?_ _) | (simp; done) | (simp; omega) | omega)))).mono ?_); rintro e w1 ⟨rfl, hb1⟩; obtain ⟨osC, dC, rfl⟩ := ext_of_below hb1; clear hb1)))
  all_goals
    go_returns
    exact ⟨rfl, by (repeat' (first | (with_reducible exact Below.refl _ _) | (with_reducible assumption) | (with_reducible refine Below.alloc ?_ ?_ _) | (with_reducible refine below_drewN ?_ _) | (with_reducible refine below_drew ?_) | (with_reducible refine below_ext ?_ ?_ _ _) | (with_reducible refine Below.setCell ?_ ?_ _) | (simp; done) | (simp; omega) | omega))⟩
theorem rl_two {n : Nat} {w : World} {pv : Value} {a b : Ty} (h : RL 2 tpE n w pv [a, b]) : ∃ g o c, pv = .slice (some ⟨g, o, none⟩) 2 c ∧ g < n ∧ w.cell? ⟨g, o, none⟩ = some (.int .i64 a.1) ∧ w.cell? ⟨g, o + 1, none⟩ = some (.int .i64 a.2) ∧ w.cell? ⟨g, o + 2, none⟩ = some (.int .i64 b.1) ∧ w.cell? ⟨g, o + 2 + 1, none⟩ = some (.int .i64 b.2) := by
  obtain ⟨p, c, rfl, h2⟩ := h
  obtain ⟨g, o, rfl, hg, hc⟩ := h2 (by simp)
  exact ⟨g, o, c, rfl, hg, hc 0 (by simp) 0 _ rfl, hc 0 (by simp) 1 _ rfl, hc 1 (by simp) 0 _ rfl, hc 1 (by simp) 1 _ rfl⟩
/-- a list of two numbers; a number and a text -/
abbrev lstN : List NdD := [ndC 4 0 1, ndC 4 0 1, ndC 26 2 0]
abbrev sumN2 : List NdD := [ndC 4 0 1, ndC 5 0 0, ndC 9 2 0]
set_option maxRecDepth 100000 in
theorem chk_lst : chkE lstN false = 0 := by decide
set_option maxRecDepth 100000 in
theorem chk_sum : chkE sumN2 false = 0 := by decide
theorem wf_ndC (op k : Int) (c : Nat) (hk : -9223372036854775808 ≤ k ∧ k < 9223372036854775808) (hc : c < top2) : (ndC op k c).Wf := ⟨by show (0 : Nat) ≤ maxLen; exact Nat.zero_le _, hc, hk⟩
theorem run_lst (m : Option Nat) (w : World) (hG : TyG w) : okRun (TyC m w) (5, 2) 0 lstN [] := by
  have hN : TyC m w (ndC 4 0 1) [] (2, 0) 0 := fun w' pv hb _ => typeOf_leaf 4 (2, 0) 1 m pv w' (.inl ⟨rfl, rfl⟩) (hG.below hb)
  refine ⟨by decide, by decide, by decide, .inl (by decide), (2, 0), 0, hN, fun _ => ?_, fun h => absurd rfl h⟩
  refine ⟨by decide, by decide, by decide, .inl (by decide), (2, 0), 0, hN, fun _ => ?_, fun h => absurd rfl h⟩
  refine ⟨by decide, by decide, by decide, .inl (by decide), (5, 2), 0, fun w' pv hb hp => ?_, fun _ => ⟨rfl, [], rfl⟩, fun h => absurd rfl h⟩
  obtain ⟨g, o, c, rfl, hg, c0, c1, c2, c3⟩ := rl_two hp
  exact typeOf_list 2 m g o c w' hg c0 c1 c2 c3
theorem run_sum (m : Option Nat) (w : World) (hG : TyG w) : okRun (TyC m w) (0, 0) 9 sumN2 [] := by
  refine ⟨by decide, by decide, by decide, .inl (by decide), (2, 0), 0, fun w' pv hb _ => typeOf_leaf 4 (2, 0) 1 m pv w' (.inl ⟨rfl, rfl⟩) (hG.below hb), fun _ => ?_, fun h => absurd rfl h⟩
  refine ⟨by decide, by decide, by decide, .inl (by decide), (3, 0), 0, fun w' pv hb _ => typeOf_leaf 5 (3, 0) 0 m pv w' (.inr ⟨rfl, rfl⟩) (hG.below hb), fun _ => ?_, fun h => absurd rfl h⟩
  refine ⟨by decide, by decide, by decide, .inl (by decide), (0, 0), 9, fun w' pv hb hp => ?_, fun h => absurd h (by decide), fun _ => ⟨rfl, rfl⟩⟩
  obtain ⟨g, o, c, rfl, hg, c0, c1, c2, c3⟩ := rl_two hp
  exact typeOf_add 2 m g o c w' hg c0 c1 c2 c3 (hG.below hb)
end Go.Proofs.YtjkallelniggpaaDoor
