/-
  The type of a sum of a number and a text (none), of a list of two numbers; of a node.
-/
import Derived.Test.YtjkallelniggpaaDoorChkB
namespace Go.Proofs.YtjkallelniggpaaDoor
open Go.RowKit Word
attribute [local go_sem] setCell_drewN cell?_ext frozen?_ext shape?_ext setCell_ext lt_1' ne_1' en_1' le_1' lt_2' ne_2' en_2' le_2' lt_3' ne_3' en_3' le_3' lt_4' ne_4' en_4' le_4' lt_5' ne_5' en_5' le_5' lt_6' ne_6' en_6' le_6' lt_7' ne_7' en_7' le_7' lt_8' ne_8' en_8' le_8' lt_9' ne_9' en_9' le_9' lt_10' ne_10' en_10' le_10' lt_11' ne_11' en_11' le_11' lt_12' ne_12' en_12' le_12'

theorem cutX {P : Program} {c : Code} {Q : Exit → Act → World → Prop} {a : Act} {w : World} (F : World → Prop) (h : F w) (hK : ∀ W, F W → Code.wp P c Q a W) : Code.wp P c Q a w := hK w h
set_option maxRecDepth 100000 in
theorem form_listnum (w : World) : Calls Tryd.prog 47 #[TyV (5, 2)] w fun en w' => en = .returned (.bool true) ∧ Below w.heap.size w w' := by
  go_enter Tryd.func47, Tryd.ntmps47
  go_wp2
  go_ret
  exact ⟨rfl, by (repeat' (first | (with_reducible exact Below.refl _ _) | (with_reducible assumption) | (with_reducible refine Below.alloc ?_ ?_ _) | (with_reducible refine below_drewN ?_ _) | (with_reducible refine below_drew ?_) | (with_reducible refine below_ext ?_ ?_ _ _) | (with_reducible refine Below.setCell ?_ ?_ _) | (simp; done) | (simp; omega) | omega))⟩
/-- two types side by side -/
theorem two_rl {w : World} {g o c : Nat} (a b : Ty) (hg : g < w.heap.size) (c0 : w.cell? ⟨g, o, none⟩ = some (.int .i64 a.1)) (c1 : w.cell? ⟨g, o + 1, none⟩ = some (.int .i64 a.2)) (c2 : w.cell? ⟨g, o + 2, none⟩ = some (.int .i64 b.1)) (c3 : w.cell? ⟨g, o + 3, none⟩ = some (.int .i64 b.2)) : RL 2 tpE w.heap.size w (.slice (some ⟨g, o, none⟩) 2 c) [a, b] := by
  refine ⟨_, c, rfl, fun _ => ⟨g, o, rfl, hg, fun j hj i u hu => ?_⟩⟩
  have hj2 : j = 0 ∨ j = 1 := by simp at hj; omega
  have hi2 : i < 2 := by
    have := (List.getElem?_eq_some_iff.1 hu).1
    simpa [tpE] using this
  have hi3 : i = 0 ∨ i = 1 := by omega
  rcases hj2 with rfl | rfl <;> rcases hi3 with rfl | rfl
  · rw [← show (some (Value.int .i64 a.1)) = some u from hu]; exact c0
  · rw [← show (some (Value.int .i64 a.2)) = some u from hu]; exact c1
  · rw [← show (some (Value.int .i64 b.1)) = some u from hu]; exact c2
  · rw [← show (some (Value.int .i64 b.2)) = some u from hu]; exact c3
set_option maxRecDepth 100000 in
theorem sumOf_nt (w : World) (hG : TyG w) : Calls Tryd.prog 71 #[TyV (2, 0), TyV (3, 0)] w fun en w' => en = .returned (.tuple #[TyV (0, 0), .int .i64 9]) ∧ Below w.heap.size w w' := by
  have HG := Lib.hid (fun w' (hb : Below w.heap.size w w') => hG.below hb)
  clear hG
  go_enter Tryd.func71, Tryd.ntmps71
  go_upto_region 2 with fail
  obtain ⟨b, hb⟩ : ∃ b, b = w.heap.size + 1 + 1 + 1 := ⟨_, rfl⟩
  rw [← hb]
  refine cutX (fun W => Below w.heap.size w W ∧ w.heap.size + 1 + 1 < W.heap.size ∧ b < W.heap.size ∧ W.cell? ⟨b, 0, none⟩ = some (.int .i64 2) ∧ W.cell? ⟨b, 1, none⟩ = some (.int .i64 0) ∧ W.cell? ⟨b, 2, none⟩ = some (.int .i64 3) ∧ W.cell? ⟨b, 3, none⟩ = some (.int .i64 0) ∧ W.cell? ⟨w.heap.size + 1 + 1, 0, none⟩ = some (.int .i64 0) ∧ W.cell? ⟨w.heap.size + 1 + 1, 1, none⟩ = some (.int .i64 0) ∧ W.frozen? ⟨w.heap.size + 1 + 1, 0, none⟩ = false ∧ W.frozen? ⟨w.heap.size + 1 + 1, 1, none⟩ = false) ?_ ?_
  · subst hb
    refine ⟨by (repeat' (first | (with_reducible exact Below.refl _ _) | (with_reducible assumption) | (with_reducible refine Below.alloc ?_ ?_ _) | (with_reducible refine below_drewN ?_ _) | (with_reducible refine below_drew ?_) | (with_reducible refine below_ext ?_ ?_ _ _) | (with_reducible refine Below.setCell ?_ ?_ _) | (simp; done) | (simp; omega) | omega)), ?_⟩
    simp [go_sem]
  intro W ⟨hbW, hsW, hbl, b0, b1, b2, b3, r0, r1, f0, f1⟩
  clear hb
  have hGW := HG.out _ hbW
  have hg := hGW.sz
  have g0 := hGW.n0
  have g1 := hGW.n1
  have g2 := hGW.t0
  have g3 := hGW.t1
  have hsw := hbW.size
  have HRL := Lib.hid (fun w' (h : Below W.heap.size W w') => two_rl (w := w') (g := b) (o := 0) (c := 2) (2, 0) (3, 0) (Nat.lt_of_lt_of_le hbl h.size) ((h.cell (p := ⟨b, _, none⟩) hbl).trans b0) ((h.cell (p := ⟨b, _, none⟩) hbl).trans b1) ((h.cell (p := ⟨b, _, none⟩) hbl).trans b2) ((h.cell (p := ⟨b, _, none⟩) hbl).trans b3))
  have HA1 := Lib.hid (show ∀ w', Below W.heap.size W w' → Calls Tryd.prog 90 #[.slice (some ⟨b, 0, none⟩) 2 2, .agg #[.int .i64 2, .int .i64 0]] w' fun e w'' => e = .returned (.bool false) ∧ Below w'.heap.size w' w'' from fun w' h => allMeet_any [(2, 0), (3, 0)] (2, 0) w'.heap.size w' _ (HRL.out w' h) (Nat.le_refl _) (by decide) (hGW.below h))
  have HA2 := Lib.hid (show ∀ w', Below W.heap.size W w' → Calls Tryd.prog 90 #[.slice (some ⟨b, 0, none⟩) 2 2, .agg #[.int .i64 3, .int .i64 0]] w' fun e w'' => e = .returned (.bool false) ∧ Below w'.heap.size w' w'' from fun w' h => allMeet_any [(2, 0), (3, 0)] (3, 0) w'.heap.size w' _ (HRL.out w' h) (Nat.le_refl _) (by decide) (hGW.below h))
  have KEEP := Lib.hid (show ∀ w', Below W.heap.size W w' → w'.cell? ⟨0, 0, none⟩ = some (.int .i64 2) ∧ w'.cell? ⟨0, 1, none⟩ = some (.int .i64 0) ∧ w'.cell? ⟨3, 0, none⟩ = some (.int .i64 3) ∧ w'.cell? ⟨3, 1, none⟩ = some (.int .i64 0) from fun w' h => ⟨(hGW.below h).n0, (hGW.below h).n1, (hGW.below h).t0, (hGW.below h).t1⟩)
  have KEEP2 := Lib.hid (show ∀ w', Below W.heap.size W w' → Below w.heap.size w w' ∧ w.heap.size + 1 + 1 < w'.heap.size ∧ w'.cell? ⟨w.heap.size + 1 + 1, 0, none⟩ = some (.int .i64 0) ∧ w'.cell? ⟨w.heap.size + 1 + 1, 1, none⟩ = some (.int .i64 0) ∧ w'.frozen? ⟨w.heap.size + 1 + 1, 0, none⟩ = false ∧ w'.frozen? ⟨w.heap.size + 1 + 1, 1, none⟩ = false from fun w' h => ⟨hbW.trans (h.mono hsw), Nat.lt_of_lt_of_le hsW h.size, (h.cell (p := ⟨_, _, none⟩) hsW).trans r0, (h.cell (p := ⟨_, _, none⟩) hsW).trans r1, (h.frozen (p := ⟨_, _, none⟩) hsW).trans f0, (h.frozen (p := ⟨_, _, none⟩) hsW).trans f1⟩)
  clear hGW r0 r1 f0 f1
  go_region_held3 (fun w' => w'.cell? ⟨0, 0, none⟩ = some (.int .i64 2) ∧ w'.cell? ⟨0, 1, none⟩ = some (.int .i64 0) ∧ w'.cell? ⟨3, 0, none⟩ = some (.int .i64 3) ∧ w'.cell? ⟨3, 1, none⟩ = some (.int .i64 0)) (exact KEEP.out _ (by (repeat' (first | (with_reducible exact Below.refl _ _) | (with_reducible assumption) | (with_reducible refine Below.alloc ?_ ?_ _) | (with_reducible refine below_drewN ?_ _) | (with_reducible refine below_drew ?_) | (with_reducible refine below_ext ?_ ?_ _ _) | (with_reducible refine Below.setCell ?_ ?_ _) | (simp; done) | (simp; omega) | omega)))) (first
    | (go_at_call 90; ((with_reducible refine (HA1.out _ (by (repeat' (first | (with_reducible exact Below.refl _ _) | (with_reducible assumption) | (with_reducible refine Below.alloc ?_ ?_ _) | (with_reducible refine below_drewN ?_ _) | (with_reducible refine below_drew ?_) | (with_reducible refine below_ext ?_ ?_ _ _) | (with_reducible refine Below.setCell ?_ ?_ _) | (simp; done) | (simp; omega) | omega)))).mono ?_); rintro e w1 ⟨rfl, hb1⟩; obtain ⟨osA, dA, rfl⟩ := ext_of_below hb1; clear hb1))
    | (go_at_call 90; ((with_reducible refine (HA2.out _ (by (repeat' (first | (with_reducible exact Below.refl _ _) | (with_reducible assumption) | (with_reducible refine Below.alloc ?_ ?_ _) | (with_reducible refine below_drewN ?_ _) | (with_reducible refine below_drew ?_) | (with_reducible refine below_ext ?_ ?_ _ _) | (with_reducible refine Below.setCell ?_ ?_ _) | (simp; done) | (simp; omega) | omega)))).mono ?_); rintro e w1 ⟨rfl, hb1⟩; obtain ⟨osB, dB, rfl⟩ := ext_of_below hb1; clear hb1)))
  all_goals
    go_upto_region 3 with fail
    refine cutX (fun W2 => Below w.heap.size w W2 ∧ w.heap.size + 1 + 1 < W2.heap.size ∧ W2.cell? ⟨w.heap.size + 1 + 1, 0, none⟩ = some (.int .i64 0) ∧ W2.cell? ⟨w.heap.size + 1 + 1, 1, none⟩ = some (.int .i64 0) ∧ W2.frozen? ⟨w.heap.size + 1 + 1, 0, none⟩ = false ∧ W2.frozen? ⟨w.heap.size + 1 + 1, 1, none⟩ = false) (KEEP2.out _ (by (repeat' (first | (with_reducible exact Below.refl _ _) | (with_reducible assumption) | (with_reducible refine Below.alloc ?_ ?_ _) | (with_reducible refine below_drewN ?_ _) | (with_reducible refine below_drew ?_) | (with_reducible refine below_ext ?_ ?_ _ _) | (with_reducible refine Below.setCell ?_ ?_ _) | (simp; done) | (simp; omega) | omega)))) ?_
    intro W2 ⟨hb2, hs2, r0, r1, f0, f1⟩
    have s0 : (W2.setCell ⟨w.heap.size + 1 + 1, 0, none⟩ (.int .i64 0)).cell? ⟨w.heap.size + 1 + 1, 0, none⟩ = some (.int .i64 0) := World.cell?_setCell_same _ _ _ r0
    have s1 : ((W2.setCell ⟨w.heap.size + 1 + 1, 0, none⟩ (.int .i64 0)).setCell ⟨w.heap.size + 1 + 1, 1, none⟩ (.int .i64 0)).cell? ⟨w.heap.size + 1 + 1, 1, none⟩ = some (.int .i64 0) := World.cell?_setCell_same _ _ _ ((World.cell?_setCell_other _ _ _ _ (by intro e2; injection e2 with _ e3; exact absurd e3 (by decide))).trans r1)
    go_wp2
    refine bodyPost_ret (by simp [results, Tryd.results71, go_sem, s0, s1]; try rfl) rfl ?_
    exact ⟨rfl, hb2.trans (by (repeat' (first | (with_reducible exact Below.refl _ _) | (with_reducible assumption) | (with_reducible refine Below.alloc ?_ ?_ _) | (with_reducible refine below_drewN ?_ _) | (with_reducible refine below_drew ?_) | (with_reducible refine below_ext ?_ ?_ _ _) | (with_reducible refine Below.setCell ?_ ?_ _) | (simp; done) | (simp; omega) | omega)))⟩
set_option maxRecDepth 100000 in
set_option maxHeartbeats 4000000 in
theorem listOf_nn (g o c : Nat) (w : World) (hg : g < w.heap.size) (c0 : w.cell? ⟨g, o, none⟩ = some (.int .i64 2)) (c1 : w.cell? ⟨g, o + 1, none⟩ = some (.int .i64 0)) (c2 : w.cell? ⟨g, o + 2, none⟩ = some (.int .i64 2)) (c3 : w.cell? ⟨g, o + 2 + 1, none⟩ = some (.int .i64 0)) :
    Calls Tryd.prog 74 #[.slice (some ⟨g, o, none⟩) 2 c] w fun en w' => en = .returned (TyV (5, 2)) ∧ Below w.heap.size w w' := by
  have hmg : Tryd.prog.eqGuardType Tryd.prog.depth 25 = false := by kernel_rfl
  have e1 : ∀ w, (Op.equalIn 10000 25 (.agg #[.int .i64 2, .int .i64 0]) (.agg #[.int .i64 2, .int .i64 0])).run Tryd.prog w = .ok true w := fun w => ty_eq (2, 0) (2, 0) w
  have HF := Lib.hid (fun w => form_listnum w)
  have hg1 : g < w.heap.size + 1 := by omega
  have hg2 : g < w.heap.size + 1 + 1 := by omega
  have hg3 : g < w.heap.size + 1 + 1 + 1 := by omega
  have hg4 : g < w.heap.size + 1 + 1 + 1 + 1 := by omega
  go_enter Tryd.func74, Tryd.ntmps74
  go_wp2_with (first
    | (go_at_call 47; ((with_reducible refine (HF.out _).mono ?_); rintro e w1 ⟨rfl, hb1⟩; obtain ⟨osF, dF, rfl⟩ := ext_of_below hb1; clear hb1))
    | go_in)
  refine wp_loop_rounds 3 ?_
  rw [rounds_succ]
  go_wp2_with (first
    | (go_at_call 47; ((with_reducible refine (HF.out _).mono ?_); rintro e w1 ⟨rfl, hb1⟩; obtain ⟨osF, dF, rfl⟩ := ext_of_below hb1; clear hb1))
    | go_in)
  go_region
  go_wp2_with (first
    | (go_at_call 47; ((with_reducible refine (HF.out _).mono ?_); rintro e w1 ⟨rfl, hb1⟩; obtain ⟨osF, dF, rfl⟩ := ext_of_below hb1; clear hb1))
    | go_in)
  rw [rounds_succ]
  go_wp2_with (first
    | (go_at_call 47; ((with_reducible refine (HF.out _).mono ?_); rintro e w1 ⟨rfl, hb1⟩; obtain ⟨osF, dF, rfl⟩ := ext_of_below hb1; clear hb1))
    | go_in)
  go_region
  go_wp2_with (first
    | (go_at_call 47; ((with_reducible refine (HF.out _).mono ?_); rintro e w1 ⟨rfl, hb1⟩; obtain ⟨osF, dF, rfl⟩ := ext_of_below hb1; clear hb1))
    | go_in)
  rw [rounds_succ]
  go_wp2_with (first
    | (go_at_call 47; ((with_reducible refine (HF.out _).mono ?_); rintro e w1 ⟨rfl, hb1⟩; obtain ⟨osF, dF, rfl⟩ := ext_of_below hb1; clear hb1))
    | go_in)
  go_returns
  exact ⟨rfl, by (repeat' (first | (with_reducible exact Below.refl _ _) | (with_reducible assumption) | (with_reducible refine Below.alloc ?_ ?_ _) | (with_reducible refine below_drewN ?_ _) | (with_reducible refine below_drew ?_) | (with_reducible refine below_ext ?_ ?_ _ _) | (with_reducible refine Below.setCell ?_ ?_ _) | (simp; done) | (simp; omega) | omega))⟩
/-- the node in memory, as it is handed in -/
abbrev ndC (op k : Int) (c : Nat) : NdD := ⟨op, k, ⟨#[]⟩, false, c, 0, 0⟩
set_option maxRecDepth 100000 in
set_option maxHeartbeats 4000000 in
theorem typeOf_leaf (op : Int) (ty : Ty) (c : Nat) (m : Option Nat) (v : Value) (w : World) (h : (op = 4 ∧ ty = (2, 0)) ∨ (op = 5 ∧ ty = (3, 0))) (hG : TyG w) :
    Calls Tryd.prog 48 #[.map m, NodV op 0 ⟨#[]⟩ false (hi c : Int) (lo c : Int) 0 0, v] w fun en w' => en = .returned (.tuple #[TyV ty, .int .i64 0]) ∧ Below w.heap.size w w' := by
  have HE := Lib.hid (show ∀ w, Calls Tryd.prog 69 #[.bool true, .int .i64 9] w fun en w' => en = .returned (.int .i64 0) ∧ w' = w from fun w => errorUnless_any true 9 w)
  have HT := Lib.hid (show ∀ w', Below w.heap.size w w' → Calls Tryd.prog 75 #[.int .i64 op] w' fun en w'' => en = .returned (TyV ty) ∧ Below w'.heap.size w' w'' from fun w' hb => by
    rcases h with ⟨rfl, rfl⟩ | ⟨rfl, rfl⟩
    · exact simpleType_num w' (hG.below hb)
    · exact simpleType_text w' (hG.below hb))
  have HS := Lib.hid (show ∀ v w', Calls Tryd.prog 76 #[.int .i64 op, v] w' fun en w'' => en = .returned (.bool true) ∧ w'' = w' from fun v w' => simple_leaf op (by omega) v w')
  obtain ⟨y1, y2⟩ := ty
  have q7 : (op == 7) = false := beq_eq_false_iff_ne.2 (by omega)
  have q25 : (op == 25) = false := beq_eq_false_iff_ne.2 (by omega)
  have q9 : (op == 9) = false := beq_eq_false_iff_ne.2 (by omega)
  have q21 : (op == 21) = false := beq_eq_false_iff_ne.2 (by omega)
  have q26 : (op == 26) = false := beq_eq_false_iff_ne.2 (by omega)
  generalize (hi c : Int) = a
  generalize (lo c : Int) = b
  clear h hG
  go_enter Tryd.func48, Tryd.ntmps48
  go_upto_region 14 with fail
  go_region_held3 (fun w' => w'.cell? ⟨w.heap.size, 0, none⟩ = some (.int .i64 op)) (simp [go_sem]) (first
    | (go_at_call 75; ((with_reducible refine (HT.out _ (by (repeat' (first | (with_reducible exact Below.refl _ _) | (with_reducible assumption) | (with_reducible refine Below.alloc ?_ ?_ _) | (with_reducible refine below_drewN ?_ _) | (with_reducible refine below_drew ?_) | (with_reducible refine below_ext ?_ ?_ _ _) | (with_reducible refine Below.setCell ?_ ?_ _) | (simp; done) | (simp; omega) | omega)))).mono ?_); rintro e w1 ⟨rfl, hb1⟩; obtain ⟨osA, dA, rfl⟩ := ext_of_below hb1; clear hb1))
    | (go_at_call 76; ((with_reducible refine (HS.out _ _).mono ?_); rintro e w' ⟨rfl, rfl⟩))
    | (go_at_call 69; ((with_reducible refine (HE.out _).mono ?_); rintro e w' ⟨rfl, rfl⟩)))
  go_wp2
  go_returns
  exact ⟨rfl, by (repeat' (first | (with_reducible exact Below.refl _ _) | (with_reducible assumption) | (with_reducible refine Below.alloc ?_ ?_ _) | (with_reducible refine below_drewN ?_ _) | (with_reducible refine below_drew ?_) | (with_reducible refine below_ext ?_ ?_ _ _) | (with_reducible refine Below.setCell ?_ ?_ _) | (simp; done) | (simp; omega) | omega))⟩
set_option maxRecDepth 100000 in
set_option maxHeartbeats 4000000 in
theorem typeOf_add (k : Int) (m : Option Nat) (g o c : Nat) (w : World) (hg : g < w.heap.size) (c0 : w.cell? ⟨g, o, none⟩ = some (.int .i64 2)) (c1 : w.cell? ⟨g, o + 1, none⟩ = some (.int .i64 0)) (c2 : w.cell? ⟨g, o + 2, none⟩ = some (.int .i64 3)) (c3 : w.cell? ⟨g, o + 2 + 1, none⟩ = some (.int .i64 0)) (hG : TyG w) :
    Calls Tryd.prog 48 #[.map m, NodV 9 k ⟨#[]⟩ false 0 0 0 0, .slice (some ⟨g, o, none⟩) 2 c] w fun en w' => en = .returned (.tuple #[TyV (0, 0), .int .i64 9]) ∧ Below w.heap.size w w' := by
  have HS := Lib.hid (show ∀ w', Below w.heap.size w w' → Calls Tryd.prog 71 #[.agg #[.int .i64 2, .int .i64 0], .agg #[.int .i64 3, .int .i64 0]] w' fun en w'' => en = .returned (.tuple #[.agg #[.int .i64 0, .int .i64 0], .int .i64 9]) ∧ Below w'.heap.size w' w'' from fun w' hb => sumOf_nt w' (hG.below hb))
  have HK := Lib.hid (show ∀ w', Below w.heap.size w w' → w'.cell? ⟨g, o, none⟩ = some (.int .i64 2) ∧ w'.cell? ⟨g, o + 1, none⟩ = some (.int .i64 0) ∧ w'.cell? ⟨g, o + 2, none⟩ = some (.int .i64 3) ∧ w'.cell? ⟨g, o + 2 + 1, none⟩ = some (.int .i64 0) from fun w' hb => ⟨(hb.cell (p := ⟨g, _, none⟩) hg).trans c0, (hb.cell (p := ⟨g, _, none⟩) hg).trans c1, (hb.cell (p := ⟨g, _, none⟩) hg).trans c2, (hb.cell (p := ⟨g, _, none⟩) hg).trans c3⟩)
  clear hG c0 c1 c2 c3
  go_enter Tryd.func48, Tryd.ntmps48
  go_upto_region 8 with fail
  go_region_held3 (fun w' => w'.cell? ⟨g, o, none⟩ = some (.int .i64 2) ∧ w'.cell? ⟨g, o + 1, none⟩ = some (.int .i64 0) ∧ w'.cell? ⟨g, o + 2, none⟩ = some (.int .i64 3) ∧ w'.cell? ⟨g, o + 2 + 1, none⟩ = some (.int .i64 0)) (exact HK.out _ (by (repeat' (first | (with_reducible exact Below.refl _ _) | (with_reducible assumption) | (with_reducible refine Below.alloc ?_ ?_ _) | (with_reducible refine below_drewN ?_ _) | (with_reducible refine below_drew ?_) | (with_reducible refine below_ext ?_ ?_ _ _) | (with_reducible refine Below.setCell ?_ ?_ _) | (simp; done) | (simp; omega) | omega)))) (first
    | (go_at_call 71; ((with_reducible refine (HS.out _ (by (repeat' (first | (with_reducible exact Below.refl _ _) | (with_reducible assumption) | (with_reducible refine Below.alloc ?_ ?_ _) | (with_reducible refine below_drewN ?_ _) | (with_reducible refine below_drew ?_) | (with_reducible refine below_ext ?_ ?_ _ _) | (with_reducible refine Below.setCell ?_ ?_ _) | (simp; done) | (simp; omega) | omega)))).mono ?_); rintro e w1 ⟨rfl, hb1⟩; obtain ⟨osA, dA, rfl⟩ := ext_of_below hb1; clear hb1)))
  all_goals
    go_wp2
    go_returns
    exact ⟨rfl, by (repeat' (first | (with_reducible exact Below.refl _ _) | (with_reducible assumption) | (with_reducible refine Below.alloc ?_ ?_ _) | (with_reducible refine below_drewN ?_ _) | (with_reducible refine below_drew ?_) | (with_reducible refine below_ext ?_ ?_ _ _) | (with_reducible refine Below.setCell ?_ ?_ _) | (simp; done) | (simp; omega) | omega))⟩
set_option maxRecDepth 100000 in
set_option maxHeartbeats 4000000 in
theorem typeOf_list (k : Int) (m : Option Nat) (g o c : Nat) (w : World) (hg : g < w.heap.size) (c0 : w.cell? ⟨g, o, none⟩ = some (.int .i64 2)) (c1 : w.cell? ⟨g, o + 1, none⟩ = some (.int .i64 0)) (c2 : w.cell? ⟨g, o + 2, none⟩ = some (.int .i64 2)) (c3 : w.cell? ⟨g, o + 2 + 1, none⟩ = some (.int .i64 0)) :
    Calls Tryd.prog 48 #[.map m, NodV 26 k ⟨#[]⟩ false 0 0 0 0, .slice (some ⟨g, o, none⟩) 2 c] w fun en w' => en = .returned (.tuple #[TyV (5, 2), .int .i64 0]) ∧ Below w.heap.size w w' := by
  have HS := Lib.hid (show ∀ w', Below w.heap.size w w' → Calls Tryd.prog 74 #[.slice (some ⟨g, o, none⟩) 2 c] w' fun en w'' => en = .returned (.agg #[.int .i64 5, .int .i64 2]) ∧ Below w'.heap.size w' w'' from fun w' hb => listOf_nn g o c w' (Nat.lt_of_lt_of_le hg hb.size) ((hb.cell (p := ⟨g, _, none⟩) hg).trans c0) ((hb.cell (p := ⟨g, _, none⟩) hg).trans c1) ((hb.cell (p := ⟨g, _, none⟩) hg).trans c2) ((hb.cell (p := ⟨g, _, none⟩) hg).trans c3))
  clear c0 c1 c2 c3
  go_enter Tryd.func48, Tryd.ntmps48
  go_wp2_with (first
    | (go_at_call 74; ((with_reducible refine (HS.out _ (by (repeat' (first | (with_reducible exact Below.refl _ _) | (with_reducible assumption) | (with_reducible refine Below.alloc ?_ ?_ _) | (with_reducible refine below_drewN ?_ _) | (with_reducible refine below_drew ?_) | (with_reducible refine below_ext ?_ ?_ _ _) | (with_reducible refine Below.setCell ?_ ?_ _) | (simp; done) | (simp; omega) | omega)))).mono ?_); rintro e w1 ⟨rfl, hb1⟩; obtain ⟨osA, dA, rfl⟩ := ext_of_below hb1; clear hb1)))
  go_returns
  exact ⟨rfl, by (repeat' (first | (with_reducible exact Below.refl _ _) | (with_reducible assumption) | (with_reducible refine Below.alloc ?_ ?_ _) | (with_reducible refine below_drewN ?_ _) | (with_reducible refine below_drew ?_) | (with_reducible refine below_ext ?_ ?_ _ _) | (with_reducible refine Below.setCell ?_ ?_ _) | (simp; done) | (simp; omega) | omega))⟩
end Go.Proofs.YtjkallelniggpaaDoor
