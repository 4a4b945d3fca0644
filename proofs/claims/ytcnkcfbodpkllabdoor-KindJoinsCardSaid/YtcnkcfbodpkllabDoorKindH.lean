/-
  The program's and the document's answers on joins and on what lies under what, side by side.
-/
import Derived.Test.YtcnkcfbodpkllabDoorKindG
namespace Go.Proofs.YtcnkcfbodpkllabDoor
open Go.RowKit
attribute [local go_sem] setCell_drewN cell?_ext frozen?_ext shape?_ext setCell_ext lt_1' ne_1' en_1' le_1' lt_2' ne_2' en_2' le_2' lt_3' ne_3' en_3' le_3' lt_4' ne_4' en_4' le_4' lt_5' ne_5' en_5' le_5' lt_6' ne_6' en_6' le_6' lt_7' ne_7' en_7' le_7' lt_8' ne_8' en_8' le_8' lt_9' ne_9' en_9' le_9' lt_10' ne_10' en_10' le_10' lt_11' ne_11' en_11' le_11' lt_12' ne_12' en_12' le_12'

theorem T00 : (Value.agg #[.int .i64 0, .int .i64 0]) = T 0 0 := rfl
theorem docJoin_ok (k1 o1 k2 o2 : Int) (fa : tform k1 o1 = true) (fb : tform k2 o2 = true) (w : World) :
    Calls Tryd.prog 14 #[T k1 o1, T k2 o2] w fun e w' => e = .returned (.tuple #[T (joinK k1 o1 k2 o2) (joinO k1 o1 k2 o2), .int .i64 0]) ∧ Below w.heap.size w w' := by
  have F1 := Lib.hid (fun w => rform_yes fa w)
  have F2 := Lib.hid (fun w => rform_yes fb w)
  have h3 := fun w => rJoin_any k1 o1 k2 o2 fa fb w
  obtain ⟨jk, hk⟩ : ∃ x, x = joinK k1 o1 k2 o2 := ⟨_, rfl⟩
  obtain ⟨jo, ho⟩ : ∃ x, x = joinO k1 o1 k2 o2 := ⟨_, rfl⟩
  rw [← hk, ← ho] at h3 ⊢
  have H3 := Lib.hid h3
  clear fa fb h3 hk ho
  go_enter Tryd.func14, Tryd.ntmps14
  go_wp2_with (first
    | (go_at_call 7; ((with_reducible refine (F1.out _).mono ?_); rintro e w1 ⟨rfl, hb1⟩; obtain ⟨osA, dA, rfl⟩ := ext_of_below hb1; clear hb1))
    | (go_at_call 7; ((with_reducible refine (F2.out _).mono ?_); rintro e w1 ⟨rfl, hb1⟩; obtain ⟨osB, dB, rfl⟩ := ext_of_below hb1; clear hb1))
    | (go_at_call 22; ((with_reducible refine (H3.out _).mono ?_); rintro e w1 ⟨rfl, hb1⟩; obtain ⟨osC, dC, rfl⟩ := ext_of_below hb1; clear hb1)))
  go_returns
  exact ⟨rfl, by (repeat' (first | (with_reducible exact Below.refl _ _) | (with_reducible assumption) | (with_reducible refine Below.alloc ?_ ?_ _) | (with_reducible refine below_drewN ?_ _) | (with_reducible refine below_drew ?_) | (with_reducible refine below_ext ?_ ?_ _ _) | (with_reducible refine Below.setCell ?_ ?_ _) | (simp; done) | (simp; omega) | omega))⟩
theorem docJoin_bad1 (k1 o1 k2 o2 : Int) (fa : tform k1 o1 = false) (w : World) :
    Calls Tryd.prog 14 #[T k1 o1, T k2 o2] w fun e w' => e = .returned (.tuple #[T 0 0, .int .i64 2]) ∧ Below w.heap.size w w' := by
  have F1 := Lib.hid (fun w => rform_no fa w)
  clear fa
  go_enter Tryd.func14, Tryd.ntmps14
  go_wp2_with (first
    | (go_at_call 7; ((with_reducible refine (F1.out _).mono ?_); rintro e w1 ⟨rfl, hb1⟩; obtain ⟨osA, dA, rfl⟩ := ext_of_below hb1; clear hb1)))
  go_returns
  exact ⟨rfl, by (repeat' (first | (with_reducible exact Below.refl _ _) | (with_reducible assumption) | (with_reducible refine Below.alloc ?_ ?_ _) | (with_reducible refine below_drewN ?_ _) | (with_reducible refine below_drew ?_) | (with_reducible refine below_ext ?_ ?_ _ _) | (with_reducible refine Below.setCell ?_ ?_ _) | (simp; done) | (simp; omega) | omega))⟩
theorem docJoin_bad2 (k1 o1 k2 o2 : Int) (fa : tform k1 o1 = true) (fb : tform k2 o2 = false) (w : World) :
    Calls Tryd.prog 14 #[T k1 o1, T k2 o2] w fun e w' => e = .returned (.tuple #[T 0 0, .int .i64 2]) ∧ Below w.heap.size w w' := by
  have F1 := Lib.hid (fun w => rform_yes fa w)
  have F2 := Lib.hid (fun w => rform_no fb w)
  clear fa fb
  go_enter Tryd.func14, Tryd.ntmps14
  go_wp2_with (first
    | (go_at_call 7; ((with_reducible refine (F1.out _).mono ?_); rintro e w1 ⟨rfl, hb1⟩; obtain ⟨osA, dA, rfl⟩ := ext_of_below hb1; clear hb1))
    | (go_at_call 7; ((with_reducible refine (F2.out _).mono ?_); rintro e w1 ⟨rfl, hb1⟩; obtain ⟨osB, dB, rfl⟩ := ext_of_below hb1; clear hb1)))
  go_returns
  exact ⟨rfl, by (repeat' (first | (with_reducible exact Below.refl _ _) | (with_reducible assumption) | (with_reducible refine Below.alloc ?_ ?_ _) | (with_reducible refine below_drewN ?_ _) | (with_reducible refine below_drew ?_) | (with_reducible refine below_ext ?_ ?_ _ _) | (with_reducible refine Below.setCell ?_ ?_ _) | (simp; done) | (simp; omega) | omega))⟩
theorem kJoin_bad1 (k1 o1 k2 o2 : Int) (fa : tform k1 o1 = false) (w : World) :
    Calls Tryd.prog 15 #[T k1 o1, T k2 o2] w fun e w' => e = .returned (.tuple #[T 0 0, .int .i64 2]) ∧ Below w.heap.size w w' := by
  have F1 := Lib.hid (fun w => kform_no fa w)
  clear fa
  go_enter Tryd.func15, Tryd.ntmps15
  go_wp2_with (first
    | (go_at_call 6; ((with_reducible refine (F1.out _).mono ?_); rintro e w1 ⟨rfl, hb1⟩; obtain ⟨osA, dA, rfl⟩ := ext_of_below hb1; clear hb1)))
  go_returns
  exact ⟨rfl, by (repeat' (first | (with_reducible exact Below.refl _ _) | (with_reducible assumption) | (with_reducible refine Below.alloc ?_ ?_ _) | (with_reducible refine below_drewN ?_ _) | (with_reducible refine below_drew ?_) | (with_reducible refine below_ext ?_ ?_ _ _) | (with_reducible refine Below.setCell ?_ ?_ _) | (simp; done) | (simp; omega) | omega))⟩
theorem kJoin_bad2 (k1 o1 k2 o2 : Int) (fa : tform k1 o1 = true) (fb : tform k2 o2 = false) (w : World) :
    Calls Tryd.prog 15 #[T k1 o1, T k2 o2] w fun e w' => e = .returned (.tuple #[T 0 0, .int .i64 2]) ∧ Below w.heap.size w w' := by
  have F1 := Lib.hid (fun w => kform_yes fa w)
  have F2 := Lib.hid (fun w => kform_no fb w)
  clear fa fb
  go_enter Tryd.func15, Tryd.ntmps15
  go_wp2_with (first
    | (go_at_call 6; ((with_reducible refine (F1.out _).mono ?_); rintro e w1 ⟨rfl, hb1⟩; obtain ⟨osA, dA, rfl⟩ := ext_of_below hb1; clear hb1))
    | (go_at_call 6; ((with_reducible refine (F2.out _).mono ?_); rintro e w1 ⟨rfl, hb1⟩; obtain ⟨osB, dB, rfl⟩ := ext_of_below hb1; clear hb1)))
  go_returns
  exact ⟨rfl, by (repeat' (first | (with_reducible exact Below.refl _ _) | (with_reducible assumption) | (with_reducible refine Below.alloc ?_ ?_ _) | (with_reducible refine below_drewN ?_ _) | (with_reducible refine below_drew ?_) | (with_reducible refine below_ext ?_ ?_ _ _) | (with_reducible refine Below.setCell ?_ ?_ _) | (simp; done) | (simp; omega) | omega))⟩
theorem underPair (k1 o1 k2 o2 : Int) : ∃ (u : Bool) (e0 : Int),
    (∀ w, Calls Tryd.prog 13 #[T k1 o1, T k2 o2] w fun e w' => e = .returned (.tuple #[.bool u, .int .i64 e0]) ∧ Below w.heap.size w w') ∧
    (∀ w, Calls Tryd.prog 12 #[T k1 o1, T k2 o2] w fun e w' => e = .returned (.tuple #[.bool u, .int .i64 e0]) ∧ Below w.heap.size w w') := by
  cases fa : tform k1 o1 with
  | false => exact ⟨false, 2, fun w => kUnder_bad1 k1 o1 k2 o2 fa w, fun w => docUnder_bad1 k1 o1 k2 o2 fa w⟩
  | true =>
    cases fb : tform k2 o2 with
    | false => exact ⟨false, 2, fun w => kUnder_bad2 k1 o1 k2 o2 fa fb w, fun w => docUnder_bad2 k1 o1 k2 o2 fa fb w⟩
    | true => exact ⟨_, 0, fun w => kUnder_ok k1 o1 k2 o2 fa fb w, fun w => docUnder_ok k1 o1 k2 o2 fa fb w⟩
theorem joinPair (k1 o1 k2 o2 : Int) : ∃ k o e0 : Int,
    (∀ w, Calls Tryd.prog 15 #[T k1 o1, T k2 o2] w fun e w' => e = .returned (.tuple #[T k o, .int .i64 e0]) ∧ Below w.heap.size w w') ∧
    (∀ w, Calls Tryd.prog 14 #[T k1 o1, T k2 o2] w fun e w' => e = .returned (.tuple #[T k o, .int .i64 e0]) ∧ Below w.heap.size w w') := by
  cases fa : tform k1 o1 with
  | false => exact ⟨0, 0, 2, fun w => kJoin_bad1 k1 o1 k2 o2 fa w, fun w => docJoin_bad1 k1 o1 k2 o2 fa w⟩
  | true =>
    cases fb : tform k2 o2 with
    | false => exact ⟨0, 0, 2, fun w => kJoin_bad2 k1 o1 k2 o2 fa fb w, fun w => docJoin_bad2 k1 o1 k2 o2 fa fb w⟩
    | true => exact ⟨_, _, 0, fun w => kJoin_ok k1 o1 k2 o2 fa fb w, fun w => docJoin_ok k1 o1 k2 o2 fa fb w⟩
theorem kindJoins_core (k1 o1 k2 o2 : Int) (hk : ∀ w, Calls Tryd.prog 5 #[] w fun e w' => e = .returned (.bool true) ∧ Below w.heap.size w w') (w : World) :
    Calls Tryd.prog 4 #[T k1 o1, T k2 o2] w fun e w' => e = .returned (.bool true) ∧ Below w.heap.size w w' := by
  obtain ⟨u, e1, a1, a2⟩ := underPair k1 o1 k2 o2
  obtain ⟨k, o, e2, b1, b2⟩ := joinPair k1 o1 k2 o2
  have HK := Lib.hid hk; have A1 := Lib.hid a1; have A2 := Lib.hid a2; have B1 := Lib.hid b1; have B2 := Lib.hid b2
  clear hk a1 a2 b1 b2
  go_enter Tryd.func4, Tryd.ntmps4
  go_wp2_with (first
    | (go_at_call 5; ((with_reducible refine (HK.out _).mono ?_); rintro e w1 ⟨rfl, hb1⟩; obtain ⟨osA, dA, rfl⟩ := ext_of_below hb1; clear hb1))
    | (go_at_call 12; ((with_reducible refine (A2.out _).mono ?_); rintro e w1 ⟨rfl, hb1⟩; obtain ⟨osB, dB, rfl⟩ := ext_of_below hb1; clear hb1))
    | (go_at_call 13; ((with_reducible refine (A1.out _).mono ?_); rintro e w1 ⟨rfl, hb1⟩; obtain ⟨osC, dC, rfl⟩ := ext_of_below hb1; clear hb1))
    | (go_at_call 14; ((with_reducible refine (B2.out _).mono ?_); rintro e w1 ⟨rfl, hb1⟩; obtain ⟨osD, dD, rfl⟩ := ext_of_below hb1; clear hb1))
    | (go_at_call 15; ((with_reducible refine (B1.out _).mono ?_); rintro e w1 ⟨rfl, hb1⟩; obtain ⟨osE, dE, rfl⟩ := ext_of_below hb1; clear hb1)))
  go_ret
  exact ⟨rfl, by (repeat' (first | (with_reducible exact Below.refl _ _) | (with_reducible assumption) | (with_reducible refine Below.alloc ?_ ?_ _) | (with_reducible refine below_drewN ?_ _) | (with_reducible refine below_drew ?_) | (with_reducible refine below_ext ?_ ?_ _ _) | (with_reducible refine Below.setCell ?_ ?_ _) | (simp; done) | (simp; omega) | omega))⟩
end Go.Proofs.YtcnkcfbodpkllabDoor
