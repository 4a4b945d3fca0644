/-
  The document's answers on what lies under what.
-/
import Derived.Test.YtcnkcfbodpkllabDoorKindE
namespace Go.Proofs.YtcnkcfbodpkllabDoor
open Go.RowKit
attribute [local go_sem] setCell_drewN cell?_ext frozen?_ext shape?_ext setCell_ext lt_1' ne_1' en_1' le_1' lt_2' ne_2' en_2' le_2' lt_3' ne_3' en_3' le_3' lt_4' ne_4' en_4' le_4' lt_5' ne_5' en_5' le_5' lt_6' ne_6' en_6' le_6' lt_7' ne_7' en_7' le_7' lt_8' ne_8' en_8' le_8' lt_9' ne_9' en_9' le_9' lt_10' ne_10' en_10' le_10' lt_11' ne_11' en_11' le_11' lt_12' ne_12' en_12' le_12'

theorem rform_yes {k o : Int} (h : tform k o = true) (w : World) : Calls Tryd.prog 7 #[T k o] w fun e w' => e = .returned (.bool true) ∧ Below w.heap.size w w' := by
  have := rform_any k o w
  rwa [h] at this
theorem rform_no {k o : Int} (h : tform k o = false) (w : World) : Calls Tryd.prog 7 #[T k o] w fun e w' => e = .returned (.bool false) ∧ Below w.heap.size w w' := by
  have := rform_any k o w
  rwa [h] at this
theorem docUnder_ok (k1 o1 k2 o2 : Int) (fa : tform k1 o1 = true) (fb : tform k2 o2 = true) (w : World) :
    Calls Tryd.prog 12 #[T k1 o1, T k2 o2] w fun e w' => e = .returned (.tuple #[.bool (unB k1 o1 k2 o2), .int .i64 0]) ∧ Below w.heap.size w w' := by
  have F1 := Lib.hid (fun w => rform_yes fa w)
  have F2 := Lib.hid (fun w => rform_yes fb w)
  have h3 := fun w => rUnder_any k1 o1 k2 o2 fa fb w
  obtain ⟨u, hu⟩ : ∃ u, u = unB k1 o1 k2 o2 := ⟨_, rfl⟩
  rw [← hu] at h3 ⊢
  have H3 := Lib.hid h3
  clear fa fb h3 hu
  go_enter Tryd.func12, Tryd.ntmps12
  go_wp2_with (first
    | (go_at_call 7; ((with_reducible refine (F1.out _).mono ?_); rintro e w1 ⟨rfl, hb1⟩; obtain ⟨osA, dA, rfl⟩ := ext_of_below hb1; clear hb1))
    | (go_at_call 7; ((with_reducible refine (F2.out _).mono ?_); rintro e w1 ⟨rfl, hb1⟩; obtain ⟨osB, dB, rfl⟩ := ext_of_below hb1; clear hb1))
    | (go_at_call 20; ((with_reducible refine (H3.out _).mono ?_); rintro e w1 ⟨rfl, hb1⟩; obtain ⟨osC, dC, rfl⟩ := ext_of_below hb1; clear hb1)))
  go_returns
  exact ⟨rfl, by (repeat' (first | (with_reducible exact Below.refl _ _) | (with_reducible assumption) | (with_reducible refine Below.alloc ?_ ?_ _) | (with_reducible refine below_drewN ?_ _) | (with_reducible refine below_drew ?_) | (with_reducible refine below_ext ?_ ?_ _ _) | (with_reducible refine Below.setCell ?_ ?_ _) | (simp; done) | (simp; omega) | omega))⟩
theorem docUnder_bad1 (k1 o1 k2 o2 : Int) (fa : tform k1 o1 = false) (w : World) :
    Calls Tryd.prog 12 #[T k1 o1, T k2 o2] w fun e w' => e = .returned (.tuple #[.bool false, .int .i64 2]) ∧ Below w.heap.size w w' := by
  have F1 := Lib.hid (fun w => rform_no fa w)
  clear fa
  go_enter Tryd.func12, Tryd.ntmps12
  go_wp2_with (first
    | (go_at_call 7; ((with_reducible refine (F1.out _).mono ?_); rintro e w1 ⟨rfl, hb1⟩; obtain ⟨osA, dA, rfl⟩ := ext_of_below hb1; clear hb1)))
  go_returns
  exact ⟨rfl, by (repeat' (first | (with_reducible exact Below.refl _ _) | (with_reducible assumption) | (with_reducible refine Below.alloc ?_ ?_ _) | (with_reducible refine below_drewN ?_ _) | (with_reducible refine below_drew ?_) | (with_reducible refine below_ext ?_ ?_ _ _) | (with_reducible refine Below.setCell ?_ ?_ _) | (simp; done) | (simp; omega) | omega))⟩
theorem docUnder_bad2 (k1 o1 k2 o2 : Int) (fa : tform k1 o1 = true) (fb : tform k2 o2 = false) (w : World) :
    Calls Tryd.prog 12 #[T k1 o1, T k2 o2] w fun e w' => e = .returned (.tuple #[.bool false, .int .i64 2]) ∧ Below w.heap.size w w' := by
  have F1 := Lib.hid (fun w => rform_yes fa w)
  have F2 := Lib.hid (fun w => rform_no fb w)
  clear fa fb
  go_enter Tryd.func12, Tryd.ntmps12
  go_wp2_with (first
    | (go_at_call 7; ((with_reducible refine (F1.out _).mono ?_); rintro e w1 ⟨rfl, hb1⟩; obtain ⟨osA, dA, rfl⟩ := ext_of_below hb1; clear hb1))
    | (go_at_call 7; ((with_reducible refine (F2.out _).mono ?_); rintro e w1 ⟨rfl, hb1⟩; obtain ⟨osB, dB, rfl⟩ := ext_of_below hb1; clear hb1)))
  go_returns
  exact ⟨rfl, by (repeat' (first | (with_reducible exact Below.refl _ _) | (with_reducible assumption) | (with_reducible refine Below.alloc ?_ ?_ _) | (with_reducible refine below_drewN ?_ _) | (with_reducible refine below_drew ?_) | (with_reducible refine below_ext ?_ ?_ _ _) | (with_reducible refine Below.setCell ?_ ?_ _) | (simp; done) | (simp; omega) | omega))⟩
end Go.Proofs.YtcnkcfbodpkllabDoor
