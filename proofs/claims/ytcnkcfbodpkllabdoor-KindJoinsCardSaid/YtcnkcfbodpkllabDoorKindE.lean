/-
  Contracts of the document's kinds: what lies under what; DocUnder; the join.
-/
import Derived.Test.YtcnkcfbodpkllabDoorKindD
namespace Go.Proofs.YtcnkcfbodpkllabDoor
open Go.RowKit
attribute [local go_sem] setCell_drewN cell?_ext frozen?_ext shape?_ext setCell_ext lt_1' ne_1' en_1' le_1' lt_2' ne_2' en_2' le_2' lt_3' ne_3' en_3' le_3' lt_4' ne_4' en_4' le_4' lt_5' ne_5' en_5' le_5' lt_6' ne_6' en_6' le_6' lt_7' ne_7' en_7' le_7' lt_8' ne_8' en_8' le_8' lt_9' ne_9' en_9' le_9' lt_10' ne_10' en_10' le_10' lt_11' ne_11' en_11' le_11' lt_12' ne_12' en_12' le_12'

theorem tform_ten {k o : Int} (h : tform k o = true) : (k = 0 ∧ o = 0) ∨ (k = 1 ∧ o = 0) ∨ (k = 2 ∧ o = 0) ∨ (k = 3 ∧ o = 0) ∨ (k = 4 ∧ o = 0) ∨ (k = 5 ∧ o = 0) ∨ (k = 5 ∧ o = 1) ∨ (k = 5 ∧ o = 2) ∨ (k = 5 ∧ o = 3) ∨ (k = 5 ∧ o = 4) := by
  unfold tform at h
  by_cases h5 : k = 5
  · rw [if_pos h5] at h
    obtain ⟨a, b⟩ := (Bool.and_eq_true _ _).mp h
    have a := of_decide_eq_true a
    have b := of_decide_eq_true b
    omega
  · rw [if_neg h5] at h
    obtain ⟨a, b⟩ := (Bool.and_eq_true _ _).mp h
    obtain ⟨b, c⟩ := (Bool.and_eq_true _ _).mp b
    have a := of_decide_eq_true a
    have b := of_decide_eq_true b
    have c := of_decide_eq_true c
    omega
theorem rUnder_nil (k1 o1 k day k2 o2 : Int) (u : Bool) (hk : (k == 0) = false) (hu : u = ((k2 == 0) || (k == k2))) (hs : ∀ w, Calls Tryd.prog 24 #[T k1 o1] w fun e w' => e = .returned (SV k day (.slice none 0 0)) ∧ Below w.heap.size w w') (w : World) :
    Calls Tryd.prog 20 #[T k1 o1, T k2 o2] w fun e w' => e = .returned (.bool u) ∧ Below w.heap.size w w' := by
  have h2 := fun w => fits_nil k day k2 o2 hk w
  rw [← hu] at h2
  have H1 := Lib.hid hs; have H2 := Lib.hid h2
  clear hs h2 hu hk
  go_enter Tryd.func20, Tryd.ntmps20
  go_wp2_with fail
  go_region_held3 (fun w' => w'.cell? ⟨w.heap.size, 0, none⟩ = some (.int .i64 k1) ∧ w'.cell? ⟨w.heap.size, 1, none⟩ = some (.int .i64 o1) ∧ w'.cell? ⟨w.heap.size + 1, 0, none⟩ = some (.int .i64 k2) ∧ w'.cell? ⟨w.heap.size + 1, 1, none⟩ = some (.int .i64 o2)) (first | (simp [go_sem]; done) | go_keep) (first
    | (go_at_call 24; ((with_reducible refine (H1.out _).mono ?_); rintro e w1 ⟨rfl, hb1⟩; obtain ⟨osA, dA, rfl⟩ := ext_of_below hb1; clear hb1))
    | (go_at_call 23; ((with_reducible refine (H2.out _).mono ?_); rintro e w1 ⟨rfl, hb1⟩; obtain ⟨osB, dB, rfl⟩ := ext_of_below hb1; clear hb1)))
  all_goals
    go_wp2
    go_ret
    exact ⟨rfl, by (repeat' (first | (with_reducible exact Below.refl _ _) | (with_reducible assumption) | (with_reducible refine Below.alloc ?_ ?_ _) | (with_reducible refine below_drewN ?_ _) | (with_reducible refine below_drew ?_) | (with_reducible refine below_ext ?_ ?_ _ _) | (with_reducible refine Below.setCell ?_ ?_ _) | (simp; done) | (simp; omega) | omega))⟩
theorem rUnder_one (o1 ek k2 o2 : Int) (u : Bool) (he : (ek == 0) = false) (hu : u = ((k2 == 0) || ((5 == k2) && ((o2 == 0) || (ek == o2))))) (hs : ∀ w, Calls Tryd.prog 24 #[T 5 o1] w fun e w' => ∃ g, e = .returned (SV 5 0 (.slice (some ⟨g, 0, none⟩) 1 1)) ∧ w'.cell? ⟨g, 0, none⟩ = some (.int .i64 ek) ∧ g < w'.heap.size ∧ Below w.heap.size w w') (w : World) :
    Calls Tryd.prog 20 #[T 5 o1, T k2 o2] w fun e w' => e = .returned (.bool u) ∧ Below w.heap.size w w' := by
  have h2 := fun g w hg hc => fits_one g ek k2 o2 he w hg hc
  rw [← hu] at h2
  have H1 := Lib.hid hs; have H2 := Lib.hid h2
  clear hs h2 hu he
  go_enter Tryd.func20, Tryd.ntmps20
  go_wp2_with fail
  go_region_held3 (fun w' => w'.cell? ⟨w.heap.size, 0, none⟩ = some (.int .i64 5) ∧ w'.cell? ⟨w.heap.size, 1, none⟩ = some (.int .i64 o1) ∧ w'.cell? ⟨w.heap.size + 1, 0, none⟩ = some (.int .i64 k2) ∧ w'.cell? ⟨w.heap.size + 1, 1, none⟩ = some (.int .i64 o2)) (first | (simp [go_sem]; done) | go_keep) (first
    | (go_at_call 24; ((with_reducible refine (H1.out _).mono ?_); rintro e w1 ⟨g, rfl, c1, l1, b1⟩; obtain ⟨os1, d1, rfl⟩ := ext_of_below b1; clear b1))
    | (go_at_call 23; ((with_reducible refine (H2.out _ _ l1 c1).mono ?_); rintro e w2 ⟨rfl, b2⟩; obtain ⟨os2, d2, rfl⟩ := ext_of_below b2; clear b2)))
  all_goals
    go_wp2
    go_ret
    exact ⟨rfl, by (repeat' (first | (with_reducible exact Below.refl _ _) | (with_reducible assumption) | (with_reducible refine Below.alloc ?_ ?_ _) | (with_reducible refine below_drewN ?_ _) | (with_reducible refine below_drew ?_) | (with_reducible refine below_ext ?_ ?_ _ _) | (with_reducible refine Below.setCell ?_ ?_ _) | (simp; done) | (simp; omega) | omega))⟩
theorem rUnder_any (k1 o1 k2 o2 : Int) (fa : tform k1 o1 = true) (fb : tform k2 o2 = true) (w : World) :
    Calls Tryd.prog 20 #[T k1 o1, T k2 o2] w fun e w' => e = .returned (.bool (unB k1 o1 k2 o2)) ∧ Below w.heap.size w w' := by
  have hb := tform_ten fb
  rcases tform_ten fa with ⟨rfl, rfl⟩ | ⟨rfl, rfl⟩ | ⟨rfl, rfl⟩ | ⟨rfl, rfl⟩ | ⟨rfl, rfl⟩ | ⟨rfl, rfl⟩ | ⟨rfl, rfl⟩ | ⟨rfl, rfl⟩ | ⟨rfl, rfl⟩ | ⟨rfl, rfl⟩
  · exact rUnder_nil 0 0 6 0 k2 o2 _ rfl (by rcases hb with ⟨rfl, rfl⟩ | ⟨rfl, rfl⟩ | ⟨rfl, rfl⟩ | ⟨rfl, rfl⟩ | ⟨rfl, rfl⟩ | ⟨rfl, rfl⟩ | ⟨rfl, rfl⟩ | ⟨rfl, rfl⟩ | ⟨rfl, rfl⟩ | ⟨rfl, rfl⟩ <;> rfl) (fun w => sample_any0 w) w
  · exact rUnder_nil 1 0 1 0 k2 o2 _ rfl (by rcases hb with ⟨rfl, rfl⟩ | ⟨rfl, rfl⟩ | ⟨rfl, rfl⟩ | ⟨rfl, rfl⟩ | ⟨rfl, rfl⟩ | ⟨rfl, rfl⟩ | ⟨rfl, rfl⟩ | ⟨rfl, rfl⟩ | ⟨rfl, rfl⟩ | ⟨rfl, rfl⟩ <;> rfl) (fun w => sample_plain 1 0 (by omega) w) w
  · exact rUnder_nil 2 0 2 0 k2 o2 _ rfl (by rcases hb with ⟨rfl, rfl⟩ | ⟨rfl, rfl⟩ | ⟨rfl, rfl⟩ | ⟨rfl, rfl⟩ | ⟨rfl, rfl⟩ | ⟨rfl, rfl⟩ | ⟨rfl, rfl⟩ | ⟨rfl, rfl⟩ | ⟨rfl, rfl⟩ | ⟨rfl, rfl⟩ <;> rfl) (fun w => sample_plain 2 0 (by omega) w) w
  · exact rUnder_nil 3 0 3 0 k2 o2 _ rfl (by rcases hb with ⟨rfl, rfl⟩ | ⟨rfl, rfl⟩ | ⟨rfl, rfl⟩ | ⟨rfl, rfl⟩ | ⟨rfl, rfl⟩ | ⟨rfl, rfl⟩ | ⟨rfl, rfl⟩ | ⟨rfl, rfl⟩ | ⟨rfl, rfl⟩ | ⟨rfl, rfl⟩ <;> rfl) (fun w => sample_plain 3 0 (by omega) w) w
  · exact rUnder_nil 4 0 4 1 k2 o2 _ rfl (by rcases hb with ⟨rfl, rfl⟩ | ⟨rfl, rfl⟩ | ⟨rfl, rfl⟩ | ⟨rfl, rfl⟩ | ⟨rfl, rfl⟩ | ⟨rfl, rfl⟩ | ⟨rfl, rfl⟩ | ⟨rfl, rfl⟩ | ⟨rfl, rfl⟩ | ⟨rfl, rfl⟩ <;> rfl) (fun w => sample_plain 4 1 (by omega) w) w
  · exact rUnder_one 0 5 k2 o2 _ rfl (by rcases hb with ⟨rfl, rfl⟩ | ⟨rfl, rfl⟩ | ⟨rfl, rfl⟩ | ⟨rfl, rfl⟩ | ⟨rfl, rfl⟩ | ⟨rfl, rfl⟩ | ⟨rfl, rfl⟩ | ⟨rfl, rfl⟩ | ⟨rfl, rfl⟩ | ⟨rfl, rfl⟩ <;> rfl) (fun w => sample_list0 w) w
  · exact rUnder_one 1 1 k2 o2 _ rfl (by rcases hb with ⟨rfl, rfl⟩ | ⟨rfl, rfl⟩ | ⟨rfl, rfl⟩ | ⟨rfl, rfl⟩ | ⟨rfl, rfl⟩ | ⟨rfl, rfl⟩ | ⟨rfl, rfl⟩ | ⟨rfl, rfl⟩ | ⟨rfl, rfl⟩ | ⟨rfl, rfl⟩ <;> rfl) (fun w => sample_list 1 0 (by omega) w) w
  · exact rUnder_one 2 2 k2 o2 _ rfl (by rcases hb with ⟨rfl, rfl⟩ | ⟨rfl, rfl⟩ | ⟨rfl, rfl⟩ | ⟨rfl, rfl⟩ | ⟨rfl, rfl⟩ | ⟨rfl, rfl⟩ | ⟨rfl, rfl⟩ | ⟨rfl, rfl⟩ | ⟨rfl, rfl⟩ | ⟨rfl, rfl⟩ <;> rfl) (fun w => sample_list 2 0 (by omega) w) w
  · exact rUnder_one 3 3 k2 o2 _ rfl (by rcases hb with ⟨rfl, rfl⟩ | ⟨rfl, rfl⟩ | ⟨rfl, rfl⟩ | ⟨rfl, rfl⟩ | ⟨rfl, rfl⟩ | ⟨rfl, rfl⟩ | ⟨rfl, rfl⟩ | ⟨rfl, rfl⟩ | ⟨rfl, rfl⟩ | ⟨rfl, rfl⟩ <;> rfl) (fun w => sample_list 3 0 (by omega) w) w
  · exact rUnder_one 4 4 k2 o2 _ rfl (by rcases hb with ⟨rfl, rfl⟩ | ⟨rfl, rfl⟩ | ⟨rfl, rfl⟩ | ⟨rfl, rfl⟩ | ⟨rfl, rfl⟩ | ⟨rfl, rfl⟩ | ⟨rfl, rfl⟩ | ⟨rfl, rfl⟩ | ⟨rfl, rfl⟩ | ⟨rfl, rfl⟩ <;> rfl) (fun w => sample_list 4 1 (by omega) w) w
end Go.Proofs.YtcnkcfbodpkllabDoor
