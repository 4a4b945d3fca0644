/-
  Contracts of package kind and of the document's kinds: form, what lies under what, the join.
  Contracts of package kind: Under, Join; the document's numbers and forms.
  Contracts of the document's kinds: forms, samples, what fits.
  Contracts of the document's kinds: what fits; what lies under what.
  Contracts of the document's kinds: what lies under what; DocUnder; the join.
  The document's answers on what lies under what.
  The document's join.
  The program's and the document's answers on joins and on what lies under what, side by side.
-/
import Derived.Test.YtalahkincccffaaGreatDoorExt
namespace Go.Proofs.YtalahkincccffaaGreatDoor
open Go.RowKit
attribute [local go_sem] setCell_drewN cell?_ext frozen?_ext shape?_ext setCell_ext lt_1' ne_1' en_1' le_1' lt_2' ne_2' en_2' le_2' lt_3' ne_3' en_3' le_3' lt_4' ne_4' en_4' le_4' lt_5' ne_5' en_5' le_5' lt_6' ne_6' en_6' le_6' lt_7' ne_7' en_7' le_7' lt_8' ne_8' en_8' le_8' lt_9' ne_9' en_9' le_9' lt_10' ne_10' en_10' le_10' lt_11' ne_11' en_11' le_11' lt_12' ne_12' en_12' le_12'

abbrev T (k o : Int) : Value := .agg #[.int .i64 k, .int .i64 o]
def tform (k o : Int) : Bool := if k = 5 then decide (0 ≤ o) && decide (o ≤ 4) else decide (0 ≤ k) && (decide (k ≤ 4) && decide (o = 0))
theorem kform_any (k o : Int) (w : World) :
    Calls Tryz.prog 16 #[T k o] w fun e w' => e = .returned (.bool (tform k o)) ∧ Below w.heap.size w w' := by
  unfold tform
  by_cases h5 : k = 5
  · subst h5
    rw [if_pos rfl]
    by_cases h1 : 0 ≤ o
    · rw [decide_eq_true h1]
      by_cases h2 : o ≤ 4
      · rw [decide_eq_true h2]
        go_enter Tryz.func16, Tryz.ntmps16
        go_wp2
        go_ret
        exact ⟨rfl, by (repeat' (first | (with_reducible first | exact Below.refl _ _ | assumption | refine Below.alloc ?_ ?_ _ | refine below_drewN ?_ _ | refine below_drew ?_ | refine below_ext ?_ ?_ _ _ | refine Below.setCell ?_ ?_ _) | (simp; done) | (simp; omega) | omega))⟩
      · rw [decide_eq_false h2]
        go_enter Tryz.func16, Tryz.ntmps16
        go_wp2
        go_ret
        exact ⟨rfl, by (repeat' (first | (with_reducible first | exact Below.refl _ _ | assumption | refine Below.alloc ?_ ?_ _ | refine below_drewN ?_ _ | refine below_drew ?_ | refine below_ext ?_ ?_ _ _ | refine Below.setCell ?_ ?_ _) | (simp; done) | (simp; omega) | omega))⟩
    · rw [decide_eq_false h1]
      go_enter Tryz.func16, Tryz.ntmps16
      go_wp2
      go_ret
      exact ⟨rfl, by (repeat' (first | (with_reducible first | exact Below.refl _ _ | assumption | refine Below.alloc ?_ ?_ _ | refine below_drewN ?_ _ | refine below_drew ?_ | refine below_ext ?_ ?_ _ _ | refine Below.setCell ?_ ?_ _) | (simp; done) | (simp; omega) | omega))⟩
  · rw [if_neg h5]
    have hb5 : (k == 5) = false := beq_eq_false_iff_ne.2 h5
    by_cases h1 : 0 ≤ k
    · rw [decide_eq_true h1]
      by_cases h2 : k ≤ 4
      · rw [decide_eq_true h2]
        by_cases h3 : o = 0
        · subst h3
          clear h5
          go_enter Tryz.func16, Tryz.ntmps16
          go_wp2
          go_ret
          exact ⟨rfl, by (repeat' (first | (with_reducible first | exact Below.refl _ _ | assumption | refine Below.alloc ?_ ?_ _ | refine below_drewN ?_ _ | refine below_drew ?_ | refine below_ext ?_ ?_ _ _ | refine Below.setCell ?_ ?_ _) | (simp; done) | (simp; omega) | omega))⟩
        · rw [decide_eq_false h3]
          have hb3 : (o == 0) = false := beq_eq_false_iff_ne.2 h3
          clear h5 h3
          go_enter Tryz.func16, Tryz.ntmps16
          go_wp2
          go_ret
          exact ⟨rfl, by (repeat' (first | (with_reducible first | exact Below.refl _ _ | assumption | refine Below.alloc ?_ ?_ _ | refine below_drewN ?_ _ | refine below_drew ?_ | refine below_ext ?_ ?_ _ _ | refine Below.setCell ?_ ?_ _) | (simp; done) | (simp; omega) | omega))⟩
      · rw [decide_eq_false h2]
        clear h5
        go_enter Tryz.func16, Tryz.ntmps16
        go_wp2
        go_ret
        exact ⟨rfl, by (repeat' (first | (with_reducible first | exact Below.refl _ _ | assumption | refine Below.alloc ?_ ?_ _ | refine below_drewN ?_ _ | refine below_drew ?_ | refine below_ext ?_ ?_ _ _ | refine Below.setCell ?_ ?_ _) | (simp; done) | (simp; omega) | omega))⟩
    · rw [decide_eq_false h1]
      clear h5
      go_enter Tryz.func16, Tryz.ntmps16
      go_wp2
      go_ret
      exact ⟨rfl, by (repeat' (first | (with_reducible first | exact Below.refl _ _ | assumption | refine Below.alloc ?_ ?_ _ | refine below_drewN ?_ _ | refine below_drew ?_ | refine below_ext ?_ ?_ _ _ | refine Below.setCell ?_ ?_ _) | (simp; done) | (simp; omega) | omega))⟩
def unB (k1 o1 k2 o2 : Int) : Bool := ((k1 == k2) && (o1 == o2)) || (((k2 == 0) && (o2 == 0)) || ((k1 == 5) && ((k2 == 5) && (o2 == 0))))
set_option maxHeartbeats 4000000 in
theorem under_any (k1 o1 k2 o2 : Int) (w : World) :
    Calls Tryz.prog 79 #[T k1 o1, T k2 o2] w fun e w' => e = .returned (.bool (unB k1 o1 k2 o2)) ∧ Below w.heap.size w w' := by
  unfold unB
  cases h1 : (k1 == k2) <;> cases h2 : (o1 == o2) <;> cases h3 : (k2 == 0) <;> cases h4 : (o2 == 0) <;> cases h5 : (k1 == 5) <;> cases h6 : (k2 == 5)
  all_goals
    go_enter Tryz.func79, Tryz.ntmps79
    go_wp2
    go_ret
    exact ⟨rfl, by (repeat' (first | (with_reducible first | exact Below.refl _ _ | assumption | refine Below.alloc ?_ ?_ _ | refine below_drewN ?_ _ | refine below_drew ?_ | refine below_ext ?_ ?_ _ _ | refine Below.setCell ?_ ?_ _) | (simp; done) | (simp; omega) | omega))⟩
end Go.Proofs.YtalahkincccffaaGreatDoor
namespace Go.Proofs.YtalahkincccffaaGreatDoor
open Go.RowKit
attribute [local go_sem] setCell_drewN cell?_ext frozen?_ext shape?_ext setCell_ext lt_1' ne_1' en_1' le_1' lt_2' ne_2' en_2' le_2' lt_3' ne_3' en_3' le_3' lt_4' ne_4' en_4' le_4' lt_5' ne_5' en_5' le_5' lt_6' ne_6' en_6' le_6' lt_7' ne_7' en_7' le_7' lt_8' ne_8' en_8' le_8' lt_9' ne_9' en_9' le_9' lt_10' ne_10' en_10' le_10' lt_11' ne_11' en_11' le_11' lt_12' ne_12' en_12' le_12'

theorem kform_yes {k o : Int} (h : tform k o = true) (w : World) : Calls Tryz.prog 16 #[T k o] w fun e w' => e = .returned (.bool true) ∧ Below w.heap.size w w' := by
  have := kform_any k o w
  rwa [h] at this
def joinK (k1 o1 k2 o2 : Int) : Int := if unB k1 o1 k2 o2 = true then k2 else if unB k2 o2 k1 o1 = true then k1 else if (k1 == 5 && k2 == 5) = true then 5 else 0
def joinO (k1 o1 k2 o2 : Int) : Int := if unB k1 o1 k2 o2 = true then o2 else if unB k2 o2 k1 o1 = true then o1 else 0
theorem kJoin_ok (k1 o1 k2 o2 : Int) (fa : tform k1 o1 = true) (fb : tform k2 o2 = true) (w : World) :
    Calls Tryz.prog 56 #[T k1 o1, T k2 o2] w fun e w' => e = .returned (.tuple #[T (joinK k1 o1 k2 o2) (joinO k1 o1 k2 o2), .int .i64 0]) ∧ Below w.heap.size w w' := by
  have F1 := Lib.hid (fun w => kform_yes fa w)
  have F2 := Lib.hid (fun w => kform_yes fb w)
  have h3 := fun w => under_any k1 o1 k2 o2 w
  have h4 := fun w => under_any k2 o2 k1 o1 w
  unfold joinK joinO
  obtain ⟨u, hu⟩ : ∃ u, u = unB k1 o1 k2 o2 := ⟨_, rfl⟩
  obtain ⟨v, hv⟩ : ∃ v, v = unB k2 o2 k1 o1 := ⟨_, rfl⟩
  rw [← hu] at h3 ⊢
  rw [← hv] at h4 ⊢
  have H3 := Lib.hid h3; have H4 := Lib.hid h4
  clear fa fb h3 h4 hu hv
  cases u
  · cases v
    · cases h5 : (k1 == 5) <;> cases h6 : (k2 == 5)
      all_goals
        go_enter Tryz.func56, Tryz.ntmps56
        go_wp2_with (first
          | (go_at_call 16; ((with_reducible refine (F1.out _).mono ?_); rintro e w1 ⟨rfl, hb1⟩; obtain ⟨osA, dA, rfl⟩ := ext_of_below hb1; clear hb1))
          | (go_at_call 16; ((with_reducible refine (F2.out _).mono ?_); rintro e w1 ⟨rfl, hb1⟩; obtain ⟨osB, dB, rfl⟩ := ext_of_below hb1; clear hb1))
          | (go_at_call 79; ((with_reducible refine (H3.out _).mono ?_); rintro e w1 ⟨rfl, hb1⟩; obtain ⟨osC, dC, rfl⟩ := ext_of_below hb1; clear hb1))
          | (go_at_call 79; ((with_reducible refine (H4.out _).mono ?_); rintro e w1 ⟨rfl, hb1⟩; obtain ⟨osD, dD, rfl⟩ := ext_of_below hb1; clear hb1)))
        go_returns
        exact ⟨rfl, by (repeat' (first | (with_reducible first | exact Below.refl _ _ | assumption | refine Below.alloc ?_ ?_ _ | refine below_drewN ?_ _ | refine below_drew ?_ | refine below_ext ?_ ?_ _ _ | refine Below.setCell ?_ ?_ _) | (simp; done) | (simp; omega) | omega))⟩
    · simp only [if_true, if_false, Bool.false_eq_true]
      go_enter Tryz.func56, Tryz.ntmps56
      go_wp2_with (first
        | (go_at_call 16; ((with_reducible refine (F1.out _).mono ?_); rintro e w1 ⟨rfl, hb1⟩; obtain ⟨osA, dA, rfl⟩ := ext_of_below hb1; clear hb1))
        | (go_at_call 16; ((with_reducible refine (F2.out _).mono ?_); rintro e w1 ⟨rfl, hb1⟩; obtain ⟨osB, dB, rfl⟩ := ext_of_below hb1; clear hb1))
        | (go_at_call 79; ((with_reducible refine (H3.out _).mono ?_); rintro e w1 ⟨rfl, hb1⟩; obtain ⟨osC, dC, rfl⟩ := ext_of_below hb1; clear hb1))
        | (go_at_call 79; ((with_reducible refine (H4.out _).mono ?_); rintro e w1 ⟨rfl, hb1⟩; obtain ⟨osD, dD, rfl⟩ := ext_of_below hb1; clear hb1)))
      go_returns
      exact ⟨rfl, by (repeat' (first | (with_reducible first | exact Below.refl _ _ | assumption | refine Below.alloc ?_ ?_ _ | refine below_drewN ?_ _ | refine below_drew ?_ | refine below_ext ?_ ?_ _ _ | refine Below.setCell ?_ ?_ _) | (simp; done) | (simp; omega) | omega))⟩
  · simp only [if_true]
    go_enter Tryz.func56, Tryz.ntmps56
    go_wp2_with (first
      | (go_at_call 16; ((with_reducible refine (F1.out _).mono ?_); rintro e w1 ⟨rfl, hb1⟩; obtain ⟨osA, dA, rfl⟩ := ext_of_below hb1; clear hb1))
      | (go_at_call 16; ((with_reducible refine (F2.out _).mono ?_); rintro e w1 ⟨rfl, hb1⟩; obtain ⟨osB, dB, rfl⟩ := ext_of_below hb1; clear hb1))
      | (go_at_call 79; ((with_reducible refine (H3.out _).mono ?_); rintro e w1 ⟨rfl, hb1⟩; obtain ⟨osC, dC, rfl⟩ := ext_of_below hb1; clear hb1)))
    go_returns
    exact ⟨rfl, by (repeat' (first | (with_reducible first | exact Below.refl _ _ | assumption | refine Below.alloc ?_ ?_ _ | refine below_drewN ?_ _ | refine below_drew ?_ | refine below_ext ?_ ?_ _ _ | refine Below.setCell ?_ ?_ _) | (simp; done) | (simp; omega) | omega))⟩
def numT (k o : Int) : Int := if tform k o = true then (if k = 5 then 5 + o else k) else -1
theorem number_any (k o : Int) (w : World) :
    Calls Tryz.prog 34 #[T k o] w fun e w' => e = .returned (.int .i64 (numT k o)) ∧ Below w.heap.size w w' := by
  unfold numT tform
  by_cases h5 : k = 5
  · subst h5
    rw [if_pos rfl, if_pos rfl]
    by_cases h1 : 0 ≤ o
    · rw [decide_eq_true h1]
      by_cases h2 : o ≤ 4
      · rw [decide_eq_true h2]
        have hw : IntKind.i64.wrap (5 + o) = 5 + o := IntWalk.i64_in _ (by omega)
        go_enter Tryz.func34, Tryz.ntmps34
        go_wp2
        go_ret
        exact ⟨rfl, by (repeat' (first | (with_reducible first | exact Below.refl _ _ | assumption | refine Below.alloc ?_ ?_ _ | refine below_drewN ?_ _ | refine below_drew ?_ | refine below_ext ?_ ?_ _ _ | refine Below.setCell ?_ ?_ _) | (simp; done) | (simp; omega) | omega))⟩
      · rw [decide_eq_false h2]
        go_enter Tryz.func34, Tryz.ntmps34
        go_wp2
        go_ret
        exact ⟨rfl, by (repeat' (first | (with_reducible first | exact Below.refl _ _ | assumption | refine Below.alloc ?_ ?_ _ | refine below_drewN ?_ _ | refine below_drew ?_ | refine below_ext ?_ ?_ _ _ | refine Below.setCell ?_ ?_ _) | (simp; done) | (simp; omega) | omega))⟩
    · rw [decide_eq_false h1]
      go_enter Tryz.func34, Tryz.ntmps34
      go_wp2
      go_ret
      exact ⟨rfl, by (repeat' (first | (with_reducible first | exact Below.refl _ _ | assumption | refine Below.alloc ?_ ?_ _ | refine below_drewN ?_ _ | refine below_drew ?_ | refine below_ext ?_ ?_ _ _ | refine Below.setCell ?_ ?_ _) | (simp; done) | (simp; omega) | omega))⟩
  · rw [if_neg h5, if_neg h5]
    have hb5 : (k == 5) = false := beq_eq_false_iff_ne.2 h5
    by_cases h1 : 0 ≤ k
    · rw [decide_eq_true h1]
      by_cases h2 : k ≤ 4
      · rw [decide_eq_true h2]
        by_cases h3 : o = 0
        · subst h3
          clear h5
          go_enter Tryz.func34, Tryz.ntmps34
          go_wp2
          go_ret
          exact ⟨rfl, by (repeat' (first | (with_reducible first | exact Below.refl _ _ | assumption | refine Below.alloc ?_ ?_ _ | refine below_drewN ?_ _ | refine below_drew ?_ | refine below_ext ?_ ?_ _ _ | refine Below.setCell ?_ ?_ _) | (simp; done) | (simp; omega) | omega))⟩
        · rw [decide_eq_false h3]
          have hb3 : (o == 0) = false := beq_eq_false_iff_ne.2 h3
          clear h5 h3
          go_enter Tryz.func34, Tryz.ntmps34
          go_wp2
          go_ret
          exact ⟨rfl, by (repeat' (first | (with_reducible first | exact Below.refl _ _ | assumption | refine Below.alloc ?_ ?_ _ | refine below_drewN ?_ _ | refine below_drew ?_ | refine below_ext ?_ ?_ _ _ | refine Below.setCell ?_ ?_ _) | (simp; done) | (simp; omega) | omega))⟩
      · rw [decide_eq_false h2]
        clear h5
        go_enter Tryz.func34, Tryz.ntmps34
        go_wp2
        go_ret
        exact ⟨rfl, by (repeat' (first | (with_reducible first | exact Below.refl _ _ | assumption | refine Below.alloc ?_ ?_ _ | refine below_drewN ?_ _ | refine below_drew ?_ | refine below_ext ?_ ?_ _ _ | refine Below.setCell ?_ ?_ _) | (simp; done) | (simp; omega) | omega))⟩
    · rw [decide_eq_false h1]
      clear h5
      go_enter Tryz.func34, Tryz.ntmps34
      go_wp2
      go_ret
      exact ⟨rfl, by (repeat' (first | (with_reducible first | exact Below.refl _ _ | assumption | refine Below.alloc ?_ ?_ _ | refine below_drewN ?_ _ | refine below_drew ?_ | refine below_ext ?_ ?_ _ _ | refine Below.setCell ?_ ?_ _) | (simp; done) | (simp; omega) | omega))⟩
end Go.Proofs.YtalahkincccffaaGreatDoor
namespace Go.Proofs.YtalahkincccffaaGreatDoor
open Go.RowKit
attribute [local go_sem] setCell_drewN cell?_ext frozen?_ext shape?_ext setCell_ext lt_1' ne_1' en_1' le_1' lt_2' ne_2' en_2' le_2' lt_3' ne_3' en_3' le_3' lt_4' ne_4' en_4' le_4' lt_5' ne_5' en_5' le_5' lt_6' ne_6' en_6' le_6' lt_7' ne_7' en_7' le_7' lt_8' ne_8' en_8' le_8' lt_9' ne_9' en_9' le_9' lt_10' ne_10' en_10' le_10' lt_11' ne_11' en_11' le_11' lt_12' ne_12' en_12' le_12'

theorem numT_form (k o : Int) : tform k o = decide (0 ≤ numT k o) := by
  unfold numT
  cases h : tform k o
  · rfl
  · rw [if_pos rfl]
    unfold tform at h
    by_cases h5 : k = 5
    · rw [if_pos h5] at h ⊢
      obtain ⟨a, b⟩ := (Bool.and_eq_true _ _).mp h
      have a := of_decide_eq_true a
      exact (decide_eq_true (by omega)).symm
    · rw [if_neg h5] at h ⊢
      obtain ⟨a, b⟩ := (Bool.and_eq_true _ _).mp h
      exact (decide_eq_true (of_decide_eq_true a)).symm
theorem kdform_any (k o : Int) (w : World) :
    Calls Tryz.prog 18 #[T k o] w fun e w' => e = .returned (.bool (tform k o)) ∧ Below w.heap.size w w' := by
  rw [numT_form]
  have h1 := fun w => number_any k o w
  obtain ⟨n, hn⟩ : ∃ n, n = numT k o := ⟨_, rfl⟩
  rw [← hn] at h1 ⊢
  have H1 := Lib.hid h1
  clear h1 hn
  go_enter Tryz.func18, Tryz.ntmps18
  go_wp2_with (first
    | (go_at_call 34; ((with_reducible refine (H1.out _).mono ?_); rintro e w1 ⟨rfl, hb1⟩; obtain ⟨osA, dA, rfl⟩ := ext_of_below hb1; clear hb1)))
  go_ret
  exact ⟨rfl, by (repeat' (first | (with_reducible first | exact Below.refl _ _ | assumption | refine Below.alloc ?_ ?_ _ | refine below_drewN ?_ _ | refine below_drew ?_ | refine below_ext ?_ ?_ _ _ | refine Below.setCell ?_ ?_ _) | (simp; done) | (simp; omega) | omega))⟩
abbrev SV (k day : Int) (l : Value) : Value := .agg #[.int .i64 k, .bool false, .bool false, .int .u64 0, .int .u64 0, .int .i64 0, .string ⟨#[]⟩, .int .i64 day, l, .slice none 0 0]
theorem sample_any0 (w : World) : Calls Tryz.prog 93 #[T 0 0] w fun e w' => e = .returned (SV 6 0 (.slice none 0 0)) ∧ Below w.heap.size w w' := by
  go_enter Tryz.func93, Tryz.ntmps93
  go_wp2
  go_returns
  exact ⟨rfl, by (repeat' (first | (with_reducible first | exact Below.refl _ _ | assumption | refine Below.alloc ?_ ?_ _ | refine below_drewN ?_ _ | refine below_drew ?_ | refine below_ext ?_ ?_ _ _ | refine Below.setCell ?_ ?_ _) | (simp; done) | (simp; omega) | omega))⟩
theorem sample_plain (k day : Int) (h : (k = 1 ∧ day = 0) ∨ (k = 2 ∧ day = 0) ∨ (k = 3 ∧ day = 0) ∨ (k = 4 ∧ day = 1)) (w : World) :
    Calls Tryz.prog 93 #[T k 0] w fun e w' => e = .returned (SV k day (.slice none 0 0)) ∧ Below w.heap.size w w' := by
  rcases h with ⟨rfl, rfl⟩ | ⟨rfl, rfl⟩ | ⟨rfl, rfl⟩ | ⟨rfl, rfl⟩
  all_goals
    go_enter Tryz.func93, Tryz.ntmps93
    go_wp2
    go_returns
    exact ⟨rfl, by (repeat' (first | (with_reducible first | exact Below.refl _ _ | assumption | refine Below.alloc ?_ ?_ _ | refine below_drewN ?_ _ | refine below_drew ?_ | refine below_ext ?_ ?_ _ _ | refine Below.setCell ?_ ?_ _) | (simp; done) | (simp; omega) | omega))⟩
set_option maxHeartbeats 8000000 in
theorem sample_list0 (w : World) : Calls Tryz.prog 93 #[T 5 0] w fun e w' => ∃ g, e = .returned (SV 5 0 (.slice (some ⟨g, 0, none⟩) 1 1)) ∧ w'.cell? ⟨g, 0, none⟩ = some (.int .i64 5) ∧ g < w'.heap.size ∧ Below w.heap.size w w' := by
  go_enter Tryz.func93, Tryz.ntmps93
  go_wp2
  go_returns
  exact ⟨_, rfl, by simp [go_sem], by first | (simp; done) | (simp; omega), by (repeat' (first | (with_reducible first | exact Below.refl _ _ | assumption | refine Below.alloc ?_ ?_ _ | refine below_drewN ?_ _ | refine below_drew ?_ | refine below_ext ?_ ?_ _ _ | refine Below.setCell ?_ ?_ _) | (simp; done) | (simp; omega) | omega))⟩
set_option maxHeartbeats 8000000 in
theorem sample_list (k day : Int) (h : (k = 1 ∧ day = 0) ∨ (k = 2 ∧ day = 0) ∨ (k = 3 ∧ day = 0) ∨ (k = 4 ∧ day = 1)) (w : World) :
    Calls Tryz.prog 93 #[T 5 k] w fun e w' => ∃ g, e = .returned (SV 5 0 (.slice (some ⟨g, 0, none⟩) 1 1)) ∧ w'.cell? ⟨g, 0, none⟩ = some (.int .i64 k) ∧ g < w'.heap.size ∧ Below w.heap.size w w' := by
  have H1 := Lib.hid (fun w => sample_plain k day h w)
  rcases h with ⟨rfl, rfl⟩ | ⟨rfl, rfl⟩ | ⟨rfl, rfl⟩ | ⟨rfl, rfl⟩
  all_goals
    go_enter Tryz.func93, Tryz.ntmps93
    go_wp2_with (first
      | (go_at_call 93; ((with_reducible refine (H1.out _).mono ?_); rintro e w1 ⟨rfl, hb1⟩; obtain ⟨osA, dA, rfl⟩ := ext_of_below hb1; clear hb1)))
    go_returns
    exact ⟨_, rfl, by simp [go_sem], by first | (simp; done) | (simp; omega), by (repeat' (first | (with_reducible first | exact Below.refl _ _ | assumption | refine Below.alloc ?_ ?_ _ | refine below_drewN ?_ _ | refine below_drew ?_ | refine below_ext ?_ ?_ _ _ | refine Below.setCell ?_ ?_ _) | (simp; done) | (simp; omega) | omega))⟩
end Go.Proofs.YtalahkincccffaaGreatDoor
namespace Go.Proofs.YtalahkincccffaaGreatDoor
open Go.RowKit
attribute [local go_sem] setCell_drewN cell?_ext frozen?_ext shape?_ext setCell_ext lt_1' ne_1' en_1' le_1' lt_2' ne_2' en_2' le_2' lt_3' ne_3' en_3' le_3' lt_4' ne_4' en_4' le_4' lt_5' ne_5' en_5' le_5' lt_6' ne_6' en_6' le_6' lt_7' ne_7' en_7' le_7' lt_8' ne_8' en_8' le_8' lt_9' ne_9' en_9' le_9' lt_10' ne_10' en_10' le_10' lt_11' ne_11' en_11' le_11' lt_12' ne_12' en_12' le_12'

set_option maxHeartbeats 4000000 in
theorem fits_nil (k day k2 o2 : Int) (hk : (k == 0) = false) (w : World) :
    Calls Tryz.prog 92 #[SV k day (.slice none 0 0), T k2 o2] w fun e w' => e = .returned (.bool ((k2 == 0) || (k == k2))) ∧ Below w.heap.size w w' := by
  cases h1 : (k2 == 0)
  · cases h2 : (k == k2)
    · go_enter Tryz.func92, Tryz.ntmps92
      go_wp2
      go_ret
      exact ⟨rfl, by (repeat' (first | (with_reducible first | exact Below.refl _ _ | assumption | refine Below.alloc ?_ ?_ _ | refine below_drewN ?_ _ | refine below_drew ?_ | refine below_ext ?_ ?_ _ _ | refine Below.setCell ?_ ?_ _) | (simp; done) | (simp; omega) | omega))⟩
    · go_enter Tryz.func92, Tryz.ntmps92
      go_wp2
      go_loopw [5] (fun i wr => i = .int .i64 0 ∧ wr = (w.alloc (.cells #[.int .i64 k, .bool false, .bool false, .int .u64 0, .int .u64 0, .int .i64 0, .string ⟨#[]⟩, .int .i64 day, .slice none 0 0, .slice none 0 0] 117)).alloc (.cells #[.int .i64 k2, .int .i64 o2] 26)) (fun _ _ => 0)
      case atStart => exact ⟨rfl, rfl⟩
      case round =>
        obtain ⟨rfl, rfl⟩ := hrel
        cases h3 : (o2 == 0)
        · have n3 : (o2 != 0) = true := by rw [bne, h3]; rfl
          go_wp2
          go_ret
          exact ⟨rfl, by (repeat' (first | (with_reducible first | exact Below.refl _ _ | assumption | refine Below.alloc ?_ ?_ _ | refine below_drewN ?_ _ | refine below_drew ?_ | refine below_ext ?_ ?_ _ _ | refine Below.setCell ?_ ?_ _) | (simp; done) | (simp; omega) | omega))⟩
        · have n3 : (o2 != 0) = false := by rw [bne, h3]; rfl
          go_wp2
          go_ret
          exact ⟨rfl, by (repeat' (first | (with_reducible first | exact Below.refl _ _ | assumption | refine Below.alloc ?_ ?_ _ | refine below_drewN ?_ _ | refine below_drew ?_ | refine below_ext ?_ ?_ _ _ | refine Below.setCell ?_ ?_ _) | (simp; done) | (simp; omega) | omega))⟩
  · go_enter Tryz.func92, Tryz.ntmps92
    go_wp2
    go_ret
    exact ⟨rfl, by (repeat' (first | (with_reducible first | exact Below.refl _ _ | assumption | refine Below.alloc ?_ ?_ _ | refine below_drewN ?_ _ | refine below_drew ?_ | refine below_ext ?_ ?_ _ _ | refine Below.setCell ?_ ?_ _) | (simp; done) | (simp; omega) | omega))⟩
set_option maxHeartbeats 4000000 in
theorem fits_one (g : Nat) (ek k2 o2 : Int) (he : (ek == 0) = false) (w : World) (hg : g < w.heap.size) (hc : w.cell? ⟨g, 0, none⟩ = some (.int .i64 ek)) :
    Calls Tryz.prog 92 #[SV 5 0 (.slice (some ⟨g, 0, none⟩) 1 1), T k2 o2] w fun e w' => e = .returned (.bool ((k2 == 0) || ((5 == k2) && ((o2 == 0) || (ek == o2))))) ∧ Below w.heap.size w w' := by
  have hn0 : (g = w.heap.size) = False := by simp; omega
  have hn1 : (g = w.heap.size + 1) = False := by simp; omega
  cases h1 : (k2 == 0)
  · cases h2 : ((5 : Int) == k2)
    · go_enter Tryz.func92, Tryz.ntmps92
      go_wp2
      go_ret
      exact ⟨rfl, by (repeat' (first | (with_reducible first | exact Below.refl _ _ | assumption | refine Below.alloc ?_ ?_ _ | refine below_drewN ?_ _ | refine below_drew ?_ | refine below_ext ?_ ?_ _ _ | refine Below.setCell ?_ ?_ _) | (simp; done) | (simp; omega) | omega))⟩
    · cases h3 : (o2 == 0)
      · have n3 : (o2 != 0) = true := by rw [bne, h3]; rfl
        have ne : (ek != 0) = true := by rw [bne, he]; rfl
        cases h4 : (ek == o2)
        · have n4 : (ek != o2) = true := by rw [bne, h4]; rfl
          go_enter Tryz.func92, Tryz.ntmps92
          go_wp2
          go_loopw [5] (fun i wr => (i = .int .i64 0 ∨ i = .int .i64 1 ∧ (ek == o2) = true) ∧ ∃ n, wr = ((w.alloc (.cells #[.int .i64 5, .bool false, .bool false, .int .u64 0, .int .u64 0, .int .i64 0, .string ⟨#[]⟩, .int .i64 0, .slice (some ⟨g, 0, none⟩) 1 1, .slice none 0 0] 117)).alloc (.cells #[.int .i64 k2, .int .i64 o2] 26)).drewN n) (fun i _ => (1 - intOf i).toNat)
          case atStart => exact ⟨.inl rfl, 0, rfl⟩
          case round =>
            obtain ⟨hi, n, rfl⟩ := hrel
            rcases hi with rfl | ⟨rfl, h5⟩
            · go_wp2
              go_region_held3 (fun w' => w'.cell? ⟨w.heap.size, 8, none⟩ = some (.slice (some ⟨g, 0, none⟩) 1 1) ∧ w'.cell? ⟨g, 0, none⟩ = some (.int .i64 ek) ∧ w'.cell? ⟨w.heap.size + 1, 1, none⟩ = some (.int .i64 o2)) (first | (simp [go_sem]; done) | go_keep) (fail)
              all_goals
                go_wp2
                go_ret
                exact ⟨rfl, by (repeat' (first | (with_reducible first | exact Below.refl _ _ | assumption | refine Below.alloc ?_ ?_ _ | refine below_drewN ?_ _ | refine below_drew ?_ | refine below_ext ?_ ?_ _ _ | refine Below.setCell ?_ ?_ _) | (simp; done) | (simp; omega) | omega))⟩
            · exfalso; rw [h4] at h5; cases h5
        · have n4 : (ek != o2) = false := by rw [bne, h4]; rfl
          go_enter Tryz.func92, Tryz.ntmps92
          go_wp2
          go_loopw [5] (fun i wr => (i = .int .i64 0 ∨ i = .int .i64 1 ∧ (ek == o2) = true) ∧ ∃ n, wr = ((w.alloc (.cells #[.int .i64 5, .bool false, .bool false, .int .u64 0, .int .u64 0, .int .i64 0, .string ⟨#[]⟩, .int .i64 0, .slice (some ⟨g, 0, none⟩) 1 1, .slice none 0 0] 117)).alloc (.cells #[.int .i64 k2, .int .i64 o2] 26)).drewN n) (fun i _ => (1 - intOf i).toNat)
          case atStart => exact ⟨.inl rfl, 0, rfl⟩
          case round =>
            obtain ⟨hi, n, rfl⟩ := hrel
            rcases hi with rfl | ⟨rfl, h5⟩
            · go_wp2
              go_region_held3 (fun w' => w'.cell? ⟨w.heap.size, 8, none⟩ = some (.slice (some ⟨g, 0, none⟩) 1 1) ∧ w'.cell? ⟨g, 0, none⟩ = some (.int .i64 ek) ∧ w'.cell? ⟨w.heap.size + 1, 1, none⟩ = some (.int .i64 o2)) (first | (simp [go_sem]; done) | go_keep) (fail)
              all_goals
                go_wp2
                go_roundw
                case rel => exact ⟨.inr ⟨rfl, h4⟩, _, rfl⟩
                case measure => simp [intOf]
            · clear h5
              go_wp2
              go_ret
              exact ⟨rfl, by (repeat' (first | (with_reducible first | exact Below.refl _ _ | assumption | refine Below.alloc ?_ ?_ _ | refine below_drewN ?_ _ | refine below_drew ?_ | refine below_ext ?_ ?_ _ _ | refine Below.setCell ?_ ?_ _) | (simp; done) | (simp; omega) | omega))⟩
      · have n3 : (o2 != 0) = false := by rw [bne, h3]; rfl
        go_enter Tryz.func92, Tryz.ntmps92
        go_wp2
        go_loopw [5] (fun i wr => i = .int .i64 0 ∧ wr = (w.alloc (.cells #[.int .i64 5, .bool false, .bool false, .int .u64 0, .int .u64 0, .int .i64 0, .string ⟨#[]⟩, .int .i64 0, .slice (some ⟨g, 0, none⟩) 1 1, .slice none 0 0] 117)).alloc (.cells #[.int .i64 k2, .int .i64 o2] 26)) (fun _ _ => 0)
        case atStart => exact ⟨rfl, rfl⟩
        case round =>
          obtain ⟨rfl, rfl⟩ := hrel
          go_wp2
          go_ret
          exact ⟨rfl, by (repeat' (first | (with_reducible first | exact Below.refl _ _ | assumption | refine Below.alloc ?_ ?_ _ | refine below_drewN ?_ _ | refine below_drew ?_ | refine below_ext ?_ ?_ _ _ | refine Below.setCell ?_ ?_ _) | (simp; done) | (simp; omega) | omega))⟩
  · go_enter Tryz.func92, Tryz.ntmps92
    go_wp2
    go_ret
    exact ⟨rfl, by (repeat' (first | (with_reducible first | exact Below.refl _ _ | assumption | refine Below.alloc ?_ ?_ _ | refine below_drewN ?_ _ | refine below_drew ?_ | refine below_ext ?_ ?_ _ _ | refine Below.setCell ?_ ?_ _) | (simp; done) | (simp; omega) | omega))⟩
end Go.Proofs.YtalahkincccffaaGreatDoor
namespace Go.Proofs.YtalahkincccffaaGreatDoor
open Go.RowKit
attribute [local go_sem] setCell_drewN cell?_ext frozen?_ext shape?_ext setCell_ext lt_1' ne_1' en_1' le_1' lt_2' ne_2' en_2' le_2' lt_3' ne_3' en_3' le_3' lt_4' ne_4' en_4' le_4' lt_5' ne_5' en_5' le_5' lt_6' ne_6' en_6' le_6' lt_7' ne_7' en_7' le_7' lt_8' ne_8' en_8' le_8' lt_9' ne_9' en_9' le_9' lt_10' ne_10' en_10' le_10' lt_11' ne_11' en_11' le_11' lt_12' ne_12' en_12' le_12'

theorem tform_ten {k o : Int} (h : tform k o = true) : (k = 0 ∧ o = 0) ∨ (k = 1 ∧ o = 0) ∨ (k = 2 ∧ o = 0) ∨ (k = 3 ∧ o = 0) ∨ (k = 4 ∧ o = 0) ∨ (k = 5 ∧ o = 0) ∨ (k = 5 ∧ o = 1) ∨ (k = 5 ∧ o = 2) ∨ (k = 5 ∧ o = 3) ∨ (k = 5 ∧ o = 4) := by
  unfold tform at h
  by_cases h5 : k = 5
  · rw [if_pos h5] at h
    obtain ⟨a, b⟩ := (Bool.and_eq_true _ _).mp h
    have a := of_decide_eq_true a
    have b := of_decide_eq_true b
    omega
  · rw [if_neg h5] at h
    obtain ⟨a, b⟩ := (Bool.and_eq_true _ _).mp h
    obtain ⟨b, c⟩ := (Bool.and_eq_true _ _).mp b
    have a := of_decide_eq_true a
    have b := of_decide_eq_true b
    have c := of_decide_eq_true c
    omega
theorem rUnder_nil (k1 o1 k day k2 o2 : Int) (u : Bool) (hk : (k == 0) = false) (hu : u = ((k2 == 0) || (k == k2))) (hs : ∀ w, Calls Tryz.prog 93 #[T k1 o1] w fun e w' => e = .returned (SV k day (.slice none 0 0)) ∧ Below w.heap.size w w') (w : World) :
    Calls Tryz.prog 82 #[T k1 o1, T k2 o2] w fun e w' => e = .returned (.bool u) ∧ Below w.heap.size w w' := by
  have h2 := fun w => fits_nil k day k2 o2 hk w
  rw [← hu] at h2
  have H1 := Lib.hid hs; have H2 := Lib.hid h2
  clear hs h2 hu hk
  go_enter Tryz.func82, Tryz.ntmps82
  go_wp2_with fail
  go_region_held3 (fun w' => w'.cell? ⟨w.heap.size, 0, none⟩ = some (.int .i64 k1) ∧ w'.cell? ⟨w.heap.size, 1, none⟩ = some (.int .i64 o1) ∧ w'.cell? ⟨w.heap.size + 1, 0, none⟩ = some (.int .i64 k2) ∧ w'.cell? ⟨w.heap.size + 1, 1, none⟩ = some (.int .i64 o2)) (first | (simp [go_sem]; done) | go_keep) (first
    | (go_at_call 93; ((with_reducible refine (H1.out _).mono ?_); rintro e w1 ⟨rfl, hb1⟩; obtain ⟨osA, dA, rfl⟩ := ext_of_below hb1; clear hb1))
    | (go_at_call 92; ((with_reducible refine (H2.out _).mono ?_); rintro e w1 ⟨rfl, hb1⟩; obtain ⟨osB, dB, rfl⟩ := ext_of_below hb1; clear hb1)))
  all_goals
    go_wp2
    go_ret
    exact ⟨rfl, by (repeat' (first | (with_reducible first | exact Below.refl _ _ | assumption | refine Below.alloc ?_ ?_ _ | refine below_drewN ?_ _ | refine below_drew ?_ | refine below_ext ?_ ?_ _ _ | refine Below.setCell ?_ ?_ _) | (simp; done) | (simp; omega) | omega))⟩
theorem rUnder_one (o1 ek k2 o2 : Int) (u : Bool) (he : (ek == 0) = false) (hu : u = ((k2 == 0) || ((5 == k2) && ((o2 == 0) || (ek == o2))))) (hs : ∀ w, Calls Tryz.prog 93 #[T 5 o1] w fun e w' => ∃ g, e = .returned (SV 5 0 (.slice (some ⟨g, 0, none⟩) 1 1)) ∧ w'.cell? ⟨g, 0, none⟩ = some (.int .i64 ek) ∧ g < w'.heap.size ∧ Below w.heap.size w w') (w : World) :
    Calls Tryz.prog 82 #[T 5 o1, T k2 o2] w fun e w' => e = .returned (.bool u) ∧ Below w.heap.size w w' := by
  have h2 := fun g w hg hc => fits_one g ek k2 o2 he w hg hc
  rw [← hu] at h2
  have H1 := Lib.hid hs; have H2 := Lib.hid h2
  clear hs h2 hu he
  go_enter Tryz.func82, Tryz.ntmps82
  go_wp2_with fail
  go_region_held3 (fun w' => w'.cell? ⟨w.heap.size, 0, none⟩ = some (.int .i64 5) ∧ w'.cell? ⟨w.heap.size, 1, none⟩ = some (.int .i64 o1) ∧ w'.cell? ⟨w.heap.size + 1, 0, none⟩ = some (.int .i64 k2) ∧ w'.cell? ⟨w.heap.size + 1, 1, none⟩ = some (.int .i64 o2)) (first | (simp [go_sem]; done) | go_keep) (first
    | (go_at_call 93; ((with_reducible refine (H1.out _).mono ?_); rintro e w1 ⟨g, rfl, c1, l1, b1⟩; obtain ⟨os1, d1, rfl⟩ := ext_of_below b1; clear b1))
    | (go_at_call 92; ((with_reducible refine (H2.out _ _ l1 c1).mono ?_); rintro e w2 ⟨rfl, b2⟩; obtain ⟨os2, d2, rfl⟩ := ext_of_below b2; clear b2)))
  all_goals
    go_wp2
    go_ret
    exact ⟨rfl, by (repeat' (first | (with_reducible first | exact Below.refl _ _ | assumption | refine Below.alloc ?_ ?_ _ | refine below_drewN ?_ _ | refine below_drew ?_ | refine below_ext ?_ ?_ _ _ | refine Below.setCell ?_ ?_ _) | (simp; done) | (simp; omega) | omega))⟩
theorem rUnder_any (k1 o1 k2 o2 : Int) (fa : tform k1 o1 = true) (fb : tform k2 o2 = true) (w : World) :
    Calls Tryz.prog 82 #[T k1 o1, T k2 o2] w fun e w' => e = .returned (.bool (unB k1 o1 k2 o2)) ∧ Below w.heap.size w w' := by
  have hb := tform_ten fb
  rcases tform_ten fa with ⟨rfl, rfl⟩ | ⟨rfl, rfl⟩ | ⟨rfl, rfl⟩ | ⟨rfl, rfl⟩ | ⟨rfl, rfl⟩ | ⟨rfl, rfl⟩ | ⟨rfl, rfl⟩ | ⟨rfl, rfl⟩ | ⟨rfl, rfl⟩ | ⟨rfl, rfl⟩
  · exact rUnder_nil 0 0 6 0 k2 o2 _ rfl (by rcases hb with ⟨rfl, rfl⟩ | ⟨rfl, rfl⟩ | ⟨rfl, rfl⟩ | ⟨rfl, rfl⟩ | ⟨rfl, rfl⟩ | ⟨rfl, rfl⟩ | ⟨rfl, rfl⟩ | ⟨rfl, rfl⟩ | ⟨rfl, rfl⟩ | ⟨rfl, rfl⟩ <;> rfl) (fun w => sample_any0 w) w
  · exact rUnder_nil 1 0 1 0 k2 o2 _ rfl (by rcases hb with ⟨rfl, rfl⟩ | ⟨rfl, rfl⟩ | ⟨rfl, rfl⟩ | ⟨rfl, rfl⟩ | ⟨rfl, rfl⟩ | ⟨rfl, rfl⟩ | ⟨rfl, rfl⟩ | ⟨rfl, rfl⟩ | ⟨rfl, rfl⟩ | ⟨rfl, rfl⟩ <;> rfl) (fun w => sample_plain 1 0 (by omega) w) w
  · exact rUnder_nil 2 0 2 0 k2 o2 _ rfl (by rcases hb with ⟨rfl, rfl⟩ | ⟨rfl, rfl⟩ | ⟨rfl, rfl⟩ | ⟨rfl, rfl⟩ | ⟨rfl, rfl⟩ | ⟨rfl, rfl⟩ | ⟨rfl, rfl⟩ | ⟨rfl, rfl⟩ | ⟨rfl, rfl⟩ | ⟨rfl, rfl⟩ <;> rfl) (fun w => sample_plain 2 0 (by omega) w) w
  · exact rUnder_nil 3 0 3 0 k2 o2 _ rfl (by rcases hb with ⟨rfl, rfl⟩ | ⟨rfl, rfl⟩ | ⟨rfl, rfl⟩ | ⟨rfl, rfl⟩ | ⟨rfl, rfl⟩ | ⟨rfl, rfl⟩ | ⟨rfl, rfl⟩ | ⟨rfl, rfl⟩ | ⟨rfl, rfl⟩ | ⟨rfl, rfl⟩ <;> rfl) (fun w => sample_plain 3 0 (by omega) w) w
  · exact rUnder_nil 4 0 4 1 k2 o2 _ rfl (by rcases hb with ⟨rfl, rfl⟩ | ⟨rfl, rfl⟩ | ⟨rfl, rfl⟩ | ⟨rfl, rfl⟩ | ⟨rfl, rfl⟩ | ⟨rfl, rfl⟩ | ⟨rfl, rfl⟩ | ⟨rfl, rfl⟩ | ⟨rfl, rfl⟩ | ⟨rfl, rfl⟩ <;> rfl) (fun w => sample_plain 4 1 (by omega) w) w
  · exact rUnder_one 0 5 k2 o2 _ rfl (by rcases hb with ⟨rfl, rfl⟩ | ⟨rfl, rfl⟩ | ⟨rfl, rfl⟩ | ⟨rfl, rfl⟩ | ⟨rfl, rfl⟩ | ⟨rfl, rfl⟩ | ⟨rfl, rfl⟩ | ⟨rfl, rfl⟩ | ⟨rfl, rfl⟩ | ⟨rfl, rfl⟩ <;> rfl) (fun w => sample_list0 w) w
  · exact rUnder_one 1 1 k2 o2 _ rfl (by rcases hb with ⟨rfl, rfl⟩ | ⟨rfl, rfl⟩ | ⟨rfl, rfl⟩ | ⟨rfl, rfl⟩ | ⟨rfl, rfl⟩ | ⟨rfl, rfl⟩ | ⟨rfl, rfl⟩ | ⟨rfl, rfl⟩ | ⟨rfl, rfl⟩ | ⟨rfl, rfl⟩ <;> rfl) (fun w => sample_list 1 0 (by omega) w) w
  · exact rUnder_one 2 2 k2 o2 _ rfl (by rcases hb with ⟨rfl, rfl⟩ | ⟨rfl, rfl⟩ | ⟨rfl, rfl⟩ | ⟨rfl, rfl⟩ | ⟨rfl, rfl⟩ | ⟨rfl, rfl⟩ | ⟨rfl, rfl⟩ | ⟨rfl, rfl⟩ | ⟨rfl, rfl⟩ | ⟨rfl, rfl⟩ <;> rfl) (fun w => sample_list 2 0 (by omega) w) w
  · exact rUnder_one 3 3 k2 o2 _ rfl (by rcases hb with ⟨rfl, rfl⟩ | ⟨rfl, rfl⟩ | ⟨rfl, rfl⟩ | ⟨rfl, rfl⟩ | ⟨rfl, rfl⟩ | ⟨rfl, rfl⟩ | ⟨rfl, rfl⟩ | ⟨rfl, rfl⟩ | ⟨rfl, rfl⟩ | ⟨rfl, rfl⟩ <;> rfl) (fun w => sample_list 3 0 (by omega) w) w
  · exact rUnder_one 4 4 k2 o2 _ rfl (by rcases hb with ⟨rfl, rfl⟩ | ⟨rfl, rfl⟩ | ⟨rfl, rfl⟩ | ⟨rfl, rfl⟩ | ⟨rfl, rfl⟩ | ⟨rfl, rfl⟩ | ⟨rfl, rfl⟩ | ⟨rfl, rfl⟩ | ⟨rfl, rfl⟩ | ⟨rfl, rfl⟩ <;> rfl) (fun w => sample_list 4 1 (by omega) w) w
end Go.Proofs.YtalahkincccffaaGreatDoor
namespace Go.Proofs.YtalahkincccffaaGreatDoor
open Go.RowKit
attribute [local go_sem] setCell_drewN cell?_ext frozen?_ext shape?_ext setCell_ext lt_1' ne_1' en_1' le_1' lt_2' ne_2' en_2' le_2' lt_3' ne_3' en_3' le_3' lt_4' ne_4' en_4' le_4' lt_5' ne_5' en_5' le_5' lt_6' ne_6' en_6' le_6' lt_7' ne_7' en_7' le_7' lt_8' ne_8' en_8' le_8' lt_9' ne_9' en_9' le_9' lt_10' ne_10' en_10' le_10' lt_11' ne_11' en_11' le_11' lt_12' ne_12' en_12' le_12'

end Go.Proofs.YtalahkincccffaaGreatDoor
namespace Go.Proofs.YtalahkincccffaaGreatDoor
open Go.RowKit
attribute [local go_sem] setCell_drewN cell?_ext frozen?_ext shape?_ext setCell_ext lt_1' ne_1' en_1' le_1' lt_2' ne_2' en_2' le_2' lt_3' ne_3' en_3' le_3' lt_4' ne_4' en_4' le_4' lt_5' ne_5' en_5' le_5' lt_6' ne_6' en_6' le_6' lt_7' ne_7' en_7' le_7' lt_8' ne_8' en_8' le_8' lt_9' ne_9' en_9' le_9' lt_10' ne_10' en_10' le_10' lt_11' ne_11' en_11' le_11' lt_12' ne_12' en_12' le_12'

def tK (n : Nat) : Int := if n < 5 then (n : Int) else 5
def tO (n : Nat) : Int := if n < 5 then 0 else (n : Int) - 5
theorem kof_any (n : Nat) (hn : n < 10) (w : World) : Calls Tryz.prog 86 #[.int .i64 (n : Int)] w fun e w' => e = .returned (T (tK n) (tO n)) ∧ Below w.heap.size w w' := by
  unfold tK tO
  by_cases h : n < 5
  · rw [if_pos h, if_pos h]
    have hi : (n : Int) < 5 := by omega
    clear hn h
    go_enter Tryz.func86, Tryz.ntmps86
    go_wp2
    go_returns
    exact ⟨rfl, by (repeat' (first | (with_reducible first | exact Below.refl _ _ | assumption | refine Below.alloc ?_ ?_ _ | refine below_drewN ?_ _ | refine below_drew ?_ | refine below_ext ?_ ?_ _ _ | refine Below.setCell ?_ ?_ _) | (simp; done) | (simp; omega) | omega))⟩
  · rw [if_neg h, if_neg h]
    have hi : ¬ (n : Int) < 5 := by omega
    have hw : IntKind.i64.wrap ((n : Int) - 5) = (n : Int) - 5 := IntWalk.i64_in _ (by omega)
    clear hn h
    go_enter Tryz.func86, Tryz.ntmps86
    go_wp2
    go_returns
    exact ⟨rfl, by (repeat' (first | (with_reducible first | exact Below.refl _ _ | assumption | refine Below.alloc ?_ ?_ _ | refine below_drewN ?_ _ | refine below_drew ?_ | refine below_ext ?_ ?_ _ _ | refine Below.setCell ?_ ?_ _) | (simp; done) | (simp; omega) | omega))⟩
theorem of_form (n : Nat) (hn : n < 10) : tform (tK n) (tO n) = true := by
  have h : ∀ n : Fin 10, tform (tK n) (tO n) = true := by decide
  exact h ⟨n, hn⟩
def jn (k1 o1 k2 o2 : Int) : Nat → Int × Int
  | 0 => (0, 0)
  | n + 1 => let p := jn k1 o1 k2 o2 n; if (unB k1 o1 (tK n) (tO n) && (unB k2 o2 (tK n) (tO n) && unB (tK n) (tO n) p.1 p.2)) = true then (tK n, tO n) else p
theorem jn_form (k1 o1 k2 o2 : Int) : ∀ n, n ≤ 10 → tform (jn k1 o1 k2 o2 n).1 (jn k1 o1 k2 o2 n).2 = true
  | 0, _ => rfl
  | n + 1, h => by
    unfold jn
    have ih := jn_form k1 o1 k2 o2 n (by omega)
    by_cases hc : (unB k1 o1 (tK n) (tO n) && (unB k2 o2 (tK n) (tO n) && unB (tK n) (tO n) (jn k1 o1 k2 o2 n).1 (jn k1 o1 k2 o2 n).2)) = true
    · simp only [hc, if_true]; exact of_form n (by omega)
    · simp only [hc]; exact ih
theorem jn_join (k1 o1 k2 o2 : Int) (fa : tform k1 o1 = true) (fb : tform k2 o2 = true) : jn k1 o1 k2 o2 10 = (joinK k1 o1 k2 o2, joinO k1 o1 k2 o2) := by
  rcases tform_ten fa with ⟨rfl, rfl⟩ | ⟨rfl, rfl⟩ | ⟨rfl, rfl⟩ | ⟨rfl, rfl⟩ | ⟨rfl, rfl⟩ | ⟨rfl, rfl⟩ | ⟨rfl, rfl⟩ | ⟨rfl, rfl⟩ | ⟨rfl, rfl⟩ | ⟨rfl, rfl⟩ <;>
  rcases tform_ten fb with ⟨rfl, rfl⟩ | ⟨rfl, rfl⟩ | ⟨rfl, rfl⟩ | ⟨rfl, rfl⟩ | ⟨rfl, rfl⟩ | ⟨rfl, rfl⟩ | ⟨rfl, rfl⟩ | ⟨rfl, rfl⟩ | ⟨rfl, rfl⟩ | ⟨rfl, rfl⟩ <;> decide
set_option maxHeartbeats 8000000 in
theorem rJoin_any (k1 o1 k2 o2 : Int) (fa : tform k1 o1 = true) (fb : tform k2 o2 = true) (w : World) :
    Calls Tryz.prog 69 #[T k1 o1, T k2 o2] w fun e w' => e = .returned (T (joinK k1 o1 k2 o2) (joinO k1 o1 k2 o2)) ∧ Below w.heap.size w w' := by
  have HJ := Lib.hid (jn_join k1 o1 k2 o2 fa fb)
  have HA := Lib.hid fa; have HB := Lib.hid fb
  clear fa fb
  go_enter Tryz.func69, Tryz.ntmps69
  go_wp2_with fail
  go_loopw [6] (fun i wr => ∃ n : Nat, n ≤ 10 ∧ i = .int .i64 n ∧ Below ((((w.alloc (.cells #[.int .i64 k1, .int .i64 o1] 26)).alloc (.cells #[.int .i64 k2, .int .i64 o2] 26)).alloc (.cells #[.int .i64 0, .int .i64 0] 26)).alloc (.cells #[.int .i64 (jn k1 o1 k2 o2 n).1, .int .i64 (jn k1 o1 k2 o2 n).2] 26)).heap.size ((((w.alloc (.cells #[.int .i64 k1, .int .i64 o1] 26)).alloc (.cells #[.int .i64 k2, .int .i64 o2] 26)).alloc (.cells #[.int .i64 0, .int .i64 0] 26)).alloc (.cells #[.int .i64 (jn k1 o1 k2 o2 n).1, .int .i64 (jn k1 o1 k2 o2 n).2] 26)) wr) (fun i _ => (10 - intOf i).toNat)
  case atStart => exact ⟨0, by omega, rfl, Below.refl _ _⟩
  case round =>
    obtain ⟨n, hn, rfl, hbw⟩ := hrel
    obtain ⟨os, d', rfl⟩ := ext_of_below hbw
    clear hbw
    by_cases h10 : n < 10
    · have hi : (n : Int) < 10 := by omega
      have hf := of_form n h10
      have hjf := jn_form k1 o1 k2 o2 n hn
      have h1 := fun w => kof_any n h10 w
      have h2 := fun w => rUnder_any k1 o1 (tK n) (tO n) HA.out hf w
      have h3 := fun w => rUnder_any k2 o2 (tK n) (tO n) HB.out hf w
      have h4 := fun w => rUnder_any (tK n) (tO n) (jn k1 o1 k2 o2 n).1 (jn k1 o1 k2 o2 n).2 hf hjf w
      have hnx : jn k1 o1 k2 o2 (n + 1) = if (unB k1 o1 (tK n) (tO n) && (unB k2 o2 (tK n) (tO n) && unB (tK n) (tO n) (jn k1 o1 k2 o2 n).1 (jn k1 o1 k2 o2 n).2)) = true then (tK n, tO n) else ((jn k1 o1 k2 o2 n).1, (jn k1 o1 k2 o2 n).2) := rfl
      obtain ⟨ck, hck⟩ : ∃ x, x = tK n := ⟨_, rfl⟩
      obtain ⟨co, hco⟩ : ∃ x, x = tO n := ⟨_, rfl⟩
      rw [← hck, ← hco] at h1 h2 h3 h4 hnx
      generalize (jn k1 o1 k2 o2 n).1 = pk at *
      generalize (jn k1 o1 k2 o2 n).2 = po at *
      obtain ⟨u1, e1⟩ : ∃ u, u = unB k1 o1 ck co := ⟨_, rfl⟩
      obtain ⟨u2, e2⟩ : ∃ u, u = unB k2 o2 ck co := ⟨_, rfl⟩
      obtain ⟨u3, e3⟩ : ∃ u, u = unB ck co pk po := ⟨_, rfl⟩
      rw [← e1, ← e2, ← e3] at hnx
      rw [← e1] at h2
      rw [← e2] at h3
      rw [← e3] at h4
      have H1 := Lib.hid h1; have H2 := Lib.hid h2; have H3 := Lib.hid h3; have H4 := Lib.hid h4
      have HX := Lib.hid hnx
      have hwr : IntKind.i64.wrap ((n : Int) + 1) = (n : Int) + 1 := IntWalk.i64_in _ (by omega)
      clear h1 h2 h3 h4 hf hjf e1 e2 e3 hck hco hnx HJ HA HB
      cases u1
      · have HN := Lib.hid (show jn k1 o1 k2 o2 (n + 1) = (pk, po) from HX.out)
        clear HX
        go_wp2_with (first
          | (go_at_call 86; ((with_reducible refine (H1.out _).mono ?_); rintro e w1 ⟨rfl, hb1⟩; obtain ⟨osA, dA, rfl⟩ := ext_of_below hb1; clear hb1))
          | (go_at_call 82; ((with_reducible refine (H2.out _).mono ?_); rintro e w1 ⟨rfl, hb1⟩; obtain ⟨osB, dB, rfl⟩ := ext_of_below hb1; clear hb1)))
        go_roundw
        case rel => exact ⟨n + 1, by omega, by go_num, by rw [HN.out]; (repeat' (first | (with_reducible first | exact Below.refl _ _ | assumption | refine Below.alloc ?_ ?_ _ | refine below_drewN ?_ _ | refine below_drew ?_ | refine below_ext ?_ ?_ _ _ | refine Below.setCell ?_ ?_ _) | (simp; done) | (simp; omega) | omega))⟩
        case measure => simp [intOf]; omega
      · cases u2
        · have HN := Lib.hid (show jn k1 o1 k2 o2 (n + 1) = (pk, po) from HX.out)
          clear HX
          go_wp2_with (first
            | (go_at_call 86; ((with_reducible refine (H1.out _).mono ?_); rintro e w1 ⟨rfl, hb1⟩; obtain ⟨osA, dA, rfl⟩ := ext_of_below hb1; clear hb1))
            | (go_at_call 82; ((with_reducible refine (H2.out _).mono ?_); rintro e w1 ⟨rfl, hb1⟩; obtain ⟨osB, dB, rfl⟩ := ext_of_below hb1; clear hb1))
            | (go_at_call 82; ((with_reducible refine (H3.out _).mono ?_); rintro e w1 ⟨rfl, hb1⟩; obtain ⟨osC, dC, rfl⟩ := ext_of_below hb1; clear hb1)))
          go_roundw
          case rel => exact ⟨n + 1, by omega, by go_num, by rw [HN.out]; (repeat' (first | (with_reducible first | exact Below.refl _ _ | assumption | refine Below.alloc ?_ ?_ _ | refine below_drewN ?_ _ | refine below_drew ?_ | refine below_ext ?_ ?_ _ _ | refine Below.setCell ?_ ?_ _) | (simp; done) | (simp; omega) | omega))⟩
          case measure => simp [intOf]; omega
        · cases u3
          · have HN := Lib.hid (show jn k1 o1 k2 o2 (n + 1) = (pk, po) from HX.out)
            clear HX
            go_wp2_with (first
              | (go_at_call 86; ((with_reducible refine (H1.out _).mono ?_); rintro e w1 ⟨rfl, hb1⟩; obtain ⟨osA, dA, rfl⟩ := ext_of_below hb1; clear hb1))
              | (go_at_call 82; ((with_reducible refine (H2.out _).mono ?_); rintro e w1 ⟨rfl, hb1⟩; obtain ⟨osB, dB, rfl⟩ := ext_of_below hb1; clear hb1))
              | (go_at_call 82; ((with_reducible refine (H3.out _).mono ?_); rintro e w1 ⟨rfl, hb1⟩; obtain ⟨osC, dC, rfl⟩ := ext_of_below hb1; clear hb1))
              | (go_at_call 82; ((with_reducible refine (H4.out _).mono ?_); rintro e w1 ⟨rfl, hb1⟩; obtain ⟨osD, dD, rfl⟩ := ext_of_below hb1; clear hb1)))
            go_roundw
            case rel => exact ⟨n + 1, by omega, by go_num, by rw [HN.out]; (repeat' (first | (with_reducible first | exact Below.refl _ _ | assumption | refine Below.alloc ?_ ?_ _ | refine below_drewN ?_ _ | refine below_drew ?_ | refine below_ext ?_ ?_ _ _ | refine Below.setCell ?_ ?_ _) | (simp; done) | (simp; omega) | omega))⟩
            case measure => simp [intOf]; omega
          · have HN := Lib.hid (show jn k1 o1 k2 o2 (n + 1) = (ck, co) from HX.out)
            clear HX
            go_wp2_with (first
              | (go_at_call 86; ((with_reducible refine (H1.out _).mono ?_); rintro e w1 ⟨rfl, hb1⟩; obtain ⟨osA, dA, rfl⟩ := ext_of_below hb1; clear hb1))
              | (go_at_call 82; ((with_reducible refine (H2.out _).mono ?_); rintro e w1 ⟨rfl, hb1⟩; obtain ⟨osB, dB, rfl⟩ := ext_of_below hb1; clear hb1))
              | (go_at_call 82; ((with_reducible refine (H3.out _).mono ?_); rintro e w1 ⟨rfl, hb1⟩; obtain ⟨osC, dC, rfl⟩ := ext_of_below hb1; clear hb1))
              | (go_at_call 82; ((with_reducible refine (H4.out _).mono ?_); rintro e w1 ⟨rfl, hb1⟩; obtain ⟨osD, dD, rfl⟩ := ext_of_below hb1; clear hb1)))
            go_roundw
            case rel => exact ⟨n + 1, by omega, by go_num, by rw [HN.out]; (repeat' (first | (with_reducible first | exact Below.refl _ _ | assumption | refine Below.alloc ?_ ?_ _ | refine below_drewN ?_ _ | refine below_drew ?_ | refine below_ext ?_ ?_ _ _ | refine Below.setCell ?_ ?_ _) | (simp; done) | (simp; omega) | omega))⟩
            case measure => simp [intOf]; omega
    · obtain rfl : n = 10 := by omega
      have hj := HJ.out
      have j1 : (jn k1 o1 k2 o2 10).1 = joinK k1 o1 k2 o2 := by rw [hj]
      have j2 : (jn k1 o1 k2 o2 10).2 = joinO k1 o1 k2 o2 := by rw [hj]
      rw [j1, j2]
      obtain ⟨jk, hjk⟩ : ∃ x, x = joinK k1 o1 k2 o2 := ⟨_, rfl⟩
      obtain ⟨jo, hjo⟩ : ∃ x, x = joinO k1 o1 k2 o2 := ⟨_, rfl⟩
      rw [← hjk, ← hjo]
      have HE := Lib.hid (And.intro hjk hjo)
      clear hj j1 j2 hjk hjo HJ HA HB hn h10
      go_wp2
      go_returns
      exact ⟨by rw [← HE.out.1, ← HE.out.2], by (repeat' (first | (with_reducible first | exact Below.refl _ _ | assumption | refine Below.alloc ?_ ?_ _ | refine below_drewN ?_ _ | refine below_drew ?_ | refine below_ext ?_ ?_ _ _ | refine Below.setCell ?_ ?_ _) | (simp; done) | (simp; omega) | omega))⟩
end Go.Proofs.YtalahkincccffaaGreatDoor
namespace Go.Proofs.YtalahkincccffaaGreatDoor
open Go.RowKit
attribute [local go_sem] setCell_drewN cell?_ext frozen?_ext shape?_ext setCell_ext lt_1' ne_1' en_1' le_1' lt_2' ne_2' en_2' le_2' lt_3' ne_3' en_3' le_3' lt_4' ne_4' en_4' le_4' lt_5' ne_5' en_5' le_5' lt_6' ne_6' en_6' le_6' lt_7' ne_7' en_7' le_7' lt_8' ne_8' en_8' le_8' lt_9' ne_9' en_9' le_9' lt_10' ne_10' en_10' le_10' lt_11' ne_11' en_11' le_11' lt_12' ne_12' en_12' le_12'

end Go.Proofs.YtalahkincccffaaGreatDoor
