/-
  Contracts of package kind: Under, Join; the document's numbers and forms.
  Contracts of the document's kinds: forms, samples, what fits.
  Contracts of the document's kinds: what fits; what lies under what.
  Contracts of the document's kinds: what lies under what; DocUnder; the join.
  The document's answers on what lies under what.
  The document's join.
  The program's and the document's answers on joins and on what lies under what, side by side.
-/
import Derived.Test.YtdmmpknpoephnaaDoorKindA
namespace Go.Proofs.YtdmmpknpoephnaaDoor
open Go.RowKit
attribute [local go_sem] setCell_drewN cell?_ext frozen?_ext shape?_ext setCell_ext lt_1' ne_1' en_1' le_1' lt_2' ne_2' en_2' le_2' lt_3' ne_3' en_3' le_3' lt_4' ne_4' en_4' le_4' lt_5' ne_5' en_5' le_5' lt_6' ne_6' en_6' le_6' lt_7' ne_7' en_7' le_7' lt_8' ne_8' en_8' le_8' lt_9' ne_9' en_9' le_9' lt_10' ne_10' en_10' le_10' lt_11' ne_11' en_11' le_11' lt_12' ne_12' en_12' le_12'

theorem kform_yes {k o : Int} (h : tform k o = true) (w : World) : Calls Tryd.prog 20 #[T k o] w fun e w' => e = .returned (.bool true) ∧ Below w.heap.size w w' := by
  have := kform_any k o w
  rwa [h] at this
theorem kform_no {k o : Int} (h : tform k o = false) (w : World) : Calls Tryd.prog 20 #[T k o] w fun e w' => e = .returned (.bool false) ∧ Below w.heap.size w w' := by
  have := kform_any k o w
  rwa [h] at this
theorem kUnder_ok (k1 o1 k2 o2 : Int) (fa : tform k1 o1 = true) (fb : tform k2 o2 = true) (w : World) :
    Calls Tryd.prog 13 #[T k1 o1, T k2 o2] w fun e w' => e = .returned (.tuple #[.bool (unB k1 o1 k2 o2), .int .i64 0]) ∧ Below w.heap.size w w' := by
  have F1 := Lib.hid (fun w => kform_yes fa w)
  have F2 := Lib.hid (fun w => kform_yes fb w)
  have h3 := fun w => under_any k1 o1 k2 o2 w
  obtain ⟨u, hu⟩ : ∃ u, u = unB k1 o1 k2 o2 := ⟨_, rfl⟩
  rw [← hu] at h3 ⊢
  have H3 := Lib.hid h3
  clear fa fb h3 hu
  go_enter Tryd.func13, Tryd.ntmps13
  go_wp2_with (first
    | (go_at_call 20; ((with_reducible refine (F1.out _).mono ?_); rintro e w1 ⟨rfl, hb1⟩; obtain ⟨osA, dA, rfl⟩ := ext_of_below hb1; clear hb1))
    | (go_at_call 20; ((with_reducible refine (F2.out _).mono ?_); rintro e w1 ⟨rfl, hb1⟩; obtain ⟨osB, dB, rfl⟩ := ext_of_below hb1; clear hb1))
    | (go_at_call 26; ((with_reducible refine (H3.out _).mono ?_); rintro e w1 ⟨rfl, hb1⟩; obtain ⟨osC, dC, rfl⟩ := ext_of_below hb1; clear hb1)))
  go_returns
  exact ⟨rfl, by (repeat' (first | (with_reducible exact Below.refl _ _) | (with_reducible assumption) | (with_reducible refine Below.alloc ?_ ?_ _) | (with_reducible refine below_drewN ?_ _) | (with_reducible refine below_drew ?_) | (with_reducible refine below_ext ?_ ?_ _ _) | (with_reducible refine Below.setCell ?_ ?_ _) | (simp; done) | (simp; omega) | omega))⟩
theorem kUnder_bad1 (k1 o1 k2 o2 : Int) (fa : tform k1 o1 = false) (w : World) :
    Calls Tryd.prog 13 #[T k1 o1, T k2 o2] w fun e w' => e = .returned (.tuple #[.bool false, .int .i64 2]) ∧ Below w.heap.size w w' := by
  have F1 := Lib.hid (fun w => kform_no fa w)
  clear fa
  go_enter Tryd.func13, Tryd.ntmps13
  go_wp2_with (first
    | (go_at_call 20; ((with_reducible refine (F1.out _).mono ?_); rintro e w1 ⟨rfl, hb1⟩; obtain ⟨osA, dA, rfl⟩ := ext_of_below hb1; clear hb1)))
  go_returns
  exact ⟨rfl, by (repeat' (first | (with_reducible exact Below.refl _ _) | (with_reducible assumption) | (with_reducible refine Below.alloc ?_ ?_ _) | (with_reducible refine below_drewN ?_ _) | (with_reducible refine below_drew ?_) | (with_reducible refine below_ext ?_ ?_ _ _) | (with_reducible refine Below.setCell ?_ ?_ _) | (simp; done) | (simp; omega) | omega))⟩
theorem kUnder_bad2 (k1 o1 k2 o2 : Int) (fa : tform k1 o1 = true) (fb : tform k2 o2 = false) (w : World) :
    Calls Tryd.prog 13 #[T k1 o1, T k2 o2] w fun e w' => e = .returned (.tuple #[.bool false, .int .i64 2]) ∧ Below w.heap.size w w' := by
  have F1 := Lib.hid (fun w => kform_yes fa w)
  have F2 := Lib.hid (fun w => kform_no fb w)
  clear fa fb
  go_enter Tryd.func13, Tryd.ntmps13
  go_wp2_with (first
    | (go_at_call 20; ((with_reducible refine (F1.out _).mono ?_); rintro e w1 ⟨rfl, hb1⟩; obtain ⟨osA, dA, rfl⟩ := ext_of_below hb1; clear hb1))
    | (go_at_call 20; ((with_reducible refine (F2.out _).mono ?_); rintro e w1 ⟨rfl, hb1⟩; obtain ⟨osB, dB, rfl⟩ := ext_of_below hb1; clear hb1)))
  go_returns
  exact ⟨rfl, by (repeat' (first | (with_reducible exact Below.refl _ _) | (with_reducible assumption) | (with_reducible refine Below.alloc ?_ ?_ _) | (with_reducible refine below_drewN ?_ _) | (with_reducible refine below_drew ?_) | (with_reducible refine below_ext ?_ ?_ _ _) | (with_reducible refine Below.setCell ?_ ?_ _) | (simp; done) | (simp; omega) | omega))⟩
/-- the least type above both -/
def joinK (k1 o1 k2 o2 : Int) : Int := if unB k1 o1 k2 o2 = true then k2 else if unB k2 o2 k1 o1 = true then k1 else if (k1 == 5 && k2 == 5) = true then 5 else 0
def joinO (k1 o1 k2 o2 : Int) : Int := if unB k1 o1 k2 o2 = true then o2 else if unB k2 o2 k1 o1 = true then o1 else 0
theorem kJoin_ok (k1 o1 k2 o2 : Int) (fa : tform k1 o1 = true) (fb : tform k2 o2 = true) (w : World) :
    Calls Tryd.prog 12 #[T k1 o1, T k2 o2] w fun e w' => e = .returned (.tuple #[T (joinK k1 o1 k2 o2) (joinO k1 o1 k2 o2), .int .i64 0]) ∧ Below w.heap.size w w' := by
  have F1 := Lib.hid (fun w => kform_yes fa w)
  have F2 := Lib.hid (fun w => kform_yes fb w)
  have h3 := fun w => under_any k1 o1 k2 o2 w
  have h4 := fun w => under_any k2 o2 k1 o1 w
  unfold joinK joinO
  obtain ⟨u, hu⟩ : ∃ u, u = unB k1 o1 k2 o2 := ⟨_, rfl⟩
  obtain ⟨v, hv⟩ : ∃ v, v = unB k2 o2 k1 o1 := ⟨_, rfl⟩
  rw [← hu] at h3 ⊢
  rw [← hv] at h4 ⊢
  have H3 := Lib.hid h3; have H4 := Lib.hid h4
  clear fa fb h3 h4 hu hv
  cases u
  · cases v
    · cases h5 : (k1 == 5) <;> cases h6 : (k2 == 5)
      all_goals
        go_enter Tryd.func12, Tryd.ntmps12
        go_wp2_with (first
          | (go_at_call 20; ((with_reducible refine (F1.out _).mono ?_); rintro e w1 ⟨rfl, hb1⟩; obtain ⟨osA, dA, rfl⟩ := ext_of_below hb1; clear hb1))
          | (go_at_call 20; ((with_reducible refine (F2.out _).mono ?_); rintro e w1 ⟨rfl, hb1⟩; obtain ⟨osB, dB, rfl⟩ := ext_of_below hb1; clear hb1))
          | (go_at_call 26; ((with_reducible refine (H3.out _).mono ?_); rintro e w1 ⟨rfl, hb1⟩; obtain ⟨osC, dC, rfl⟩ := ext_of_below hb1; clear hb1))
          | (go_at_call 26; ((with_reducible refine (H4.out _).mono ?_); rintro e w1 ⟨rfl, hb1⟩; obtain ⟨osD, dD, rfl⟩ := ext_of_below hb1; clear hb1)))
        go_returns
        exact ⟨rfl, by (repeat' (first | (with_reducible exact Below.refl _ _) | (with_reducible assumption) | (with_reducible refine Below.alloc ?_ ?_ _) | (with_reducible refine below_drewN ?_ _) | (with_reducible refine below_drew ?_) | (with_reducible refine below_ext ?_ ?_ _ _) | (with_reducible refine Below.setCell ?_ ?_ _) | (simp; done) | (simp; omega) | omega))⟩
    · simp only [if_true, if_false, Bool.false_eq_true]
      go_enter Tryd.func12, Tryd.ntmps12
      go_wp2_with (first
        | (go_at_call 20; ((with_reducible refine (F1.out _).mono ?_); rintro e w1 ⟨rfl, hb1⟩; obtain ⟨osA, dA, rfl⟩ := ext_of_below hb1; clear hb1))
        | (go_at_call 20; ((with_reducible refine (F2.out _).mono ?_); rintro e w1 ⟨rfl, hb1⟩; obtain ⟨osB, dB, rfl⟩ := ext_of_below hb1; clear hb1))
        | (go_at_call 26; ((with_reducible refine (H3.out _).mono ?_); rintro e w1 ⟨rfl, hb1⟩; obtain ⟨osC, dC, rfl⟩ := ext_of_below hb1; clear hb1))
        | (go_at_call 26; ((with_reducible refine (H4.out _).mono ?_); rintro e w1 ⟨rfl, hb1⟩; obtain ⟨osD, dD, rfl⟩ := ext_of_below hb1; clear hb1)))
      go_returns
      exact ⟨rfl, by (repeat' (first | (with_reducible exact Below.refl _ _) | (with_reducible assumption) | (with_reducible refine Below.alloc ?_ ?_ _) | (with_reducible refine below_drewN ?_ _) | (with_reducible refine below_drew ?_) | (with_reducible refine below_ext ?_ ?_ _ _) | (with_reducible refine Below.setCell ?_ ?_ _) | (simp; done) | (simp; omega) | omega))⟩
  · simp only [if_true]
    go_enter Tryd.func12, Tryd.ntmps12
    go_wp2_with (first
      | (go_at_call 20; ((with_reducible refine (F1.out _).mono ?_); rintro e w1 ⟨rfl, hb1⟩; obtain ⟨osA, dA, rfl⟩ := ext_of_below hb1; clear hb1))
      | (go_at_call 20; ((with_reducible refine (F2.out _).mono ?_); rintro e w1 ⟨rfl, hb1⟩; obtain ⟨osB, dB, rfl⟩ := ext_of_below hb1; clear hb1))
      | (go_at_call 26; ((with_reducible refine (H3.out _).mono ?_); rintro e w1 ⟨rfl, hb1⟩; obtain ⟨osC, dC, rfl⟩ := ext_of_below hb1; clear hb1)))
    go_returns
    exact ⟨rfl, by (repeat' (first | (with_reducible exact Below.refl _ _) | (with_reducible assumption) | (with_reducible refine Below.alloc ?_ ?_ _) | (with_reducible refine below_drewN ?_ _) | (with_reducible refine below_drew ?_) | (with_reducible refine below_ext ?_ ?_ _ _) | (with_reducible refine Below.setCell ?_ ?_ _) | (simp; done) | (simp; omega) | omega))⟩
/-- which of the ten; -1: none -/
def numT (k o : Int) : Int := if tform k o = true then (if k = 5 then 5 + o else k) else -1
theorem number_any (k o : Int) (w : World) :
    Calls Tryd.prog 22 #[T k o] w fun e w' => e = .returned (.int .i64 (numT k o)) ∧ Below w.heap.size w w' := by
  unfold numT tform
  by_cases h5 : k = 5
  · subst h5
    rw [if_pos rfl, if_pos rfl]
    by_cases h1 : 0 ≤ o
    · rw [decide_eq_true h1]
      by_cases h2 : o ≤ 4
      · rw [decide_eq_true h2]
        have hw : IntKind.i64.wrap (5 + o) = 5 + o := IntWalk.i64_in _ (by omega)
        go_enter Tryd.func22, Tryd.ntmps22
        go_wp2
        go_ret
        exact ⟨rfl, by (repeat' (first | (with_reducible exact Below.refl _ _) | (with_reducible assumption) | (with_reducible refine Below.alloc ?_ ?_ _) | (with_reducible refine below_drewN ?_ _) | (with_reducible refine below_drew ?_) | (with_reducible refine below_ext ?_ ?_ _ _) | (with_reducible refine Below.setCell ?_ ?_ _) | (simp; done) | (simp; omega) | omega))⟩
      · rw [decide_eq_false h2]
        go_enter Tryd.func22, Tryd.ntmps22
        go_wp2
        go_ret
        exact ⟨rfl, by (repeat' (first | (with_reducible exact Below.refl _ _) | (with_reducible assumption) | (with_reducible refine Below.alloc ?_ ?_ _) | (with_reducible refine below_drewN ?_ _) | (with_reducible refine below_drew ?_) | (with_reducible refine below_ext ?_ ?_ _ _) | (with_reducible refine Below.setCell ?_ ?_ _) | (simp; done) | (simp; omega) | omega))⟩
    · rw [decide_eq_false h1]
      go_enter Tryd.func22, Tryd.ntmps22
      go_wp2
      go_ret
      exact ⟨rfl, by (repeat' (first | (with_reducible exact Below.refl _ _) | (with_reducible assumption) | (with_reducible refine Below.alloc ?_ ?_ _) | (with_reducible refine below_drewN ?_ _) | (with_reducible refine below_drew ?_) | (with_reducible refine below_ext ?_ ?_ _ _) | (with_reducible refine Below.setCell ?_ ?_ _) | (simp; done) | (simp; omega) | omega))⟩
  · rw [if_neg h5, if_neg h5]
    have hb5 : (k == 5) = false := beq_eq_false_iff_ne.2 h5
    by_cases h1 : 0 ≤ k
    · rw [decide_eq_true h1]
      by_cases h2 : k ≤ 4
      · rw [decide_eq_true h2]
        by_cases h3 : o = 0
        · subst h3
          clear h5
          go_enter Tryd.func22, Tryd.ntmps22
          go_wp2
          go_ret
          exact ⟨rfl, by (repeat' (first | (with_reducible exact Below.refl _ _) | (with_reducible assumption) | (with_reducible refine Below.alloc ?_ ?_ _) | (with_reducible refine below_drewN ?_ _) | (with_reducible refine below_drew ?_) | (with_reducible refine below_ext ?_ ?_ _ _) | (with_reducible refine Below.setCell ?_ ?_ _) | (simp; done) | (simp; omega) | omega))⟩
        · rw [decide_eq_false h3]
          have hb3 : (o == 0) = false := beq_eq_false_iff_ne.2 h3
          clear h5 h3
          go_enter Tryd.func22, Tryd.ntmps22
          go_wp2
          go_ret
          exact ⟨rfl, by (repeat' (first | (with_reducible exact Below.refl _ _) | (with_reducible assumption) | (with_reducible refine Below.alloc ?_ ?_ _) | (with_reducible refine below_drewN ?_ _) | (with_reducible refine below_drew ?_) | (with_reducible refine below_ext ?_ ?_ _ _) | (with_reducible refine Below.setCell ?_ ?_ _) | (simp; done) | (simp; omega) | omega))⟩
      · rw [decide_eq_false h2]
        clear h5
        go_enter Tryd.func22, Tryd.ntmps22
        go_wp2
        go_ret
        exact ⟨rfl, by (repeat' (first | (with_reducible exact Below.refl _ _) | (with_reducible assumption) | (with_reducible refine Below.alloc ?_ ?_ _) | (with_reducible refine below_drewN ?_ _) | (with_reducible refine below_drew ?_) | (with_reducible refine below_ext ?_ ?_ _ _) | (with_reducible refine Below.setCell ?_ ?_ _) | (simp; done) | (simp; omega) | omega))⟩
    · rw [decide_eq_false h1]
      clear h5
      go_enter Tryd.func22, Tryd.ntmps22
      go_wp2
      go_ret
      exact ⟨rfl, by (repeat' (first | (with_reducible exact Below.refl _ _) | (with_reducible assumption) | (with_reducible refine Below.alloc ?_ ?_ _) | (with_reducible refine below_drewN ?_ _) | (with_reducible refine below_drew ?_) | (with_reducible refine below_ext ?_ ?_ _ _) | (with_reducible refine Below.setCell ?_ ?_ _) | (simp; done) | (simp; omega) | omega))⟩
end Go.Proofs.YtdmmpknpoephnaaDoor
namespace Go.Proofs.YtdmmpknpoephnaaDoor
open Go.RowKit
attribute [local go_sem] setCell_drewN cell?_ext frozen?_ext shape?_ext setCell_ext lt_1' ne_1' en_1' le_1' lt_2' ne_2' en_2' le_2' lt_3' ne_3' en_3' le_3' lt_4' ne_4' en_4' le_4' lt_5' ne_5' en_5' le_5' lt_6' ne_6' en_6' le_6' lt_7' ne_7' en_7' le_7' lt_8' ne_8' en_8' le_8' lt_9' ne_9' en_9' le_9' lt_10' ne_10' en_10' le_10' lt_11' ne_11' en_11' le_11' lt_12' ne_12' en_12' le_12'

theorem numT_form (k o : Int) : tform k o = decide (0 ≤ numT k o) := by
  unfold numT
  cases h : tform k o
  · rfl
  · rw [if_pos rfl]
    unfold tform at h
    by_cases h5 : k = 5
    · rw [if_pos h5] at h ⊢
      obtain ⟨a, b⟩ := (Bool.and_eq_true _ _).mp h
      have a := of_decide_eq_true a
      exact (decide_eq_true (by omega)).symm
    · rw [if_neg h5] at h ⊢
      obtain ⟨a, b⟩ := (Bool.and_eq_true _ _).mp h
      exact (decide_eq_true (of_decide_eq_true a)).symm
theorem kdform_any (k o : Int) (w : World) :
    Calls Tryd.prog 10 #[T k o] w fun e w' => e = .returned (.bool (tform k o)) ∧ Below w.heap.size w w' := by
  rw [numT_form]
  have h1 := fun w => number_any k o w
  obtain ⟨n, hn⟩ : ∃ n, n = numT k o := ⟨_, rfl⟩
  rw [← hn] at h1 ⊢
  have H1 := Lib.hid h1
  clear h1 hn
  go_enter Tryd.func10, Tryd.ntmps10
  go_wp2_with (first
    | (go_at_call 22; ((with_reducible refine (H1.out _).mono ?_); rintro e w1 ⟨rfl, hb1⟩; obtain ⟨osA, dA, rfl⟩ := ext_of_below hb1; clear hb1)))
  go_ret
  exact ⟨rfl, by (repeat' (first | (with_reducible exact Below.refl _ _) | (with_reducible assumption) | (with_reducible refine Below.alloc ?_ ?_ _) | (with_reducible refine below_drewN ?_ _) | (with_reducible refine below_drew ?_) | (with_reducible refine below_ext ?_ ?_ _ _) | (with_reducible refine Below.setCell ?_ ?_ _) | (simp; done) | (simp; omega) | omega))⟩
/-- a value with a kind, a day, a list, and nothing else -/
abbrev SV (k day : Int) (l : Value) : Value := .agg #[.int .i64 k, .bool false, .bool false, .int .u64 0, .int .u64 0, .int .i64 0, .string ⟨#[]⟩, .int .i64 day, l, .slice none 0 0]
end Go.Proofs.YtdmmpknpoephnaaDoor
namespace Go.Proofs.YtdmmpknpoephnaaDoor
open Go.RowKit
attribute [local go_sem] setCell_drewN cell?_ext frozen?_ext shape?_ext setCell_ext lt_1' ne_1' en_1' le_1' lt_2' ne_2' en_2' le_2' lt_3' ne_3' en_3' le_3' lt_4' ne_4' en_4' le_4' lt_5' ne_5' en_5' le_5' lt_6' ne_6' en_6' le_6' lt_7' ne_7' en_7' le_7' lt_8' ne_8' en_8' le_8' lt_9' ne_9' en_9' le_9' lt_10' ne_10' en_10' le_10' lt_11' ne_11' en_11' le_11' lt_12' ne_12' en_12' le_12'

set_option maxHeartbeats 4000000 in
theorem fits_nil (k day k2 o2 : Int) (hk : (k == 0) = false) (w : World) :
    Calls Tryd.prog 19 #[SV k day (.slice none 0 0), T k2 o2] w fun e w' => e = .returned (.bool ((k2 == 0) || (k == k2))) ∧ Below w.heap.size w w' := by
  cases h1 : (k2 == 0)
  · cases h2 : (k == k2)
    · go_enter Tryd.func19, Tryd.ntmps19
      go_wp2
      go_ret
      exact ⟨rfl, by (repeat' (first | (with_reducible exact Below.refl _ _) | (with_reducible assumption) | (with_reducible refine Below.alloc ?_ ?_ _) | (with_reducible refine below_drewN ?_ _) | (with_reducible refine below_drew ?_) | (with_reducible refine below_ext ?_ ?_ _ _) | (with_reducible refine Below.setCell ?_ ?_ _) | (simp; done) | (simp; omega) | omega))⟩
    · go_enter Tryd.func19, Tryd.ntmps19
      go_wp2
      go_loopw [5] (fun i wr => i = .int .i64 0 ∧ wr = (w.alloc (.cells #[.int .i64 k, .bool false, .bool false, .int .u64 0, .int .u64 0, .int .i64 0, .string ⟨#[]⟩, .int .i64 day, .slice none 0 0, .slice none 0 0] 30)).alloc (.cells #[.int .i64 k2, .int .i64 o2] 32)) (fun _ _ => 0)
      case atStart => exact ⟨rfl, rfl⟩
      case round =>
        obtain ⟨rfl, rfl⟩ := hrel
        cases h3 : (o2 == 0)
        · have n3 : (o2 != 0) = true := by rw [bne, h3]; rfl
          go_wp2
          go_ret
          exact ⟨rfl, by (repeat' (first | (with_reducible exact Below.refl _ _) | (with_reducible assumption) | (with_reducible refine Below.alloc ?_ ?_ _) | (with_reducible refine below_drewN ?_ _) | (with_reducible refine below_drew ?_) | (with_reducible refine below_ext ?_ ?_ _ _) | (with_reducible refine Below.setCell ?_ ?_ _) | (simp; done) | (simp; omega) | omega))⟩
        · have n3 : (o2 != 0) = false := by rw [bne, h3]; rfl
          go_wp2
          go_ret
          exact ⟨rfl, by (repeat' (first | (with_reducible exact Below.refl _ _) | (with_reducible assumption) | (with_reducible refine Below.alloc ?_ ?_ _) | (with_reducible refine below_drewN ?_ _) | (with_reducible refine below_drew ?_) | (with_reducible refine below_ext ?_ ?_ _ _) | (with_reducible refine Below.setCell ?_ ?_ _) | (simp; done) | (simp; omega) | omega))⟩
  · go_enter Tryd.func19, Tryd.ntmps19
    go_wp2
    go_ret
    exact ⟨rfl, by (repeat' (first | (with_reducible exact Below.refl _ _) | (with_reducible assumption) | (with_reducible refine Below.alloc ?_ ?_ _) | (with_reducible refine below_drewN ?_ _) | (with_reducible refine below_drew ?_) | (with_reducible refine below_ext ?_ ?_ _ _) | (with_reducible refine Below.setCell ?_ ?_ _) | (simp; done) | (simp; omega) | omega))⟩
set_option maxHeartbeats 4000000 in
theorem fits_one (g : Nat) (ek k2 o2 : Int) (he : (ek == 0) = false) (w : World) (hg : g < w.heap.size) (hc : w.cell? ⟨g, 0, none⟩ = some (.int .i64 ek)) :
    Calls Tryd.prog 19 #[SV 5 0 (.slice (some ⟨g, 0, none⟩) 1 1), T k2 o2] w fun e w' => e = .returned (.bool ((k2 == 0) || ((5 == k2) && ((o2 == 0) || (ek == o2))))) ∧ Below w.heap.size w w' := by
  have hn0 : (g = w.heap.size) = False := by simp; omega
  have hn1 : (g = w.heap.size + 1) = False := by simp; omega
  cases h1 : (k2 == 0)
  · cases h2 : ((5 : Int) == k2)
    · go_enter Tryd.func19, Tryd.ntmps19
      go_wp2
      go_ret
      exact ⟨rfl, by (repeat' (first | (with_reducible exact Below.refl _ _) | (with_reducible assumption) | (with_reducible refine Below.alloc ?_ ?_ _) | (with_reducible refine below_drewN ?_ _) | (with_reducible refine below_drew ?_) | (with_reducible refine below_ext ?_ ?_ _ _) | (with_reducible refine Below.setCell ?_ ?_ _) | (simp; done) | (simp; omega) | omega))⟩
    · cases h3 : (o2 == 0)
      · have n3 : (o2 != 0) = true := by rw [bne, h3]; rfl
        have ne : (ek != 0) = true := by rw [bne, he]; rfl
        cases h4 : (ek == o2)
        · have n4 : (ek != o2) = true := by rw [bne, h4]; rfl
          go_enter Tryd.func19, Tryd.ntmps19
          go_wp2
          go_loopw [5] (fun i wr => (i = .int .i64 0 ∨ i = .int .i64 1 ∧ (ek == o2) = true) ∧ ∃ n, wr = ((w.alloc (.cells #[.int .i64 5, .bool false, .bool false, .int .u64 0, .int .u64 0, .int .i64 0, .string ⟨#[]⟩, .int .i64 0, .slice (some ⟨g, 0, none⟩) 1 1, .slice none 0 0] 30)).alloc (.cells #[.int .i64 k2, .int .i64 o2] 32)).drewN n) (fun i _ => (1 - intOf i).toNat)
          case atStart => exact ⟨.inl rfl, 0, rfl⟩
          case round =>
            obtain ⟨hi, n, rfl⟩ := hrel
            rcases hi with rfl | ⟨rfl, h5⟩
            · go_wp2
              go_region_held3 (fun w' => w'.cell? ⟨w.heap.size, 8, none⟩ = some (.slice (some ⟨g, 0, none⟩) 1 1) ∧ w'.cell? ⟨g, 0, none⟩ = some (.int .i64 ek) ∧ w'.cell? ⟨w.heap.size + 1, 1, none⟩ = some (.int .i64 o2)) (first | (simp [go_sem]; done) | go_keep) (fail)
              all_goals
                go_wp2
                go_ret
                exact ⟨rfl, by (repeat' (first | (with_reducible exact Below.refl _ _) | (with_reducible assumption) | (with_reducible refine Below.alloc ?_ ?_ _) | (with_reducible refine below_drewN ?_ _) | (with_reducible refine below_drew ?_) | (with_reducible refine below_ext ?_ ?_ _ _) | (with_reducible refine Below.setCell ?_ ?_ _) | (simp; done) | (simp; omega) | omega))⟩
            · exfalso; rw [h4] at h5; cases h5
        · have n4 : (ek != o2) = false := by rw [bne, h4]; rfl
          go_enter Tryd.func19, Tryd.ntmps19
          go_wp2
          go_loopw [5] (fun i wr => (i = .int .i64 0 ∨ i = .int .i64 1 ∧ (ek == o2) = true) ∧ ∃ n, wr = ((w.alloc (.cells #[.int .i64 5, .bool false, .bool false, .int .u64 0, .int .u64 0, .int .i64 0, .string ⟨#[]⟩, .int .i64 0, .slice (some ⟨g, 0, none⟩) 1 1, .slice none 0 0] 30)).alloc (.cells #[.int .i64 k2, .int .i64 o2] 32)).drewN n) (fun i _ => (1 - intOf i).toNat)
          case atStart => exact ⟨.inl rfl, 0, rfl⟩
          case round =>
            obtain ⟨hi, n, rfl⟩ := hrel
            rcases hi with rfl | ⟨rfl, h5⟩
            · go_wp2
              go_region_held3 (fun w' => w'.cell? ⟨w.heap.size, 8, none⟩ = some (.slice (some ⟨g, 0, none⟩) 1 1) ∧ w'.cell? ⟨g, 0, none⟩ = some (.int .i64 ek) ∧ w'.cell? ⟨w.heap.size + 1, 1, none⟩ = some (.int .i64 o2)) (first | (simp [go_sem]; done) | go_keep) (fail)
              all_goals
                go_wp2
                go_roundw
                case rel => exact ⟨.inr ⟨rfl, h4⟩, _, rfl⟩
                case measure => simp [intOf]
            · clear h5
              go_wp2
              go_ret
              exact ⟨rfl, by (repeat' (first | (with_reducible exact Below.refl _ _) | (with_reducible assumption) | (with_reducible refine Below.alloc ?_ ?_ _) | (with_reducible refine below_drewN ?_ _) | (with_reducible refine below_drew ?_) | (with_reducible refine below_ext ?_ ?_ _ _) | (with_reducible refine Below.setCell ?_ ?_ _) | (simp; done) | (simp; omega) | omega))⟩
      · have n3 : (o2 != 0) = false := by rw [bne, h3]; rfl
        go_enter Tryd.func19, Tryd.ntmps19
        go_wp2
        go_loopw [5] (fun i wr => i = .int .i64 0 ∧ wr = (w.alloc (.cells #[.int .i64 5, .bool false, .bool false, .int .u64 0, .int .u64 0, .int .i64 0, .string ⟨#[]⟩, .int .i64 0, .slice (some ⟨g, 0, none⟩) 1 1, .slice none 0 0] 30)).alloc (.cells #[.int .i64 k2, .int .i64 o2] 32)) (fun _ _ => 0)
        case atStart => exact ⟨rfl, rfl⟩
        case round =>
          obtain ⟨rfl, rfl⟩ := hrel
          go_wp2
          go_ret
          exact ⟨rfl, by (repeat' (first | (with_reducible exact Below.refl _ _) | (with_reducible assumption) | (with_reducible refine Below.alloc ?_ ?_ _) | (with_reducible refine below_drewN ?_ _) | (with_reducible refine below_drew ?_) | (with_reducible refine below_ext ?_ ?_ _ _) | (with_reducible refine Below.setCell ?_ ?_ _) | (simp; done) | (simp; omega) | omega))⟩
  · go_enter Tryd.func19, Tryd.ntmps19
    go_wp2
    go_ret
    exact ⟨rfl, by (repeat' (first | (with_reducible exact Below.refl _ _) | (with_reducible assumption) | (with_reducible refine Below.alloc ?_ ?_ _) | (with_reducible refine below_drewN ?_ _) | (with_reducible refine below_drew ?_) | (with_reducible refine below_ext ?_ ?_ _ _) | (with_reducible refine Below.setCell ?_ ?_ _) | (simp; done) | (simp; omega) | omega))⟩
end Go.Proofs.YtdmmpknpoephnaaDoor
namespace Go.Proofs.YtdmmpknpoephnaaDoor
open Go.RowKit
attribute [local go_sem] setCell_drewN cell?_ext frozen?_ext shape?_ext setCell_ext lt_1' ne_1' en_1' le_1' lt_2' ne_2' en_2' le_2' lt_3' ne_3' en_3' le_3' lt_4' ne_4' en_4' le_4' lt_5' ne_5' en_5' le_5' lt_6' ne_6' en_6' le_6' lt_7' ne_7' en_7' le_7' lt_8' ne_8' en_8' le_8' lt_9' ne_9' en_9' le_9' lt_10' ne_10' en_10' le_10' lt_11' ne_11' en_11' le_11' lt_12' ne_12' en_12' le_12'

theorem tform_ten {k o : Int} (h : tform k o = true) : (k = 0 ∧ o = 0) ∨ (k = 1 ∧ o = 0) ∨ (k = 2 ∧ o = 0) ∨ (k = 3 ∧ o = 0) ∨ (k = 4 ∧ o = 0) ∨ (k = 5 ∧ o = 0) ∨ (k = 5 ∧ o = 1) ∨ (k = 5 ∧ o = 2) ∨ (k = 5 ∧ o = 3) ∨ (k = 5 ∧ o = 4) := by
  unfold tform at h
  by_cases h5 : k = 5
  · rw [if_pos h5] at h
    obtain ⟨a, b⟩ := (Bool.and_eq_true _ _).mp h
    have a := of_decide_eq_true a
    have b := of_decide_eq_true b
    omega
  · rw [if_neg h5] at h
    obtain ⟨a, b⟩ := (Bool.and_eq_true _ _).mp h
    obtain ⟨b, c⟩ := (Bool.and_eq_true _ _).mp b
    have a := of_decide_eq_true a
    have b := of_decide_eq_true b
    have c := of_decide_eq_true c
    omega
end Go.Proofs.YtdmmpknpoephnaaDoor
namespace Go.Proofs.YtdmmpknpoephnaaDoor
open Go.RowKit
attribute [local go_sem] setCell_drewN cell?_ext frozen?_ext shape?_ext setCell_ext lt_1' ne_1' en_1' le_1' lt_2' ne_2' en_2' le_2' lt_3' ne_3' en_3' le_3' lt_4' ne_4' en_4' le_4' lt_5' ne_5' en_5' le_5' lt_6' ne_6' en_6' le_6' lt_7' ne_7' en_7' le_7' lt_8' ne_8' en_8' le_8' lt_9' ne_9' en_9' le_9' lt_10' ne_10' en_10' le_10' lt_11' ne_11' en_11' le_11' lt_12' ne_12' en_12' le_12'

theorem kdform_yes {k o : Int} (h : tform k o = true) (w : World) : Calls Tryd.prog 10 #[T k o] w fun e w' => e = .returned (.bool true) ∧ Below w.heap.size w w' := by
  have := kdform_any k o w
  rwa [h] at this
theorem kdform_no {k o : Int} (h : tform k o = false) (w : World) : Calls Tryd.prog 10 #[T k o] w fun e w' => e = .returned (.bool false) ∧ Below w.heap.size w w' := by
  have := kdform_any k o w
  rwa [h] at this
end Go.Proofs.YtdmmpknpoephnaaDoor
namespace Go.Proofs.YtdmmpknpoephnaaDoor
open Go.RowKit
attribute [local go_sem] setCell_drewN cell?_ext frozen?_ext shape?_ext setCell_ext lt_1' ne_1' en_1' le_1' lt_2' ne_2' en_2' le_2' lt_3' ne_3' en_3' le_3' lt_4' ne_4' en_4' le_4' lt_5' ne_5' en_5' le_5' lt_6' ne_6' en_6' le_6' lt_7' ne_7' en_7' le_7' lt_8' ne_8' en_8' le_8' lt_9' ne_9' en_9' le_9' lt_10' ne_10' en_10' le_10' lt_11' ne_11' en_11' le_11' lt_12' ne_12' en_12' le_12'

/-- the i-th of the ten -/
def tK (n : Nat) : Int := if n < 5 then (n : Int) else 5
def tO (n : Nat) : Int := if n < 5 then 0 else (n : Int) - 5
theorem of_form (n : Nat) (hn : n < 10) : tform (tK n) (tO n) = true := by
  have h : ∀ n : Fin 10, tform (tK n) (tO n) = true := by decide
  exact h ⟨n, hn⟩
/-- what stands in the join after n of the ten -/
def jn (k1 o1 k2 o2 : Int) : Nat → Int × Int
  | 0 => (0, 0)
  | n + 1 => let p := jn k1 o1 k2 o2 n; if (unB k1 o1 (tK n) (tO n) && (unB k2 o2 (tK n) (tO n) && unB (tK n) (tO n) p.1 p.2)) = true then (tK n, tO n) else p
theorem jn_form (k1 o1 k2 o2 : Int) : ∀ n, n ≤ 10 → tform (jn k1 o1 k2 o2 n).1 (jn k1 o1 k2 o2 n).2 = true
  | 0, _ => rfl
  | n + 1, h => by
    unfold jn
    have ih := jn_form k1 o1 k2 o2 n (by omega)
    by_cases hc : (unB k1 o1 (tK n) (tO n) && (unB k2 o2 (tK n) (tO n) && unB (tK n) (tO n) (jn k1 o1 k2 o2 n).1 (jn k1 o1 k2 o2 n).2)) = true
    · simp only [hc, if_true]; exact of_form n (by omega)
    · simp only [hc]; exact ih
theorem jn_join (k1 o1 k2 o2 : Int) (fa : tform k1 o1 = true) (fb : tform k2 o2 = true) : jn k1 o1 k2 o2 10 = (joinK k1 o1 k2 o2, joinO k1 o1 k2 o2) := by
  rcases tform_ten fa with ⟨rfl, rfl⟩ | ⟨rfl, rfl⟩ | ⟨rfl, rfl⟩ | ⟨rfl, rfl⟩ | ⟨rfl, rfl⟩ | ⟨rfl, rfl⟩ | ⟨rfl, rfl⟩ | ⟨rfl, rfl⟩ | ⟨rfl, rfl⟩ | ⟨rfl, rfl⟩ <;>
  rcases tform_ten fb with ⟨rfl, rfl⟩ | ⟨rfl, rfl⟩ | ⟨rfl, rfl⟩ | ⟨rfl, rfl⟩ | ⟨rfl, rfl⟩ | ⟨rfl, rfl⟩ | ⟨rfl, rfl⟩ | ⟨rfl, rfl⟩ | ⟨rfl, rfl⟩ | ⟨rfl, rfl⟩ <;> decide
end Go.Proofs.YtdmmpknpoephnaaDoor
namespace Go.Proofs.YtdmmpknpoephnaaDoor
open Go.RowKit
attribute [local go_sem] setCell_drewN cell?_ext frozen?_ext shape?_ext setCell_ext lt_1' ne_1' en_1' le_1' lt_2' ne_2' en_2' le_2' lt_3' ne_3' en_3' le_3' lt_4' ne_4' en_4' le_4' lt_5' ne_5' en_5' le_5' lt_6' ne_6' en_6' le_6' lt_7' ne_7' en_7' le_7' lt_8' ne_8' en_8' le_8' lt_9' ne_9' en_9' le_9' lt_10' ne_10' en_10' le_10' lt_11' ne_11' en_11' le_11' lt_12' ne_12' en_12' le_12'

theorem T00 : (Value.agg #[.int .i64 0, .int .i64 0]) = T 0 0 := rfl
theorem kJoin_bad1 (k1 o1 k2 o2 : Int) (fa : tform k1 o1 = false) (w : World) :
    Calls Tryd.prog 12 #[T k1 o1, T k2 o2] w fun e w' => e = .returned (.tuple #[T 0 0, .int .i64 2]) ∧ Below w.heap.size w w' := by
  have F1 := Lib.hid (fun w => kform_no fa w)
  clear fa
  go_enter Tryd.func12, Tryd.ntmps12
  go_wp2_with (first
    | (go_at_call 20; ((with_reducible refine (F1.out _).mono ?_); rintro e w1 ⟨rfl, hb1⟩; obtain ⟨osA, dA, rfl⟩ := ext_of_below hb1; clear hb1)))
  go_returns
  exact ⟨rfl, by (repeat' (first | (with_reducible exact Below.refl _ _) | (with_reducible assumption) | (with_reducible refine Below.alloc ?_ ?_ _) | (with_reducible refine below_drewN ?_ _) | (with_reducible refine below_drew ?_) | (with_reducible refine below_ext ?_ ?_ _ _) | (with_reducible refine Below.setCell ?_ ?_ _) | (simp; done) | (simp; omega) | omega))⟩
theorem kJoin_bad2 (k1 o1 k2 o2 : Int) (fa : tform k1 o1 = true) (fb : tform k2 o2 = false) (w : World) :
    Calls Tryd.prog 12 #[T k1 o1, T k2 o2] w fun e w' => e = .returned (.tuple #[T 0 0, .int .i64 2]) ∧ Below w.heap.size w w' := by
  have F1 := Lib.hid (fun w => kform_yes fa w)
  have F2 := Lib.hid (fun w => kform_no fb w)
  clear fa fb
  go_enter Tryd.func12, Tryd.ntmps12
  go_wp2_with (first
    | (go_at_call 20; ((with_reducible refine (F1.out _).mono ?_); rintro e w1 ⟨rfl, hb1⟩; obtain ⟨osA, dA, rfl⟩ := ext_of_below hb1; clear hb1))
    | (go_at_call 20; ((with_reducible refine (F2.out _).mono ?_); rintro e w1 ⟨rfl, hb1⟩; obtain ⟨osB, dB, rfl⟩ := ext_of_below hb1; clear hb1)))
  go_returns
  exact ⟨rfl, by (repeat' (first | (with_reducible exact Below.refl _ _) | (with_reducible assumption) | (with_reducible refine Below.alloc ?_ ?_ _) | (with_reducible refine below_drewN ?_ _) | (with_reducible refine below_drew ?_) | (with_reducible refine below_ext ?_ ?_ _ _) | (with_reducible refine Below.setCell ?_ ?_ _) | (simp; done) | (simp; omega) | omega))⟩
end Go.Proofs.YtdmmpknpoephnaaDoor
