/-
  Contracts of package kind and of the document's kinds: form, what lies under what, the join.
-/
import Derived.Test.YtdmmpknpoephnaaDoorBb
namespace Go.Proofs.YtdmmpknpoephnaaDoor
open Go.RowKit
attribute [local go_sem] setCell_drewN cell?_ext frozen?_ext shape?_ext setCell_ext lt_1' ne_1' en_1' le_1' lt_2' ne_2' en_2' le_2' lt_3' ne_3' en_3' le_3' lt_4' ne_4' en_4' le_4' lt_5' ne_5' en_5' le_5' lt_6' ne_6' en_6' le_6' lt_7' ne_7' en_7' le_7' lt_8' ne_8' en_8' le_8' lt_9' ne_9' en_9' le_9' lt_10' ne_10' en_10' le_10' lt_11' ne_11' en_11' le_11' lt_12' ne_12' en_12' le_12'

/-- a type as a value -/
abbrev T (k o : Int) : Value := .agg #[.int .i64 k, .int .i64 o]
/-- is it a type? -/
def tform (k o : Int) : Bool := if k = 5 then decide (0 ≤ o) && decide (o ≤ 4) else decide (0 ≤ k) && (decide (k ≤ 4) && decide (o = 0))
theorem kform_any (k o : Int) (w : World) :
    Calls Tryd.prog 20 #[T k o] w fun e w' => e = .returned (.bool (tform k o)) ∧ Below w.heap.size w w' := by
  unfold tform
  by_cases h5 : k = 5
  · subst h5
    rw [if_pos rfl]
    by_cases h1 : 0 ≤ o
    · rw [decide_eq_true h1]
      by_cases h2 : o ≤ 4
      · rw [decide_eq_true h2]
        go_enter Tryd.func20, Tryd.ntmps20
        go_wp2
        go_ret
        exact ⟨rfl, by (repeat' (first | (with_reducible exact Below.refl _ _) | (with_reducible assumption) | (with_reducible refine Below.alloc ?_ ?_ _) | (with_reducible refine below_drewN ?_ _) | (with_reducible refine below_drew ?_) | (with_reducible refine below_ext ?_ ?_ _ _) | (with_reducible refine Below.setCell ?_ ?_ _) | (simp; done) | (simp; omega) | omega))⟩
      · rw [decide_eq_false h2]
        go_enter Tryd.func20, Tryd.ntmps20
        go_wp2
        go_ret
        exact ⟨rfl, by (repeat' (first | (with_reducible exact Below.refl _ _) | (with_reducible assumption) | (with_reducible refine Below.alloc ?_ ?_ _) | (with_reducible refine below_drewN ?_ _) | (with_reducible refine below_drew ?_) | (with_reducible refine below_ext ?_ ?_ _ _) | (with_reducible refine Below.setCell ?_ ?_ _) | (simp; done) | (simp; omega) | omega))⟩
    · rw [decide_eq_false h1]
      go_enter Tryd.func20, Tryd.ntmps20
      go_wp2
      go_ret
      exact ⟨rfl, by (repeat' (first | (with_reducible exact Below.refl _ _) | (with_reducible assumption) | (with_reducible refine Below.alloc ?_ ?_ _) | (with_reducible refine below_drewN ?_ _) | (with_reducible refine below_drew ?_) | (with_reducible refine below_ext ?_ ?_ _ _) | (with_reducible refine Below.setCell ?_ ?_ _) | (simp; done) | (simp; omega) | omega))⟩
  · rw [if_neg h5]
    have hb5 : (k == 5) = false := beq_eq_false_iff_ne.2 h5
    by_cases h1 : 0 ≤ k
    · rw [decide_eq_true h1]
      by_cases h2 : k ≤ 4
      · rw [decide_eq_true h2]
        by_cases h3 : o = 0
        · subst h3
          clear h5
          go_enter Tryd.func20, Tryd.ntmps20
          go_wp2
          go_ret
          exact ⟨rfl, by (repeat' (first | (with_reducible exact Below.refl _ _) | (with_reducible assumption) | (with_reducible refine Below.alloc ?_ ?_ _) | (with_reducible refine below_drewN ?_ _) | (with_reducible refine below_drew ?_) | (with_reducible refine below_ext ?_ ?_ _ _) | (with_reducible refine Below.setCell ?_ ?_ _) | (simp; done) | (simp; omega) | omega))⟩
        · rw [decide_eq_false h3]
          have hb3 : (o == 0) = false := beq_eq_false_iff_ne.2 h3
          clear h5 h3
          go_enter Tryd.func20, Tryd.ntmps20
          go_wp2
          go_ret
          exact ⟨rfl, by (repeat' (first | (with_reducible exact Below.refl _ _) | (with_reducible assumption) | (with_reducible refine Below.alloc ?_ ?_ _) | (with_reducible refine below_drewN ?_ _) | (with_reducible refine below_drew ?_) | (with_reducible refine below_ext ?_ ?_ _ _) | (with_reducible refine Below.setCell ?_ ?_ _) | (simp; done) | (simp; omega) | omega))⟩
      · rw [decide_eq_false h2]
        clear h5
        go_enter Tryd.func20, Tryd.ntmps20
        go_wp2
        go_ret
        exact ⟨rfl, by (repeat' (first | (with_reducible exact Below.refl _ _) | (with_reducible assumption) | (with_reducible refine Below.alloc ?_ ?_ _) | (with_reducible refine below_drewN ?_ _) | (with_reducible refine below_drew ?_) | (with_reducible refine below_ext ?_ ?_ _ _) | (with_reducible refine Below.setCell ?_ ?_ _) | (simp; done) | (simp; omega) | omega))⟩
    · rw [decide_eq_false h1]
      clear h5
      go_enter Tryd.func20, Tryd.ntmps20
      go_wp2
      go_ret
      exact ⟨rfl, by (repeat' (first | (with_reducible exact Below.refl _ _) | (with_reducible assumption) | (with_reducible refine Below.alloc ?_ ?_ _) | (with_reducible refine below_drewN ?_ _) | (with_reducible refine below_drew ?_) | (with_reducible refine below_ext ?_ ?_ _ _) | (with_reducible refine Below.setCell ?_ ?_ _) | (simp; done) | (simp; omega) | omega))⟩
/-- what lies under what, as the program asks it -/
def unB (k1 o1 k2 o2 : Int) : Bool := ((k1 == k2) && (o1 == o2)) || (((k2 == 0) && (o2 == 0)) || ((k1 == 5) && ((k2 == 5) && (o2 == 0))))
set_option maxHeartbeats 4000000 in
theorem under_any (k1 o1 k2 o2 : Int) (w : World) :
    Calls Tryd.prog 26 #[T k1 o1, T k2 o2] w fun e w' => e = .returned (.bool (unB k1 o1 k2 o2)) ∧ Below w.heap.size w w' := by
  unfold unB
  cases h1 : (k1 == k2) <;> cases h2 : (o1 == o2) <;> cases h3 : (k2 == 0) <;> cases h4 : (o2 == 0) <;> cases h5 : (k1 == 5) <;> cases h6 : (k2 == 5)
  all_goals
    go_enter Tryd.func26, Tryd.ntmps26
    go_wp2
    go_ret
    exact ⟨rfl, by (repeat' (first | (with_reducible exact Below.refl _ _) | (with_reducible assumption) | (with_reducible refine Below.alloc ?_ ?_ _) | (with_reducible refine below_drewN ?_ _) | (with_reducible refine below_drew ?_) | (with_reducible refine below_ext ?_ ?_ _ _) | (with_reducible refine Below.setCell ?_ ?_ _) | (simp; done) | (simp; omega) | omega))⟩
end Go.Proofs.YtdmmpknpoephnaaDoor
