/-
  The document's: how many parts, which sort, what is wanted, the fields of a node.
-/
import Derived.Test.YtpgfgaloagdogaaDoorNodU
import Derived.Test.YtpgfgaloagdogaaDoorDocOne
import Derived.Test.YtpgfgaloagdogaaDoorBb
import Derived.Test.YtpgfgaloagdogaaDoorBg
namespace Go.Proofs.YtpgfgaloagdogaaDoor
open Go.RowKit Word Txt
attribute [local go_sem] setCell_drewN cell?_ext frozen?_ext shape?_ext setCell_ext lt_1' ne_1' en_1' le_1' lt_2' ne_2' en_2' le_2' lt_3' ne_3' en_3' le_3' lt_4' ne_4' en_4' le_4' lt_5' ne_5' en_5' le_5' lt_6' ne_6' en_6' le_6' lt_7' ne_7' en_7' le_7' lt_8' ne_8' en_8' le_8' lt_9' ne_9' en_9' le_9' lt_10' ne_10' en_10' le_10' lt_11' ne_11' en_11' le_11' lt_12' ne_12' en_12' le_12'

theorem rkids_none {op k : Int} (h : op < 1 ∨ 37 < op) : takesN op k = false := by unfold takesN; rw [if_neg (by omega), if_neg (by omega), if_neg (by omega), if_neg (by omega), if_neg (by omega), if_neg (by omega), if_neg (by omega)]
set_option maxRecDepth 100000 in
set_option maxHeartbeats 4000000 in
theorem rkids_any (op k : Int) (w : World) : Calls Tryd.prog 38 #[.int .i64 op, .int .i64 k] w fun e w' => e = .returned (.bool (takesN op k)) ∧ w' = w := by
  have hc : (1 ≤ op ∧ op ≤ 7) ∨ (op = 29) ∨ (op = 8) ∨ (op = 24) ∨ (op = 28) ∨ (30 ≤ op ∧ op ≤ 34) ∨ (op = 37) ∨ (9 ≤ op ∧ op ≤ 20) ∨ (op = 23) ∨ (op = 35) ∨ (op = 21) ∨ (op = 22) ∨ (op = 25) ∨ (op = 26) ∨ (op = 27) ∨ (op = 36) ∨ (op < 1) ∨ (37 < op) := by omega
  rcases hc with h | rfl | rfl | rfl | rfl | h | rfl | h | rfl | rfl | rfl | rfl | rfl | rfl | rfl | rfl | h | h
  · rw [show takesN op k = (decide (k = 0)) by unfold takesN; rw [if_pos (by omega)]]
    have q8 : (op == 8) = false := beq_eq_false_iff_ne.2 (by omega)
    have q21 : (op == 21) = false := beq_eq_false_iff_ne.2 (by omega)
    have q22 : (op == 22) = false := beq_eq_false_iff_ne.2 (by omega)
    have q23 : (op == 23) = false := beq_eq_false_iff_ne.2 (by omega)
    have q24 : (op == 24) = false := beq_eq_false_iff_ne.2 (by omega)
    have q25 : (op == 25) = false := beq_eq_false_iff_ne.2 (by omega)
    have q26 : (op == 26) = false := beq_eq_false_iff_ne.2 (by omega)
    have q27 : (op == 27) = false := beq_eq_false_iff_ne.2 (by omega)
    have q28 : (op == 28) = false := beq_eq_false_iff_ne.2 (by omega)
    have q29 : (op == 29) = false := beq_eq_false_iff_ne.2 (by omega)
    have q35 : (op == 35) = false := beq_eq_false_iff_ne.2 (by omega)
    have q36 : (op == 36) = false := beq_eq_false_iff_ne.2 (by omega)
    have q37 : (op == 37) = false := beq_eq_false_iff_ne.2 (by omega)
    obtain ⟨h1, h2⟩ := h
    rw [← beq_dec]
    go_enter Tryd.func38, Tryd.ntmps38
    go_wp2
    all_goals
      go_ret
      exact ⟨rfl, rfl⟩
  · rw [show takesN 29 k = (decide (k = 0)) from rfl]
    rw [← beq_dec]
    go_enter Tryd.func38, Tryd.ntmps38
    go_wp2
    all_goals
      go_ret
      exact ⟨rfl, rfl⟩
  · rw [show takesN 8 k = (decide (k = 1)) from rfl]
    rw [← beq_dec]
    go_enter Tryd.func38, Tryd.ntmps38
    go_wp2
    all_goals
      go_ret
      exact ⟨rfl, rfl⟩
  · rw [show takesN 24 k = (decide (k = 1)) from rfl]
    rw [← beq_dec]
    go_enter Tryd.func38, Tryd.ntmps38
    go_wp2
    all_goals
      go_ret
      exact ⟨rfl, rfl⟩
  · rw [show takesN 28 k = (decide (k = 1)) from rfl]
    rw [← beq_dec]
    go_enter Tryd.func38, Tryd.ntmps38
    go_wp2
    all_goals
      go_ret
      exact ⟨rfl, rfl⟩
  · rw [show takesN op k = (decide (k = 1)) by unfold takesN; rw [if_neg (by omega), if_pos (by omega)]]
    have q8 : (op == 8) = false := beq_eq_false_iff_ne.2 (by omega)
    have q21 : (op == 21) = false := beq_eq_false_iff_ne.2 (by omega)
    have q22 : (op == 22) = false := beq_eq_false_iff_ne.2 (by omega)
    have q23 : (op == 23) = false := beq_eq_false_iff_ne.2 (by omega)
    have q24 : (op == 24) = false := beq_eq_false_iff_ne.2 (by omega)
    have q25 : (op == 25) = false := beq_eq_false_iff_ne.2 (by omega)
    have q26 : (op == 26) = false := beq_eq_false_iff_ne.2 (by omega)
    have q27 : (op == 27) = false := beq_eq_false_iff_ne.2 (by omega)
    have q28 : (op == 28) = false := beq_eq_false_iff_ne.2 (by omega)
    have q29 : (op == 29) = false := beq_eq_false_iff_ne.2 (by omega)
    have q35 : (op == 35) = false := beq_eq_false_iff_ne.2 (by omega)
    have q36 : (op == 36) = false := beq_eq_false_iff_ne.2 (by omega)
    have q37 : (op == 37) = false := beq_eq_false_iff_ne.2 (by omega)
    obtain ⟨h1, h2⟩ := h
    have h3 : ¬ op ≤ 7 := by omega
    have h4 : ¬ op ≤ 20 := by omega
    have h5 : 1 ≤ op := by omega
    have h6 : 28 ≤ op := by omega
    have h7 : 9 ≤ op := by omega
    rw [← beq_dec]
    go_enter Tryd.func38, Tryd.ntmps38
    go_wp2
    all_goals
      go_ret
      exact ⟨rfl, rfl⟩
  · rw [show takesN 37 k = (decide (k = 1)) from rfl]
    rw [← beq_dec]
    go_enter Tryd.func38, Tryd.ntmps38
    go_wp2
    all_goals
      go_ret
      exact ⟨rfl, rfl⟩
  · rw [show takesN op k = (decide (k = 2)) by unfold takesN; rw [if_neg (by omega), if_neg (by omega), if_pos (by omega)]]
    have q8 : (op == 8) = false := beq_eq_false_iff_ne.2 (by omega)
    have q21 : (op == 21) = false := beq_eq_false_iff_ne.2 (by omega)
    have q22 : (op == 22) = false := beq_eq_false_iff_ne.2 (by omega)
    have q23 : (op == 23) = false := beq_eq_false_iff_ne.2 (by omega)
    have q24 : (op == 24) = false := beq_eq_false_iff_ne.2 (by omega)
    have q25 : (op == 25) = false := beq_eq_false_iff_ne.2 (by omega)
    have q26 : (op == 26) = false := beq_eq_false_iff_ne.2 (by omega)
    have q27 : (op == 27) = false := beq_eq_false_iff_ne.2 (by omega)
    have q28 : (op == 28) = false := beq_eq_false_iff_ne.2 (by omega)
    have q29 : (op == 29) = false := beq_eq_false_iff_ne.2 (by omega)
    have q35 : (op == 35) = false := beq_eq_false_iff_ne.2 (by omega)
    have q36 : (op == 36) = false := beq_eq_false_iff_ne.2 (by omega)
    have q37 : (op == 37) = false := beq_eq_false_iff_ne.2 (by omega)
    obtain ⟨h1, h2⟩ := h
    have h3 : ¬ op ≤ 7 := by omega
    have h4 : ¬ 28 ≤ op := by omega
    have h5 : 1 ≤ op := by omega
    rw [← beq_dec]
    go_enter Tryd.func38, Tryd.ntmps38
    go_wp2
    all_goals
      go_ret
      exact ⟨rfl, rfl⟩
  · rw [show takesN 23 k = (decide (k = 2)) from rfl]
    rw [← beq_dec]
    go_enter Tryd.func38, Tryd.ntmps38
    go_wp2
    all_goals
      go_ret
      exact ⟨rfl, rfl⟩
  · rw [show takesN 35 k = (decide (k = 2)) from rfl]
    rw [← beq_dec]
    go_enter Tryd.func38, Tryd.ntmps38
    go_wp2
    all_goals
      go_ret
      exact ⟨rfl, rfl⟩
  · rw [show takesN 21 k = (decide (k = 3)) from rfl]
    rw [← beq_dec]
    go_enter Tryd.func38, Tryd.ntmps38
    go_wp2
    all_goals
      go_ret
      exact ⟨rfl, rfl⟩
  · rw [show takesN 22 k = (decide (k = 3)) from rfl]
    rw [← beq_dec]
    go_enter Tryd.func38, Tryd.ntmps38
    go_wp2
    all_goals
      go_ret
      exact ⟨rfl, rfl⟩
  · rw [show takesN 25 k = (decide (0 ≤ k) && decide (k ≤ 8)) from rfl]
    by_cases h0 : 0 ≤ k
    all_goals
      first | rw [decide_eq_true h0] | rw [decide_eq_false h0]
      go_enter Tryd.func38, Tryd.ntmps38
      go_wp2
      all_goals
        go_ret
        exact ⟨rfl, rfl⟩
  · rw [show takesN 26 k = (decide (0 ≤ k)) from rfl]
    go_enter Tryd.func38, Tryd.ntmps38
    go_wp2
    all_goals
      go_ret
      exact ⟨rfl, rfl⟩
  · rw [show takesN 27 k = (decide (0 ≤ k)) from rfl]
    go_enter Tryd.func38, Tryd.ntmps38
    go_wp2
    all_goals
      go_ret
      exact ⟨rfl, rfl⟩
  · rw [show takesN 36 k = (decide (1 ≤ k)) from rfl]
    go_enter Tryd.func38, Tryd.ntmps38
    go_wp2
    all_goals
      go_ret
      exact ⟨rfl, rfl⟩
  · rw [rkids_none (by omega)]
    have q8 : (op == 8) = false := beq_eq_false_iff_ne.2 (by omega)
    have q21 : (op == 21) = false := beq_eq_false_iff_ne.2 (by omega)
    have q22 : (op == 22) = false := beq_eq_false_iff_ne.2 (by omega)
    have q23 : (op == 23) = false := beq_eq_false_iff_ne.2 (by omega)
    have q24 : (op == 24) = false := beq_eq_false_iff_ne.2 (by omega)
    have q25 : (op == 25) = false := beq_eq_false_iff_ne.2 (by omega)
    have q26 : (op == 26) = false := beq_eq_false_iff_ne.2 (by omega)
    have q27 : (op == 27) = false := beq_eq_false_iff_ne.2 (by omega)
    have q28 : (op == 28) = false := beq_eq_false_iff_ne.2 (by omega)
    have q29 : (op == 29) = false := beq_eq_false_iff_ne.2 (by omega)
    have q35 : (op == 35) = false := beq_eq_false_iff_ne.2 (by omega)
    have q36 : (op == 36) = false := beq_eq_false_iff_ne.2 (by omega)
    have q37 : (op == 37) = false := beq_eq_false_iff_ne.2 (by omega)
    have h3 : ¬ 1 ≤ op := by omega
    have h4 : ¬ 28 ≤ op := by omega
    have h5 : ¬ 9 ≤ op := by omega
    go_enter Tryd.func38, Tryd.ntmps38
    go_wp2
    all_goals
      go_ret
      exact ⟨rfl, rfl⟩
  · rw [rkids_none (by omega)]
    have q8 : (op == 8) = false := beq_eq_false_iff_ne.2 (by omega)
    have q21 : (op == 21) = false := beq_eq_false_iff_ne.2 (by omega)
    have q22 : (op == 22) = false := beq_eq_false_iff_ne.2 (by omega)
    have q23 : (op == 23) = false := beq_eq_false_iff_ne.2 (by omega)
    have q24 : (op == 24) = false := beq_eq_false_iff_ne.2 (by omega)
    have q25 : (op == 25) = false := beq_eq_false_iff_ne.2 (by omega)
    have q26 : (op == 26) = false := beq_eq_false_iff_ne.2 (by omega)
    have q27 : (op == 27) = false := beq_eq_false_iff_ne.2 (by omega)
    have q28 : (op == 28) = false := beq_eq_false_iff_ne.2 (by omega)
    have q29 : (op == 29) = false := beq_eq_false_iff_ne.2 (by omega)
    have q35 : (op == 35) = false := beq_eq_false_iff_ne.2 (by omega)
    have q36 : (op == 36) = false := beq_eq_false_iff_ne.2 (by omega)
    have q37 : (op == 37) = false := beq_eq_false_iff_ne.2 (by omega)
    have h3 : ¬ op ≤ 7 := by omega
    have h4 : ¬ op ≤ 34 := by omega
    have h5 : ¬ op ≤ 20 := by omega
    have h6 : 1 ≤ op := by omega
    have h7 : 28 ≤ op := by omega
    have h8 : 9 ≤ op := by omega
    go_enter Tryd.func38, Tryd.ntmps38
    go_wp2
    all_goals
      go_ret
      exact ⟨rfl, rfl⟩
theorem rsort_any (op : Int) (w : World) : Calls Tryd.prog 26 #[.int .i64 op] w fun e w' => e = .returned (.int .i64 (sortN op)) ∧ w' = w := by
  have hc : op ≤ 27 ∨ op = 28 ∨ (30 ≤ op ∧ op ≤ 35) ∨ op = 36 ∨ (27 < op ∧ op ≠ 28 ∧ ¬ (30 ≤ op ∧ op ≤ 35) ∧ op ≠ 36) := by omega
  obtain ⟨r, hr⟩ : ∃ r, r = sortN op := ⟨_, rfl⟩
  have HR := Lib.hid hr
  rw [← hr]
  clear hr
  rcases hc with h | rfl | h | rfl | h
  all_goals
    go_enter Tryd.func26, Tryd.ntmps26
    go_wp2
    all_goals
      go_ret
      refine ⟨?_, rfl⟩
      rw [HR.out]
      clear HR
      first
        | (simp_all [sortN]; done)
        | (simp_all [sortN]; omega)
        | (rw [show sortN op = 3 by unfold sortN; rw [if_neg (by omega), if_neg (by omega), if_pos (by omega)]])
        | (rw [show sortN op = 5 by unfold sortN; rw [if_neg (by omega), if_neg (by omega), if_neg (by omega), if_neg (by omega)]])
theorem rwants_any (op i : Int) (w : World) : Calls Tryd.prog 27 #[.int .i64 op, .int .i64 i] w fun e w' => e = .returned (.int .i64 (wantN op i + 1)) ∧ w' = w := by
  obtain ⟨r, hr⟩ : ∃ r, r = wantN op i + 1 := ⟨_, rfl⟩
  have HR := Lib.hid hr
  rw [← hr]
  clear hr
  by_cases h : op = 23 <;> by_cases h1 : i = 1
  all_goals
    have q1 : (op == 23) = decide (op = 23) := beq_dec _ _
    have q2 : (i == 1) = decide (i = 1) := beq_dec _ _
    first | rw [decide_eq_true h] at q1 | rw [decide_eq_false h] at q1
    first | rw [decide_eq_true h1] at q2 | rw [decide_eq_false h1] at q2
    go_enter Tryd.func27, Tryd.ntmps27
    go_wp2
    all_goals
      go_ret
      refine ⟨?_, rfl⟩
      rw [HR.out]
      clear HR
      simp_all [wantN]
theorem rnm_is (s : ByteArray) (w : World) : Calls Tryd.prog 42 #[.string s] w fun e w' => e = .returned (.bool (nmB s)) ∧ w' = w := by
  unfold nmB
  by_cases h : IsName s
  · simpa [h] using (rname_yes s h w).mono fun _ _ ⟨a, b⟩ => ⟨a, b.symm⟩
  · simpa [h] using (rname_no s h w).mono fun _ _ ⟨a, b⟩ => ⟨a, b.symm⟩
theorem ris_any (d : Int) (w : World) : Calls Tryd.prog 41 #[.int .i64 d] w fun e w' => e = .returned (.bool (decide (1 ≤ d ∧ d ≤ 3652059))) ∧ w' = w := by
  by_cases h : 1 ≤ d ∧ d ≤ 3652059
  · rw [decide_eq_true h]; exact (is_ref d h.1 h.2 w).mono fun _ _ ⟨a, b⟩ => ⟨a, b.symm⟩
  · rw [decide_eq_false h]; exact (is_no d (by omega) w).mono fun _ _ ⟨a, b⟩ => ⟨a, b.symm⟩
end Go.Proofs.YtpgfgaloagdogaaDoor
