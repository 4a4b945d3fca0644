/-
  Contracts of the small functions of package dec: long, low, addLong, subLong.
  The contract of package dec's cmpLong.
  Contracts of package dec: isZero, fits, raised, split, push, settle.
  Contracts of package dec: settle, fit.
  Plain facts about decimals in form: no program stands in this text.
  Contracts of package dec: Form, fit.
  The contract of package dec's fit.
-/
import Derived.Test.YtalahkincccffaaGreatDoorWideB
import Derived.Test.YtalahkincccffaaGreatDoorBa
import Derived.Test.YtalahkincccffaaGreatDoorRound
import Derived.Test.YtalahkincccffaaGreatDoorBc
namespace Go.Proofs.YtalahkincccffaaGreatDoor
open Go.RowKit Word
attribute [local go_sem] setCell_drewN cell?_ext frozen?_ext shape?_ext setCell_ext lt_1' ne_1' en_1' le_1' lt_2' ne_2' en_2' le_2' lt_3' ne_3' en_3' le_3' lt_4' ne_4' en_4' le_4' lt_5' ne_5' en_5' le_5' lt_6' ne_6' en_6' le_6' lt_7' ne_7' en_7' le_7' lt_8' ne_8' en_8' le_8' lt_9' ne_9' en_9' le_9' lt_10' ne_10' en_10' le_10' lt_11' ne_11' en_11' le_11' lt_12' ne_12' en_12' le_12'

abbrev D (neg : Bool) (c : Nat) (s : Int) : Value := .agg #[.bool neg, .int .u64 (hi c : Int), .int .u64 (lo c : Int), .int .i64 s]

theorem dlong_any (n : Nat) (hn : n < top2) (w : World) :
    Calls Tryz.prog 101 #[W n] w fun e w' => e = .returned (L n) ∧ Below w.heap.size w w' := by
  obtain ⟨h0, h1, h2, h3⟩ := long_words hn
  have HL : L n = .agg #[.int .u64 (lo n : Int), .int .u64 (hi n : Int), .int .u64 0, .int .u64 0] := by simp only [L, h0, h1, h2, h3]; rfl
  rw [HL]
  clear h0 h1 h2 h3 HL
  go_enter Tryz.func101, Tryz.ntmps101
  go_wp2
  go_returns
  exact ⟨rfl, by go_grown⟩
end Go.Proofs.YtalahkincccffaaGreatDoor
namespace Go.Proofs.YtalahkincccffaaGreatDoor
open Go.RowKit Word
attribute [local go_sem] setCell_drewN cell?_ext frozen?_ext shape?_ext setCell_ext lt_1' ne_1' en_1' le_1' lt_2' ne_2' en_2' le_2' lt_3' ne_3' en_3' le_3' lt_4' ne_4' en_4' le_4' lt_5' ne_5' en_5' le_5' lt_6' ne_6' en_6' le_6' lt_7' ne_7' en_7' le_7' lt_8' ne_8' en_8' le_8' lt_9' ne_9' en_9' le_9' lt_10' ne_10' en_10' le_10' lt_11' ne_11' en_11' le_11' lt_12' ne_12' en_12' le_12'

end Go.Proofs.YtalahkincccffaaGreatDoor
namespace Go.Proofs.YtalahkincccffaaGreatDoor
open Go.RowKit Word
attribute [local go_sem] setCell_drewN cell?_ext frozen?_ext shape?_ext setCell_ext lt_1' ne_1' en_1' le_1' lt_2' ne_2' en_2' le_2' lt_3' ne_3' en_3' le_3' lt_4' ne_4' en_4' le_4' lt_5' ne_5' en_5' le_5' lt_6' ne_6' en_6' le_6' lt_7' ne_7' en_7' le_7' lt_8' ne_8' en_8' le_8' lt_9' ne_9' en_9' le_9' lt_10' ne_10' en_10' le_10' lt_11' ne_11' en_11' le_11' lt_12' ne_12' en_12' le_12'

theorem isZero_any (neg : Bool) (c : Nat) (s : Int) (w : World) :
    Calls Tryz.prog 99 #[D neg c s] w fun e w' => e = .returned (.bool (decide (c = 0))) ∧ Below w.heap.size w w' := by
  by_cases h : c = 0
  · rw [decide_eq_true h]
    subst h
    show Calls Tryz.prog 99 #[.agg #[.bool neg, .int .u64 0, .int .u64 0, .int .i64 s]] w _
    go_enter Tryz.func99, Tryz.ntmps99
    go_wp2
    go_ret
    exact ⟨rfl, by (repeat' (first | (with_reducible first | exact Below.refl _ _ | assumption | refine Below.alloc ?_ ?_ _ | refine below_drewN ?_ _ | refine below_drew ?_ | refine below_ext ?_ ?_ _ _ | refine Below.setCell ?_ ?_ _) | (simp; done) | (simp; omega) | omega))⟩
  · rw [decide_eq_false h]
    rcases word_ne (b := c) (by omega) with z | ⟨z, z'⟩
    all_goals
      clear h
      go_enter Tryz.func99, Tryz.ntmps99
      go_wp2
      go_ret
      exact ⟨rfl, by (repeat' (first | (with_reducible first | exact Below.refl _ _ | assumption | refine Below.alloc ?_ ?_ _ | refine below_drewN ?_ _ | refine below_drew ?_ | refine below_ext ?_ ?_ _ _ | refine Below.setCell ?_ ?_ _) | (simp; done) | (simp; omega) | omega))⟩
theorem ten34 : p10 34 < top2 := p10_lt (by omega)
theorem ten_34 (w : World) (ht : Tens w) : Calls Tryz.prog 103 #[.int .i64 34] w fun e w' => e = .returned (.tuple #[W (p10 34), .int .i64 0]) ∧ Below w.heap.size w w' := ten_ok 34 (by omega) w ht
theorem fits_any (c : Nat) (hc : c < top2) (w : World) (ht : Tens w) :
    Calls Tryz.prog 98 #[W c] w fun e w' => e = .returned (.bool (decide (c < 10 ^ 34))) ∧ Below w.heap.size w w' := by
  have HT := Lib.hid (fun w' (hb : Below w.heap.size w w') => ht.below hb)
  have h34 := ten34
  have hz : decide (cmpv c (p10 34) < 0) = decide (c < 10 ^ 34) := by
    have : p10 34 = 10 ^ 34 := rfl
    rw [this]
    unfold cmpv
    by_cases h : c < 10 ^ 34
    · rw [if_pos h, decide_eq_true h]; rfl
    · rw [if_neg h, decide_eq_false h]; split <;> rfl
  obtain ⟨z, hz2⟩ : ∃ z, z = cmpv c (p10 34) := ⟨_, rfl⟩
  have h1 := fun w => cmp_any c (p10 34) hc h34 w
  rw [← hz2] at hz h1
  have H1 := Lib.hid h1
  rw [← hz]
  clear ht hz hz2 h1 hc h34
  go_enter Tryz.func98, Tryz.ntmps98
  go_wp2_with (first
    | (go_at_call 103; ((with_reducible refine (ten_34 _ (HT.out _ (by (repeat' (first | (with_reducible first | exact Below.refl _ _ | assumption | refine Below.alloc ?_ ?_ _ | refine below_drewN ?_ _ | refine below_drew ?_ | refine below_ext ?_ ?_ _ _ | refine Below.setCell ?_ ?_ _) | (simp; done) | (simp; omega) | omega))))).mono ?_); rintro e w1 ⟨rfl, hb1⟩; obtain ⟨osA, dA, rfl⟩ := ext_of_below hb1; clear hb1))
    | (go_at_call 104; ((with_reducible refine (H1.out _).mono ?_); rintro e w1 ⟨rfl, hb1⟩; obtain ⟨osB, dB, rfl⟩ := ext_of_below hb1; clear hb1)))
  go_ret
  exact ⟨rfl, by (repeat' (first | (with_reducible first | exact Below.refl _ _ | assumption | refine Below.alloc ?_ ?_ _ | refine below_drewN ?_ _ | refine below_drew ?_ | refine below_ext ?_ ?_ _ _ | refine Below.setCell ?_ ?_ _) | (simp; done) | (simp; omega) | omega))⟩
theorem split_any (n k q r : Nat) (hn : n < top4) (hk : k ≤ 38) (hq : q = n / p10 k) (hr : r = n % p10 k) (w : World) (ht : Tens w) :
    Calls Tryz.prog 100 #[L n, .int .i64 (k : Int)] w fun e w' => e = .returned (.tuple #[L q, W r]) ∧ Below w.heap.size w w' := by
  have HT := Lib.hid (fun w' (hb : Below w.heap.size w w') => ht.below hb)
  have H1 := Lib.hid (fun w => div_q n (p10 k) q r hq hr hn (p10_pos k) (p10_lt hk) w)
  clear ht hn hq hr
  go_enter Tryz.func100, Tryz.ntmps100
  go_wp2_with (first
    | (go_at_call 103; ((with_reducible refine (ten_ok k hk _ (HT.out _ (by (repeat' (first | (with_reducible first | exact Below.refl _ _ | assumption | refine Below.alloc ?_ ?_ _ | refine below_drewN ?_ _ | refine below_drew ?_ | refine below_ext ?_ ?_ _ _ | refine Below.setCell ?_ ?_ _) | (simp; done) | (simp; omega) | omega))))).mono ?_); rintro e w1 ⟨rfl, hb1⟩; obtain ⟨osA, dA, rfl⟩ := ext_of_below hb1; clear hb1))
    | (go_at_call 105; ((with_reducible refine (H1.out _).mono ?_); rintro e w1 ⟨rfl, hb1⟩; obtain ⟨osB, dB, rfl⟩ := ext_of_below hb1; clear hb1)))
  go_region
  all_goals
    go_wp2
    go_returns
    exact ⟨rfl, by (repeat' (first | (with_reducible first | exact Below.refl _ _ | assumption | refine Below.alloc ?_ ?_ _ | refine below_drewN ?_ _ | refine below_drew ?_ | refine below_ext ?_ ?_ _ _ | refine Below.setCell ?_ ?_ _) | (simp; done) | (simp; omega) | omega))⟩
end Go.Proofs.YtalahkincccffaaGreatDoor
namespace Go.Proofs.YtalahkincccffaaGreatDoor
open Go.RowKit Word
attribute [local go_sem] setCell_drewN cell?_ext frozen?_ext shape?_ext setCell_ext lt_1' ne_1' en_1' le_1' lt_2' ne_2' en_2' le_2' lt_3' ne_3' en_3' le_3' lt_4' ne_4' en_4' le_4' lt_5' ne_5' en_5' le_5' lt_6' ne_6' en_6' le_6' lt_7' ne_7' en_7' le_7' lt_8' ne_8' en_8' le_8' lt_9' ne_9' en_9' le_9' lt_10' ne_10' en_10' le_10' lt_11' ne_11' en_11' le_11' lt_12' ne_12' en_12' le_12'

end Go.Proofs.YtalahkincccffaaGreatDoor
namespace Go.Proofs.YtalahkincccffaaGreatDoor
open Go.RowKit Word

def formB (neg : Bool) (c : Nat) (s : Int) : Bool := decide (c < 10 ^ 34 ∧ 0 ≤ s ∧ s ≤ 18 ∧ (s = 0 → neg = true → c ≠ 0) ∧ (s ≠ 0 → c % 10 ≠ 0))
end Go.Proofs.YtalahkincccffaaGreatDoor
namespace Go.Proofs.YtalahkincccffaaGreatDoor
open Go.RowKit Word
attribute [local go_sem] setCell_drewN cell?_ext frozen?_ext shape?_ext setCell_ext lt_1' ne_1' en_1' le_1' lt_2' ne_2' en_2' le_2' lt_3' ne_3' en_3' le_3' lt_4' ne_4' en_4' le_4' lt_5' ne_5' en_5' le_5' lt_6' ne_6' en_6' le_6' lt_7' ne_7' en_7' le_7' lt_8' ne_8' en_8' le_8' lt_9' ne_9' en_9' le_9' lt_10' ne_10' en_10' le_10' lt_11' ne_11' en_11' le_11' lt_12' ne_12' en_12' le_12'

theorem mod_p1 (c : Nat) : c % p10 1 = c % 10 := by unfold p10; rw [Nat.pow_one]
theorem form_out {neg : Bool} {c : Nat} {s : Int} (h : s < 0 ∨ 18 < s ∨ ¬ c < 10 ^ 34) : formB neg c s = false := by
  unfold formB
  refine decide_eq_false fun ⟨h1, h2, h3, _, _⟩ => ?_
  rcases h with h | h | h
  · omega
  · omega
  · exact h h1
theorem form_none {neg : Bool} {c : Nat} (h : c < 10 ^ 34) : formB neg c 0 = (!neg || !decide (c = 0)) := by
  unfold formB
  cases neg with
  | false => exact decide_eq_true (And.intro h (And.intro (by decide) (And.intro (by decide) (And.intro (fun _ h => nomatch h) (fun h => absurd rfl h)))))
  | true =>
    by_cases h0 : c = 0
    · rw [decide_eq_true h0]; exact decide_eq_false fun ⟨_, _, _, h4, _⟩ => h4 rfl rfl h0
    · rw [decide_eq_false h0]; exact decide_eq_true ⟨h, by decide, by decide, fun _ _ => h0, fun h => absurd rfl h⟩
theorem form_some {neg : Bool} {c : Nat} {s : Int} (h : c < 10 ^ 34) (h1 : ¬ s < 0) (h2 : ¬ 18 < s) (h3 : s ≠ 0) : formB neg c s = !decide (c % 10 = 0) := by
  unfold formB
  by_cases h0 : c % 10 = 0
  · rw [decide_eq_true h0]; exact decide_eq_false fun ⟨_, _, _, _, h5⟩ => h5 h3 h0
  · rw [decide_eq_false h0]; exact decide_eq_true ⟨h, by omega, by omega, fun h => absurd h h3, fun _ => h0⟩
theorem split_one (c q r : Nat) (hc : c < top4) (hq : q = c / p10 1) (hr : r = c % 10) (w : World) (ht : Tens w) :
    Calls Tryz.prog 100 #[L c, .int .i64 1] w fun e w' => e = .returned (.tuple #[L q, W r]) ∧ Below w.heap.size w w' :=
  split_any c 1 q r hc (by omega) hq (by rw [mod_p1]; exact hr) w ht
set_option maxHeartbeats 4000000 in
theorem form_any (neg : Bool) (c : Nat) (s : Int) (hc : c < top2) (w : World) (ht : Tens w) :
    Calls Tryz.prog 90 #[D neg c s] w fun e w' => e = .returned (.bool (formB neg c s)) ∧ Below w.heap.size w w' := by
  have HT := Lib.hid (fun w' (hb : Below w.heap.size w w') => ht.below hb)
  clear ht
  by_cases h1 : s < 0
  · rw [form_out (.inl h1)]
    go_enter Tryz.func90, Tryz.ntmps90
    go_wp2
    go_ret
    exact ⟨rfl, by (repeat' (first | (with_reducible first | exact Below.refl _ _ | assumption | refine Below.alloc ?_ ?_ _ | refine below_drewN ?_ _ | refine below_drew ?_ | refine below_ext ?_ ?_ _ _ | refine Below.setCell ?_ ?_ _) | (simp; done) | (simp; omega) | omega))⟩
  by_cases h2 : 18 < s
  · rw [form_out (.inr (.inl h2))]
    go_enter Tryz.func90, Tryz.ntmps90
    go_wp2
    go_ret
    exact ⟨rfl, by (repeat' (first | (with_reducible first | exact Below.refl _ _ | assumption | refine Below.alloc ?_ ?_ _ | refine below_drewN ?_ _ | refine below_drew ?_ | refine below_ext ?_ ?_ _ _ | refine Below.setCell ?_ ?_ _) | (simp; done) | (simp; omega) | omega))⟩
  have h1f := fun w ht => fits_any c hc w ht
  by_cases h3 : c < 10 ^ 34
  · rw [decide_eq_true h3] at h1f
    have H1 := Lib.hid h1f
    by_cases h4 : s = 0
    · subst h4
      rw [form_none h3]
      have h5 := fun w => isZero_any neg c 0 w
      obtain ⟨z, hz⟩ : ∃ z, z = decide (c = 0) := ⟨_, rfl⟩
      rw [← hz] at h5 ⊢
      have H2 := Lib.hid h5
      clear h5 hz h3 hc h1f h1 h2
      cases neg with
      | false =>
        go_enter Tryz.func90, Tryz.ntmps90
        go_wp2_with (first
          | (go_at_call 98; ((with_reducible refine (H1.out _ (HT.out _ (by (repeat' (first | (with_reducible first | exact Below.refl _ _ | assumption | refine Below.alloc ?_ ?_ _ | refine below_drewN ?_ _ | refine below_drew ?_ | refine below_ext ?_ ?_ _ _ | refine Below.setCell ?_ ?_ _) | (simp; done) | (simp; omega) | omega))))).mono ?_); rintro e w1 ⟨rfl, hb1⟩; obtain ⟨osA, dA, rfl⟩ := ext_of_below hb1; clear hb1))
          | (go_at_call 99; ((with_reducible refine (H2.out _).mono ?_); rintro e w1 ⟨rfl, hb1⟩; obtain ⟨osB, dB, rfl⟩ := ext_of_below hb1; clear hb1)))
        go_ret
        exact ⟨rfl, by (repeat' (first | (with_reducible first | exact Below.refl _ _ | assumption | refine Below.alloc ?_ ?_ _ | refine below_drewN ?_ _ | refine below_drew ?_ | refine below_ext ?_ ?_ _ _ | refine Below.setCell ?_ ?_ _) | (simp; done) | (simp; omega) | omega))⟩
      | true =>
        go_enter Tryz.func90, Tryz.ntmps90
        go_wp2_with (first
          | (go_at_call 98; ((with_reducible refine (H1.out _ (HT.out _ (by (repeat' (first | (with_reducible first | exact Below.refl _ _ | assumption | refine Below.alloc ?_ ?_ _ | refine below_drewN ?_ _ | refine below_drew ?_ | refine below_ext ?_ ?_ _ _ | refine Below.setCell ?_ ?_ _) | (simp; done) | (simp; omega) | omega))))).mono ?_); rintro e w1 ⟨rfl, hb1⟩; obtain ⟨osA, dA, rfl⟩ := ext_of_below hb1; clear hb1))
          | (go_at_call 99; ((with_reducible refine (H2.out _).mono ?_); rintro e w1 ⟨rfl, hb1⟩; obtain ⟨osB, dB, rfl⟩ := ext_of_below hb1; clear hb1)))
        go_ret
        exact ⟨rfl, by (repeat' (first | (with_reducible first | exact Below.refl _ _ | assumption | refine Below.alloc ?_ ?_ _ | refine below_drewN ?_ _ | refine below_drew ?_ | refine below_ext ?_ ?_ _ _ | refine Below.setCell ?_ ?_ _) | (simp; done) | (simp; omega) | omega))⟩
    · have hc4 : c < top4 := by unfold top2 top4 at *; omega
      rw [form_some h3 h1 h2 h4]
      obtain ⟨r, hr⟩ : ∃ r, r = c % 10 := ⟨_, rfl⟩
      obtain ⟨q, hq⟩ : ∃ q, q = c / p10 1 := ⟨_, rfl⟩
      rw [← hr]
      have h5 := fun w => dlong_any c hc w
      have h6 := fun w ht => split_one c q r hc4 hq hr w ht
      have H2 := Lib.hid h5
      clear hr hq hc hc4 h5 h3 h1f
      by_cases h7 : r = 0
      · subst h7
        have e0 : W 0 = .agg #[.int .u64 0, .int .u64 0] := rfl
        rw [e0] at h6
        have H3 := Lib.hid h6
        clear h6 e0
        go_enter Tryz.func90, Tryz.ntmps90
        go_wp2_with (first
          | (go_at_call 98; ((with_reducible refine (H1.out _ (HT.out _ (by (repeat' (first | (with_reducible first | exact Below.refl _ _ | assumption | refine Below.alloc ?_ ?_ _ | refine below_drewN ?_ _ | refine below_drew ?_ | refine below_ext ?_ ?_ _ _ | refine Below.setCell ?_ ?_ _) | (simp; done) | (simp; omega) | omega))))).mono ?_); rintro e w1 ⟨rfl, hb1⟩; obtain ⟨osA, dA, rfl⟩ := ext_of_below hb1; clear hb1))
          | (go_at_call 101; ((with_reducible refine (H2.out _).mono ?_); rintro e w1 ⟨rfl, hb1⟩; obtain ⟨osB, dB, rfl⟩ := ext_of_below hb1; clear hb1))
          | (go_at_call 100; ((with_reducible refine (H3.out _ (HT.out _ (by (repeat' (first | (with_reducible first | exact Below.refl _ _ | assumption | refine Below.alloc ?_ ?_ _ | refine below_drewN ?_ _ | refine below_drew ?_ | refine below_ext ?_ ?_ _ _ | refine Below.setCell ?_ ?_ _) | (simp; done) | (simp; omega) | omega))))).mono ?_); rintro e w1 ⟨rfl, hb1⟩; obtain ⟨osC, dC, rfl⟩ := ext_of_below hb1; clear hb1)))
        go_ret
        exact ⟨rfl, by (repeat' (first | (with_reducible first | exact Below.refl _ _ | assumption | refine Below.alloc ?_ ?_ _ | refine below_drewN ?_ _ | refine below_drew ?_ | refine below_ext ?_ ?_ _ _ | refine Below.setCell ?_ ?_ _) | (simp; done) | (simp; omega) | omega))⟩
      · rw [decide_eq_false h7]
        have H3 := Lib.hid h6
        have hnz := word_ne (b := r) (by omega)
        clear h6 h7
        rcases hnz with nz | ⟨nz, nz'⟩
        all_goals
          go_enter Tryz.func90, Tryz.ntmps90
          go_wp2_with (first
            | (go_at_call 98; ((with_reducible refine (H1.out _ (HT.out _ (by (repeat' (first | (with_reducible first | exact Below.refl _ _ | assumption | refine Below.alloc ?_ ?_ _ | refine below_drewN ?_ _ | refine below_drew ?_ | refine below_ext ?_ ?_ _ _ | refine Below.setCell ?_ ?_ _) | (simp; done) | (simp; omega) | omega))))).mono ?_); rintro e w1 ⟨rfl, hb1⟩; obtain ⟨osA, dA, rfl⟩ := ext_of_below hb1; clear hb1))
            | (go_at_call 101; ((with_reducible refine (H2.out _).mono ?_); rintro e w1 ⟨rfl, hb1⟩; obtain ⟨osB, dB, rfl⟩ := ext_of_below hb1; clear hb1))
            | (go_at_call 100; ((with_reducible refine (H3.out _ (HT.out _ (by (repeat' (first | (with_reducible first | exact Below.refl _ _ | assumption | refine Below.alloc ?_ ?_ _ | refine below_drewN ?_ _ | refine below_drew ?_ | refine below_ext ?_ ?_ _ _ | refine Below.setCell ?_ ?_ _) | (simp; done) | (simp; omega) | omega))))).mono ?_); rintro e w1 ⟨rfl, hb1⟩; obtain ⟨osC, dC, rfl⟩ := ext_of_below hb1; clear hb1)))
          go_ret
          exact ⟨rfl, by (repeat' (first | (with_reducible first | exact Below.refl _ _ | assumption | refine Below.alloc ?_ ?_ _ | refine below_drewN ?_ _ | refine below_drew ?_ | refine below_ext ?_ ?_ _ _ | refine Below.setCell ?_ ?_ _) | (simp; done) | (simp; omega) | omega))⟩
  · rw [form_out (.inr (.inr h3))]
    rw [decide_eq_false h3] at h1f
    have H1 := Lib.hid h1f
    clear h1f h3 hc
    go_enter Tryz.func90, Tryz.ntmps90
    go_wp2_with (first
      | (go_at_call 98; ((with_reducible refine (H1.out _ (HT.out _ (by (repeat' (first | (with_reducible first | exact Below.refl _ _ | assumption | refine Below.alloc ?_ ?_ _ | refine below_drewN ?_ _ | refine below_drew ?_ | refine below_ext ?_ ?_ _ _ | refine Below.setCell ?_ ?_ _) | (simp; done) | (simp; omega) | omega))))).mono ?_); rintro e w1 ⟨rfl, hb1⟩; obtain ⟨osA, dA, rfl⟩ := ext_of_below hb1; clear hb1)))
    go_ret
    exact ⟨rfl, by (repeat' (first | (with_reducible first | exact Below.refl _ _ | assumption | refine Below.alloc ?_ ?_ _ | refine below_drewN ?_ _ | refine below_drew ?_ | refine below_ext ?_ ?_ _ _ | refine Below.setCell ?_ ?_ _) | (simp; done) | (simp; omega) | omega))⟩
end Go.Proofs.YtalahkincccffaaGreatDoor
namespace Go.Proofs.YtalahkincccffaaGreatDoor
open Go.RowKit Word
attribute [local go_sem] setCell_drewN cell?_ext frozen?_ext shape?_ext setCell_ext lt_1' ne_1' en_1' le_1' lt_2' ne_2' en_2' le_2' lt_3' ne_3' en_3' le_3' lt_4' ne_4' en_4' le_4' lt_5' ne_5' en_5' le_5' lt_6' ne_6' en_6' le_6' lt_7' ne_7' en_7' le_7' lt_8' ne_8' en_8' le_8' lt_9' ne_9' en_9' le_9' lt_10' ne_10' en_10' le_10' lt_11' ne_11' en_11' le_11' lt_12' ne_12' en_12' le_12'

end Go.Proofs.YtalahkincccffaaGreatDoor
