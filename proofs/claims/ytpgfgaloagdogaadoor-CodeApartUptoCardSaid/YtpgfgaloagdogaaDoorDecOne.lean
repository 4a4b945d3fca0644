/-
  Contracts of the small functions of package dec: long, low, addLong, subLong.
  The contract of package dec's cmpLong.
  Contracts of package dec: isZero, fits, raised, split, push, settle.
  Contracts of package dec: settle, fit.
  Plain facts about decimals in form: no program stands in this text.
  Contracts of package dec: Form, fit.
  The contract of package dec's fit.
-/
import Derived.Test.YtpgfgaloagdogaaDoorWideB
import Derived.Test.YtpgfgaloagdogaaDoorBa
import Derived.Test.YtpgfgaloagdogaaDoorRound
import Derived.Test.YtpgfgaloagdogaaDoorBc
namespace Go.Proofs.YtpgfgaloagdogaaDoor
open Go.RowKit Word
attribute [local go_sem] setCell_drewN cell?_ext frozen?_ext shape?_ext setCell_ext lt_1' ne_1' en_1' le_1' lt_2' ne_2' en_2' le_2' lt_3' ne_3' en_3' le_3' lt_4' ne_4' en_4' le_4' lt_5' ne_5' en_5' le_5' lt_6' ne_6' en_6' le_6' lt_7' ne_7' en_7' le_7' lt_8' ne_8' en_8' le_8' lt_9' ne_9' en_9' le_9' lt_10' ne_10' en_10' le_10' lt_11' ne_11' en_11' le_11' lt_12' ne_12' en_12' le_12'

/-- a decimal as a value -/
abbrev D (neg : Bool) (c : Nat) (s : Int) : Value := .agg #[.bool neg, .int .u64 (hi c : Int), .int .u64 (lo c : Int), .int .i64 s]

theorem dlong_any (n : Nat) (hn : n < top2) (w : World) :
    Calls Tryd.prog 84 #[W n] w fun e w' => e = .returned (L n) ∧ Below w.heap.size w w' := by
  obtain ⟨h0, h1, h2, h3⟩ := long_words hn
  have HL : L n = .agg #[.int .u64 (lo n : Int), .int .u64 (hi n : Int), .int .u64 0, .int .u64 0] := by simp only [L, h0, h1, h2, h3]; rfl
  rw [HL]
  clear h0 h1 h2 h3 HL
  go_enter Tryd.func84, Tryd.ntmps84
  go_wp2
  go_returns
  exact ⟨rfl, by go_grown⟩
/-- the words that the first k rounds have laid -/
def rowF (df : Nat → Nat) : Nat → Array Value
  | 0 => #[.int .u64 0, .int .u64 0, .int .u64 0, .int .u64 0]
  | 1 => #[.int .u64 (df 0 : Int), .int .u64 0, .int .u64 0, .int .u64 0]
  | 2 => #[.int .u64 (df 0 : Int), .int .u64 (df 1 : Int), .int .u64 0, .int .u64 0]
  | 3 => #[.int .u64 (df 0 : Int), .int .u64 (df 1 : Int), .int .u64 (df 2 : Int), .int .u64 0]
  | _ => #[.int .u64 (df 0 : Int), .int .u64 (df 1 : Int), .int .u64 (df 2 : Int), .int .u64 (df 3 : Int)]
end Go.Proofs.YtpgfgaloagdogaaDoor
namespace Go.Proofs.YtpgfgaloagdogaaDoor
open Go.RowKit Word
attribute [local go_sem] setCell_drewN cell?_ext frozen?_ext shape?_ext setCell_ext lt_1' ne_1' en_1' le_1' lt_2' ne_2' en_2' le_2' lt_3' ne_3' en_3' le_3' lt_4' ne_4' en_4' le_4' lt_5' ne_5' en_5' le_5' lt_6' ne_6' en_6' le_6' lt_7' ne_7' en_7' le_7' lt_8' ne_8' en_8' le_8' lt_9' ne_9' en_9' le_9' lt_10' ne_10' en_10' le_10' lt_11' ne_11' en_11' le_11' lt_12' ne_12' en_12' le_12'

theorem dcmp_halves {a b : Nat} (h : a / 340282366920938463463374607431768211456 = b / 340282366920938463463374607431768211456) : cmpv (a % 340282366920938463463374607431768211456) (b % 340282366920938463463374607431768211456) = cmpv a b := by
  unfold cmpv
  by_cases h1 : a < b
  · rw [if_pos h1, if_pos (by omega)]
  · rw [if_neg h1, if_neg (by omega)]
    by_cases h2 : b < a
    · rw [if_pos h2, if_pos (by omega)]
    · rw [if_neg h2, if_neg (by omega)]
theorem dcmp_high {a b : Nat} (h : a / 340282366920938463463374607431768211456 ≠ b / 340282366920938463463374607431768211456) : cmpv (a / 340282366920938463463374607431768211456) (b / 340282366920938463463374607431768211456) = cmpv a b ∧ cmpv a b ≠ 0 := by
  unfold cmpv
  by_cases h1 : a < b
  · rw [if_pos h1, if_pos (by omega)]; exact ⟨rfl, by decide⟩
  · rw [if_neg h1, if_neg (by omega), if_pos (by omega), if_pos (by omega)]; exact ⟨rfl, by decide⟩
end Go.Proofs.YtpgfgaloagdogaaDoor
namespace Go.Proofs.YtpgfgaloagdogaaDoor
open Go.RowKit Word
attribute [local go_sem] setCell_drewN cell?_ext frozen?_ext shape?_ext setCell_ext lt_1' ne_1' en_1' le_1' lt_2' ne_2' en_2' le_2' lt_3' ne_3' en_3' le_3' lt_4' ne_4' en_4' le_4' lt_5' ne_5' en_5' le_5' lt_6' ne_6' en_6' le_6' lt_7' ne_7' en_7' le_7' lt_8' ne_8' en_8' le_8' lt_9' ne_9' en_9' le_9' lt_10' ne_10' en_10' le_10' lt_11' ne_11' en_11' le_11' lt_12' ne_12' en_12' le_12'

theorem near_isN (n t : Nat) : NearIs n t (Fit.near n t) := by
  unfold NearIs Fit.near
  by_cases h1 : t < n % t + n % t
  · rw [if_pos h1]; exact .inl ⟨h1, rfl⟩
  · rw [if_neg h1]
    by_cases h2 : n % t + n % t = t
    · rw [if_pos h2]
      by_cases h3 : n / t % 2 = 1
      · rw [if_pos h3]; exact .inr (.inl ⟨h2, h3, rfl⟩)
      · rw [if_neg h3]; exact .inr (.inr (.inl ⟨h2, by omega, rfl⟩))
    · rw [if_neg h2]; exact .inr (.inr (.inr ⟨by omega, rfl⟩))
theorem isZero_any (neg : Bool) (c : Nat) (s : Int) (w : World) :
    Calls Tryd.prog 82 #[D neg c s] w fun e w' => e = .returned (.bool (decide (c = 0))) ∧ Below w.heap.size w w' := by
  by_cases h : c = 0
  · rw [decide_eq_true h]
    subst h
    show Calls Tryd.prog 82 #[.agg #[.bool neg, .int .u64 0, .int .u64 0, .int .i64 s]] w _
    go_enter Tryd.func82, Tryd.ntmps82
    go_wp2
    go_ret
    exact ⟨rfl, by (repeat' (first | (with_reducible exact Below.refl _ _) | (with_reducible assumption) | (with_reducible refine Below.alloc ?_ ?_ _) | (with_reducible refine below_drewN ?_ _) | (with_reducible refine below_drew ?_) | (with_reducible refine below_ext ?_ ?_ _ _) | (with_reducible refine Below.setCell ?_ ?_ _) | (simp; done) | (simp; omega) | omega))⟩
  · rw [decide_eq_false h]
    rcases word_ne (b := c) (by omega) with z | ⟨z, z'⟩
    all_goals
      clear h
      go_enter Tryd.func82, Tryd.ntmps82
      go_wp2
      go_ret
      exact ⟨rfl, by (repeat' (first | (with_reducible exact Below.refl _ _) | (with_reducible assumption) | (with_reducible refine Below.alloc ?_ ?_ _) | (with_reducible refine below_drewN ?_ _) | (with_reducible refine below_drew ?_) | (with_reducible refine below_ext ?_ ?_ _ _) | (with_reducible refine Below.setCell ?_ ?_ _) | (simp; done) | (simp; omega) | omega))⟩
theorem ten34 : p10 34 < top2 := p10_lt (by omega)
theorem ten_34 (w : World) (ht : Tens w) : Calls Tryd.prog 86 #[.int .i64 34] w fun e w' => e = .returned (.tuple #[W (p10 34), .int .i64 0]) ∧ Below w.heap.size w w' := ten_ok 34 (by omega) w ht
theorem fits_any (c : Nat) (hc : c < top2) (w : World) (ht : Tens w) :
    Calls Tryd.prog 81 #[W c] w fun e w' => e = .returned (.bool (decide (c < 10 ^ 34))) ∧ Below w.heap.size w w' := by
  have HT := Lib.hid (fun w' (hb : Below w.heap.size w w') => ht.below hb)
  have h34 := ten34
  have hz : decide (cmpv c (p10 34) < 0) = decide (c < 10 ^ 34) := by
    have : p10 34 = 10 ^ 34 := rfl
    rw [this]
    unfold cmpv
    by_cases h : c < 10 ^ 34
    · rw [if_pos h, decide_eq_true h]; rfl
    · rw [if_neg h, decide_eq_false h]; split <;> rfl
  obtain ⟨z, hz2⟩ : ∃ z, z = cmpv c (p10 34) := ⟨_, rfl⟩
  have h1 := fun w => cmp_any c (p10 34) hc h34 w
  rw [← hz2] at hz h1
  have H1 := Lib.hid h1
  rw [← hz]
  clear ht hz hz2 h1 hc h34
  go_enter Tryd.func81, Tryd.ntmps81
  go_wp2_with (first
    | (go_at_call 86; ((with_reducible refine (ten_34 _ (HT.out _ (by (repeat' (first | (with_reducible exact Below.refl _ _) | (with_reducible assumption) | (with_reducible refine Below.alloc ?_ ?_ _) | (with_reducible refine below_drewN ?_ _) | (with_reducible refine below_drew ?_) | (with_reducible refine below_ext ?_ ?_ _ _) | (with_reducible refine Below.setCell ?_ ?_ _) | (simp; done) | (simp; omega) | omega))))).mono ?_); rintro e w1 ⟨rfl, hb1⟩; obtain ⟨osA, dA, rfl⟩ := ext_of_below hb1; clear hb1))
    | (go_at_call 87; ((with_reducible refine (H1.out _).mono ?_); rintro e w1 ⟨rfl, hb1⟩; obtain ⟨osB, dB, rfl⟩ := ext_of_below hb1; clear hb1)))
  go_ret
  exact ⟨rfl, by (repeat' (first | (with_reducible exact Below.refl _ _) | (with_reducible assumption) | (with_reducible refine Below.alloc ?_ ?_ _) | (with_reducible refine below_drewN ?_ _) | (with_reducible refine below_drew ?_) | (with_reducible refine below_ext ?_ ?_ _ _) | (with_reducible refine Below.setCell ?_ ?_ _) | (simp; done) | (simp; omega) | omega))⟩
theorem split_any (n k q r : Nat) (hn : n < top4) (hk : k ≤ 38) (hq : q = n / p10 k) (hr : r = n % p10 k) (w : World) (ht : Tens w) :
    Calls Tryd.prog 83 #[L n, .int .i64 (k : Int)] w fun e w' => e = .returned (.tuple #[L q, W r]) ∧ Below w.heap.size w w' := by
  have HT := Lib.hid (fun w' (hb : Below w.heap.size w w') => ht.below hb)
  have H1 := Lib.hid (fun w => div_q n (p10 k) q r hq hr hn (p10_pos k) (p10_lt hk) w)
  clear ht hn hq hr
  go_enter Tryd.func83, Tryd.ntmps83
  go_wp2_with (first
    | (go_at_call 86; ((with_reducible refine (ten_ok k hk _ (HT.out _ (by (repeat' (first | (with_reducible exact Below.refl _ _) | (with_reducible assumption) | (with_reducible refine Below.alloc ?_ ?_ _) | (with_reducible refine below_drewN ?_ _) | (with_reducible refine below_drew ?_) | (with_reducible refine below_ext ?_ ?_ _ _) | (with_reducible refine Below.setCell ?_ ?_ _) | (simp; done) | (simp; omega) | omega))))).mono ?_); rintro e w1 ⟨rfl, hb1⟩; obtain ⟨osA, dA, rfl⟩ := ext_of_below hb1; clear hb1))
    | (go_at_call 88; ((with_reducible refine (H1.out _).mono ?_); rintro e w1 ⟨rfl, hb1⟩; obtain ⟨osB, dB, rfl⟩ := ext_of_below hb1; clear hb1)))
  go_region
  all_goals
    go_wp2
    go_returns
    exact ⟨rfl, by (repeat' (first | (with_reducible exact Below.refl _ _) | (with_reducible assumption) | (with_reducible refine Below.alloc ?_ ?_ _) | (with_reducible refine below_drewN ?_ _) | (with_reducible refine below_drew ?_) | (with_reducible refine below_ext ?_ ?_ _ _) | (with_reducible refine Below.setCell ?_ ?_ _) | (simp; done) | (simp; omega) | omega))⟩
end Go.Proofs.YtpgfgaloagdogaaDoor
namespace Go.Proofs.YtpgfgaloagdogaaDoor
open Go.RowKit Word
attribute [local go_sem] setCell_drewN cell?_ext frozen?_ext shape?_ext setCell_ext lt_1' ne_1' en_1' le_1' lt_2' ne_2' en_2' le_2' lt_3' ne_3' en_3' le_3' lt_4' ne_4' en_4' le_4' lt_5' ne_5' en_5' le_5' lt_6' ne_6' en_6' le_6' lt_7' ne_7' en_7' le_7' lt_8' ne_8' en_8' le_8' lt_9' ne_9' en_9' le_9' lt_10' ne_10' en_10' le_10' lt_11' ne_11' en_11' le_11' lt_12' ne_12' en_12' le_12'

/-- coef / 10^s in form, as a value -/
abbrev DS (neg : Bool) (c s : Nat) : Value := D (neg && decide (0 < (Fit.strip c s).1)) (Fit.strip c s).1 ((Fit.strip c s).2 : Int)
/-- the fitted number as a value, and the error -/
def fitC : Option (Nat × Nat) → Nat
  | some x => x.1
  | none => 0
def fitZ : Option (Nat × Nat) → Int
  | some x => (x.2 : Int)
  | none => 0
def fitE : Option (Nat × Nat) → Int
  | some _ => 0
  | none => 3
abbrev FV (neg : Bool) (x : Option (Nat × Nat)) : Value := D (neg && decide (0 < fitC x)) (fitC x) (fitZ x)
end Go.Proofs.YtpgfgaloagdogaaDoor
namespace Go.Proofs.YtpgfgaloagdogaaDoor
open Go.RowKit Word

/-- is it in form? -/
def formB (neg : Bool) (c : Nat) (s : Int) : Bool := decide (c < 10 ^ 34 ∧ 0 ≤ s ∧ s ≤ 18 ∧ (s = 0 → neg = true → c ≠ 0) ∧ (s ≠ 0 → c % 10 ≠ 0))
theorem form_open {neg : Bool} {c : Nat} {s : Int} (h : formB neg c s = true) : ∃ S : Nat, s = (S : Int) ∧ S ≤ 18 ∧ c < 10 ^ 34 ∧ (S = 0 → neg = true → c ≠ 0) ∧ (S ≠ 0 → c % 10 ≠ 0) := by
  unfold formB at h
  obtain ⟨h1, h2, h3, h4, h5⟩ := of_decide_eq_true h
  exact ⟨s.toNat, by omega, by omega, h1, fun h => h4 (by omega), fun h => h5 (by omega)⟩
theorem form_mk {neg : Bool} {c S : Nat} (h1 : S ≤ 18) (h2 : c < 10 ^ 34) (h3 : S = 0 → neg = true → c ≠ 0) (h4 : S ≠ 0 → c % 10 ≠ 0) : formB neg c (S : Int) = true := by
  unfold formB
  exact decide_eq_true ⟨h2, by omega, by omega, fun h => h3 (by omega), fun h => h4 (by omega)⟩
theorem form_sign {neg : Bool} {c S : Nat} (h3 : S = 0 → neg = true → c ≠ 0) (h4 : S ≠ 0 → c % 10 ≠ 0) : (neg && decide (0 < c)) = neg := by
  cases neg with
  | false => rfl
  | true =>
    have : 0 < c := by
      rcases Nat.eq_zero_or_pos S with h | h
      · have := h3 h rfl; omega
      · have := h4 (by omega); omega
    rw [decide_eq_true this]; rfl
theorem form_strip {c S : Nat} (h4 : S ≠ 0 → c % 10 ≠ 0) : Fit.strip c S = (c, S) := by
  rcases Nat.eq_zero_or_pos S with h | h
  · subst h; rfl
  · exact Fit.strip_stop (h4 (by omega))
theorem DS_form {neg : Bool} {c S : Nat} (h3 : S = 0 → neg = true → c ≠ 0) (h4 : S ≠ 0 → c % 10 ≠ 0) : DS neg c S = D neg c (S : Int) := by
  unfold DS
  rw [form_strip h4, form_sign h3 h4]
theorem lt34_top2 {c : Nat} (h : c < 10 ^ 34) : c < top2 := Nat.lt_trans h (by decide)
theorem strip_form {c : Nat} (hc : c < 10 ^ 34) : ∀ s, s ≤ 18 → (Fit.strip c s).1 < 10 ^ 34 ∧ (Fit.strip c s).2 ≤ 18 ∧ ((Fit.strip c s).2 ≠ 0 → (Fit.strip c s).1 % 10 ≠ 0) := by
  intro s
  induction s generalizing c with
  | zero => intro _; exact ⟨hc, by show 0 ≤ 18; omega, fun h => absurd rfl h⟩
  | succ s ih =>
    intro hs
    unfold Fit.strip
    split
    · exact ih (Nat.lt_of_le_of_lt (Nat.div_le_self _ _) hc) (by omega)
    · rename_i h
      exact ⟨hc, hs, fun _ => h⟩
/-- what is fitted is in form -/
theorem fit_form {n t c s : Nat} : ∀ {k : Nat}, k ≤ 19 → Fit.fit n t k = some (c, s) → c < 10 ^ 34 ∧ s ≤ 18 ∧ (s ≠ 0 → c % 10 ≠ 0)
  | 0, _, h => by cases h
  | k + 1, hk, h => by
    rw [Fit.fit_succ] at h
    split at h
    · rename_i h1
      have h2 := strip_form h1 k (by omega)
      rw [Option.some.inj h] at h2
      exact h2
    · exact fit_form (by omega) h
end Go.Proofs.YtpgfgaloagdogaaDoor
namespace Go.Proofs.YtpgfgaloagdogaaDoor
open Go.RowKit Word
attribute [local go_sem] setCell_drewN cell?_ext frozen?_ext shape?_ext setCell_ext lt_1' ne_1' en_1' le_1' lt_2' ne_2' en_2' le_2' lt_3' ne_3' en_3' le_3' lt_4' ne_4' en_4' le_4' lt_5' ne_5' en_5' le_5' lt_6' ne_6' en_6' le_6' lt_7' ne_7' en_7' le_7' lt_8' ne_8' en_8' le_8' lt_9' ne_9' en_9' le_9' lt_10' ne_10' en_10' le_10' lt_11' ne_11' en_11' le_11' lt_12' ne_12' en_12' le_12'

theorem mod_p1 (c : Nat) : c % p10 1 = c % 10 := by unfold p10; rw [Nat.pow_one]
theorem form_out {neg : Bool} {c : Nat} {s : Int} (h : s < 0 ∨ 18 < s ∨ ¬ c < 10 ^ 34) : formB neg c s = false := by
  unfold formB
  refine decide_eq_false fun ⟨h1, h2, h3, _, _⟩ => ?_
  rcases h with h | h | h
  · omega
  · omega
  · exact h h1
theorem form_none {neg : Bool} {c : Nat} (h : c < 10 ^ 34) : formB neg c 0 = (!neg || !decide (c = 0)) := by
  unfold formB
  cases neg with
  | false => exact decide_eq_true (And.intro h (And.intro (by decide) (And.intro (by decide) (And.intro (fun _ h => nomatch h) (fun h => absurd rfl h)))))
  | true =>
    by_cases h0 : c = 0
    · rw [decide_eq_true h0]; exact decide_eq_false fun ⟨_, _, _, h4, _⟩ => h4 rfl rfl h0
    · rw [decide_eq_false h0]; exact decide_eq_true ⟨h, by decide, by decide, fun _ _ => h0, fun h => absurd rfl h⟩
theorem form_some {neg : Bool} {c : Nat} {s : Int} (h : c < 10 ^ 34) (h1 : ¬ s < 0) (h2 : ¬ 18 < s) (h3 : s ≠ 0) : formB neg c s = !decide (c % 10 = 0) := by
  unfold formB
  by_cases h0 : c % 10 = 0
  · rw [decide_eq_true h0]; exact decide_eq_false fun ⟨_, _, _, _, h5⟩ => h5 h3 h0
  · rw [decide_eq_false h0]; exact decide_eq_true ⟨h, by omega, by omega, fun h => absurd h h3, fun _ => h0⟩
theorem split_one (c q r : Nat) (hc : c < top4) (hq : q = c / p10 1) (hr : r = c % 10) (w : World) (ht : Tens w) :
    Calls Tryd.prog 83 #[L c, .int .i64 1] w fun e w' => e = .returned (.tuple #[L q, W r]) ∧ Below w.heap.size w w' :=
  split_any c 1 q r hc (by omega) hq (by rw [mod_p1]; exact hr) w ht
set_option maxHeartbeats 4000000 in
theorem form_any (neg : Bool) (c : Nat) (s : Int) (hc : c < top2) (w : World) (ht : Tens w) :
    Calls Tryd.prog 73 #[D neg c s] w fun e w' => e = .returned (.bool (formB neg c s)) ∧ Below w.heap.size w w' := by
  have HT := Lib.hid (fun w' (hb : Below w.heap.size w w') => ht.below hb)
  clear ht
  by_cases h1 : s < 0
  · rw [form_out (.inl h1)]
    go_enter Tryd.func73, Tryd.ntmps73
    go_wp2
    go_ret
    exact ⟨rfl, by (repeat' (first | (with_reducible exact Below.refl _ _) | (with_reducible assumption) | (with_reducible refine Below.alloc ?_ ?_ _) | (with_reducible refine below_drewN ?_ _) | (with_reducible refine below_drew ?_) | (with_reducible refine below_ext ?_ ?_ _ _) | (with_reducible refine Below.setCell ?_ ?_ _) | (simp; done) | (simp; omega) | omega))⟩
  by_cases h2 : 18 < s
  · rw [form_out (.inr (.inl h2))]
    go_enter Tryd.func73, Tryd.ntmps73
    go_wp2
    go_ret
    exact ⟨rfl, by (repeat' (first | (with_reducible exact Below.refl _ _) | (with_reducible assumption) | (with_reducible refine Below.alloc ?_ ?_ _) | (with_reducible refine below_drewN ?_ _) | (with_reducible refine below_drew ?_) | (with_reducible refine below_ext ?_ ?_ _ _) | (with_reducible refine Below.setCell ?_ ?_ _) | (simp; done) | (simp; omega) | omega))⟩
  have h1f := fun w ht => fits_any c hc w ht
  by_cases h3 : c < 10 ^ 34
  · rw [decide_eq_true h3] at h1f
    have H1 := Lib.hid h1f
    by_cases h4 : s = 0
    · subst h4
      rw [form_none h3]
      have h5 := fun w => isZero_any neg c 0 w
      obtain ⟨z, hz⟩ : ∃ z, z = decide (c = 0) := ⟨_, rfl⟩
      rw [← hz] at h5 ⊢
      have H2 := Lib.hid h5
      clear h5 hz h3 hc h1f h1 h2
      cases neg with
      | false =>
        go_enter Tryd.func73, Tryd.ntmps73
        go_wp2_with (first
          | (go_at_call 81; ((with_reducible refine (H1.out _ (HT.out _ (by (repeat' (first | (with_reducible exact Below.refl _ _) | (with_reducible assumption) | (with_reducible refine Below.alloc ?_ ?_ _) | (with_reducible refine below_drewN ?_ _) | (with_reducible refine below_drew ?_) | (with_reducible refine below_ext ?_ ?_ _ _) | (with_reducible refine Below.setCell ?_ ?_ _) | (simp; done) | (simp; omega) | omega))))).mono ?_); rintro e w1 ⟨rfl, hb1⟩; obtain ⟨osA, dA, rfl⟩ := ext_of_below hb1; clear hb1))
          | (go_at_call 82; ((with_reducible refine (H2.out _).mono ?_); rintro e w1 ⟨rfl, hb1⟩; obtain ⟨osB, dB, rfl⟩ := ext_of_below hb1; clear hb1)))
        go_ret
        exact ⟨rfl, by (repeat' (first | (with_reducible exact Below.refl _ _) | (with_reducible assumption) | (with_reducible refine Below.alloc ?_ ?_ _) | (with_reducible refine below_drewN ?_ _) | (with_reducible refine below_drew ?_) | (with_reducible refine below_ext ?_ ?_ _ _) | (with_reducible refine Below.setCell ?_ ?_ _) | (simp; done) | (simp; omega) | omega))⟩
      | true =>
        go_enter Tryd.func73, Tryd.ntmps73
        go_wp2_with (first
          | (go_at_call 81; ((with_reducible refine (H1.out _ (HT.out _ (by (repeat' (first | (with_reducible exact Below.refl _ _) | (with_reducible assumption) | (with_reducible refine Below.alloc ?_ ?_ _) | (with_reducible refine below_drewN ?_ _) | (with_reducible refine below_drew ?_) | (with_reducible refine below_ext ?_ ?_ _ _) | (with_reducible refine Below.setCell ?_ ?_ _) | (simp; done) | (simp; omega) | omega))))).mono ?_); rintro e w1 ⟨rfl, hb1⟩; obtain ⟨osA, dA, rfl⟩ := ext_of_below hb1; clear hb1))
          | (go_at_call 82; ((with_reducible refine (H2.out _).mono ?_); rintro e w1 ⟨rfl, hb1⟩; obtain ⟨osB, dB, rfl⟩ := ext_of_below hb1; clear hb1)))
        go_ret
        exact ⟨rfl, by (repeat' (first | (with_reducible exact Below.refl _ _) | (with_reducible assumption) | (with_reducible refine Below.alloc ?_ ?_ _) | (with_reducible refine below_drewN ?_ _) | (with_reducible refine below_drew ?_) | (with_reducible refine below_ext ?_ ?_ _ _) | (with_reducible refine Below.setCell ?_ ?_ _) | (simp; done) | (simp; omega) | omega))⟩
    · have hc4 : c < top4 := by unfold top2 top4 at *; omega
      rw [form_some h3 h1 h2 h4]
      obtain ⟨r, hr⟩ : ∃ r, r = c % 10 := ⟨_, rfl⟩
      obtain ⟨q, hq⟩ : ∃ q, q = c / p10 1 := ⟨_, rfl⟩
      rw [← hr]
      have h5 := fun w => dlong_any c hc w
      have h6 := fun w ht => split_one c q r hc4 hq hr w ht
      have H2 := Lib.hid h5
      clear hr hq hc hc4 h5 h3 h1f
      by_cases h7 : r = 0
      · subst h7
        have e0 : W 0 = .agg #[.int .u64 0, .int .u64 0] := rfl
        rw [e0] at h6
        have H3 := Lib.hid h6
        clear h6 e0
        go_enter Tryd.func73, Tryd.ntmps73
        go_wp2_with (first
          | (go_at_call 81; ((with_reducible refine (H1.out _ (HT.out _ (by (repeat' (first | (with_reducible exact Below.refl _ _) | (with_reducible assumption) | (with_reducible refine Below.alloc ?_ ?_ _) | (with_reducible refine below_drewN ?_ _) | (with_reducible refine below_drew ?_) | (with_reducible refine below_ext ?_ ?_ _ _) | (with_reducible refine Below.setCell ?_ ?_ _) | (simp; done) | (simp; omega) | omega))))).mono ?_); rintro e w1 ⟨rfl, hb1⟩; obtain ⟨osA, dA, rfl⟩ := ext_of_below hb1; clear hb1))
          | (go_at_call 84; ((with_reducible refine (H2.out _).mono ?_); rintro e w1 ⟨rfl, hb1⟩; obtain ⟨osB, dB, rfl⟩ := ext_of_below hb1; clear hb1))
          | (go_at_call 83; ((with_reducible refine (H3.out _ (HT.out _ (by (repeat' (first | (with_reducible exact Below.refl _ _) | (with_reducible assumption) | (with_reducible refine Below.alloc ?_ ?_ _) | (with_reducible refine below_drewN ?_ _) | (with_reducible refine below_drew ?_) | (with_reducible refine below_ext ?_ ?_ _ _) | (with_reducible refine Below.setCell ?_ ?_ _) | (simp; done) | (simp; omega) | omega))))).mono ?_); rintro e w1 ⟨rfl, hb1⟩; obtain ⟨osC, dC, rfl⟩ := ext_of_below hb1; clear hb1)))
        go_ret
        exact ⟨rfl, by (repeat' (first | (with_reducible exact Below.refl _ _) | (with_reducible assumption) | (with_reducible refine Below.alloc ?_ ?_ _) | (with_reducible refine below_drewN ?_ _) | (with_reducible refine below_drew ?_) | (with_reducible refine below_ext ?_ ?_ _ _) | (with_reducible refine Below.setCell ?_ ?_ _) | (simp; done) | (simp; omega) | omega))⟩
      · rw [decide_eq_false h7]
        have H3 := Lib.hid h6
        have hnz := word_ne (b := r) (by omega)
        clear h6 h7
        rcases hnz with nz | ⟨nz, nz'⟩
        all_goals
          go_enter Tryd.func73, Tryd.ntmps73
          go_wp2_with (first
            | (go_at_call 81; ((with_reducible refine (H1.out _ (HT.out _ (by (repeat' (first | (with_reducible exact Below.refl _ _) | (with_reducible assumption) | (with_reducible refine Below.alloc ?_ ?_ _) | (with_reducible refine below_drewN ?_ _) | (with_reducible refine below_drew ?_) | (with_reducible refine below_ext ?_ ?_ _ _) | (with_reducible refine Below.setCell ?_ ?_ _) | (simp; done) | (simp; omega) | omega))))).mono ?_); rintro e w1 ⟨rfl, hb1⟩; obtain ⟨osA, dA, rfl⟩ := ext_of_below hb1; clear hb1))
            | (go_at_call 84; ((with_reducible refine (H2.out _).mono ?_); rintro e w1 ⟨rfl, hb1⟩; obtain ⟨osB, dB, rfl⟩ := ext_of_below hb1; clear hb1))
            | (go_at_call 83; ((with_reducible refine (H3.out _ (HT.out _ (by (repeat' (first | (with_reducible exact Below.refl _ _) | (with_reducible assumption) | (with_reducible refine Below.alloc ?_ ?_ _) | (with_reducible refine below_drewN ?_ _) | (with_reducible refine below_drew ?_) | (with_reducible refine below_ext ?_ ?_ _ _) | (with_reducible refine Below.setCell ?_ ?_ _) | (simp; done) | (simp; omega) | omega))))).mono ?_); rintro e w1 ⟨rfl, hb1⟩; obtain ⟨osC, dC, rfl⟩ := ext_of_below hb1; clear hb1)))
          go_ret
          exact ⟨rfl, by (repeat' (first | (with_reducible exact Below.refl _ _) | (with_reducible assumption) | (with_reducible refine Below.alloc ?_ ?_ _) | (with_reducible refine below_drewN ?_ _) | (with_reducible refine below_drew ?_) | (with_reducible refine below_ext ?_ ?_ _ _) | (with_reducible refine Below.setCell ?_ ?_ _) | (simp; done) | (simp; omega) | omega))⟩
  · rw [form_out (.inr (.inr h3))]
    rw [decide_eq_false h3] at h1f
    have H1 := Lib.hid h1f
    clear h1f h3 hc
    go_enter Tryd.func73, Tryd.ntmps73
    go_wp2_with (first
      | (go_at_call 81; ((with_reducible refine (H1.out _ (HT.out _ (by (repeat' (first | (with_reducible exact Below.refl _ _) | (with_reducible assumption) | (with_reducible refine Below.alloc ?_ ?_ _) | (with_reducible refine below_drewN ?_ _) | (with_reducible refine below_drew ?_) | (with_reducible refine below_ext ?_ ?_ _ _) | (with_reducible refine Below.setCell ?_ ?_ _) | (simp; done) | (simp; omega) | omega))))).mono ?_); rintro e w1 ⟨rfl, hb1⟩; obtain ⟨osA, dA, rfl⟩ := ext_of_below hb1; clear hb1)))
    go_ret
    exact ⟨rfl, by (repeat' (first | (with_reducible exact Below.refl _ _) | (with_reducible assumption) | (with_reducible refine Below.alloc ?_ ?_ _) | (with_reducible refine below_drewN ?_ _) | (with_reducible refine below_drew ?_) | (with_reducible refine below_ext ?_ ?_ _ _) | (with_reducible refine Below.setCell ?_ ?_ _) | (simp; done) | (simp; omega) | omega))⟩
end Go.Proofs.YtpgfgaloagdogaaDoor
namespace Go.Proofs.YtpgfgaloagdogaaDoor
open Go.RowKit Word
attribute [local go_sem] setCell_drewN cell?_ext frozen?_ext shape?_ext setCell_ext lt_1' ne_1' en_1' le_1' lt_2' ne_2' en_2' le_2' lt_3' ne_3' en_3' le_3' lt_4' ne_4' en_4' le_4' lt_5' ne_5' en_5' le_5' lt_6' ne_6' en_6' le_6' lt_7' ne_7' en_7' le_7' lt_8' ne_8' en_8' le_8' lt_9' ne_9' en_9' le_9' lt_10' ne_10' en_10' le_10' lt_11' ne_11' en_11' le_11' lt_12' ne_12' en_12' le_12'

theorem fitS_some {x : Option (Nat × Nat)} {c s : Nat} (h : x = some (c, s)) : fitC x = c ∧ fitZ x = (s : Int) ∧ fitE x = 0 := by subst h; exact ⟨rfl, rfl, rfl⟩
theorem FV_some {neg : Bool} {x : Option (Nat × Nat)} {m s : Nat} (h : x = some (Fit.strip m s)) : FV neg x = DS neg m s ∧ fitE x = 0 := by subst h; exact ⟨rfl, rfl⟩
theorem FV_none (neg : Bool) : FV neg none = .agg #[.bool false, .int .u64 0, .int .u64 0, .int .i64 0] := by
  cases neg <;> rfl
end Go.Proofs.YtpgfgaloagdogaaDoor
