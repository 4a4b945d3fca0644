/-
  The document's decimals: Shift of any number, Form, make.
  The document's decimals: make, Fit.
  The document's decimals: units, sums of signed sizes, the order.
  The document's decimals: Neg, Abs, Add, Sub, Mul, Make, the order.
  The document's decimals: what is not in form; Neg, Abs, Sub, Cmp.
-/
import Derived.Test.YtalahkincccffaaGreatDoorBd
import Derived.Test.YtalahkincccffaaGreatDoorDecOne
namespace Go.Proofs.YtalahkincccffaaGreatDoor
open Go.RowKit Num Word
attribute [local go_sem] setCell_drewN cell?_ext frozen?_ext shape?_ext setCell_ext lt_1' ne_1' en_1' le_1' lt_2' ne_2' en_2' le_2' lt_3' ne_3' en_3' le_3' lt_4' ne_4' en_4' le_4' lt_5' ne_5' en_5' le_5' lt_6' ne_6' en_6' le_6' lt_7' ne_7' en_7' le_7' lt_8' ne_8' en_8' le_8' lt_9' ne_9' en_9' le_9' lt_10' ne_10' en_10' le_10' lt_11' ne_11' en_11' le_11' lt_12' ne_12' en_12' le_12'

theorem len34 (c : Nat) : (dg c).length ≤ 34 ↔ c < 10 ^ 34 := dg_len_le
theorem len_zero (c : Nat) : (dg c).length = 0 ↔ c = 0 := by
  rcases Nat.eq_zero_or_pos c with h | h
  · subst h; rw [dg_zero]; simp
  · rw [dg_pos h]; simp; omega
set_option maxRecDepth 100000 in
set_option maxHeartbeats 4000000 in
theorem rform_any (neg : Bool) (c : Nat) (s : Int) (hc : c < top2) (w : World) :
    Calls Tryz.prog 38 #[D neg c s] w fun e w' => e = .returned (.bool (formB neg c s)) ∧ Below w.heap.size w w' := by
  have H1 := Lib.hid (fun w => of_any c hc w)
  have hlen := len34 c
  have hfirst : ∀ h : 0 < (dg c).length, (dg c)[0] = c % 10 := fun h => by rw [dg_get h, Nat.pow_zero, Nat.div_one]
  have hz := len_zero c
  obtain ⟨l, hl⟩ : ∃ l, l = dg c := ⟨_, rfl⟩
  rw [← hl] at hlen hz
  have hf2 : ∀ h : 0 < l.length, l[0] = c % 10 := by subst hl; exact hfirst
  have HL := Lib.hid hl
  clear hfirst hl hc
  by_cases h1 : c < 10 ^ 34
  · have hl34 := hlen.2 h1
    have hl34i : ¬ (34 : Int) < (l.length : Int) := by omega
    by_cases h2 : s < 0
    · rw [form_out (.inl h2)]
      clear hlen hz hf2 h1
      go_enter Tryz.func38, Tryz.ntmps38
      go_wp2_with (go_at_call 64; ((with_reducible refine (H1.out _).mono ?_); rintro e w1 ⟨v1, rfl, r1, b1⟩; rw [← HL.out] at r1; obtain ⟨p1, c1, rfl, -⟩ := r1.form; clear r1; obtain ⟨os1, d1, rfl⟩ := ext_of_below b1; clear b1))
      go_ret
      exact ⟨rfl, by (repeat' (first | (with_reducible first | exact Below.refl _ _ | assumption | refine Below.alloc ?_ ?_ _ | refine below_drewN ?_ _ | refine below_drew ?_ | refine below_ext ?_ ?_ _ _ | refine Below.setCell ?_ ?_ _) | (simp; done) | (simp; omega) | omega))⟩
    by_cases h3 : 18 < s
    · rw [form_out (.inr (.inl h3))]
      clear hlen hz hf2 h1
      go_enter Tryz.func38, Tryz.ntmps38
      go_wp2_with (go_at_call 64; ((with_reducible refine (H1.out _).mono ?_); rintro e w1 ⟨v1, rfl, r1, b1⟩; rw [← HL.out] at r1; obtain ⟨p1, c1, rfl, -⟩ := r1.form; clear r1; obtain ⟨os1, d1, rfl⟩ := ext_of_below b1; clear b1))
      go_ret
      exact ⟨rfl, by (repeat' (first | (with_reducible first | exact Below.refl _ _ | assumption | refine Below.alloc ?_ ?_ _ | refine below_drewN ?_ _ | refine below_drew ?_ | refine below_ext ?_ ?_ _ _ | refine Below.setCell ?_ ?_ _) | (simp; done) | (simp; omega) | omega))⟩
    by_cases h0 : c = 0
    · have hl0 := hz.2 h0
      have hl0i : (l.length : Int) = 0 := by omega
      by_cases h4 : s = 0
      · subst h4
        rw [form_none h1, decide_eq_true h0]
        clear hlen hz hf2 h1 h0
        cases neg
        all_goals
          go_enter Tryz.func38, Tryz.ntmps38
          go_wp2_with (go_at_call 64; ((with_reducible refine (H1.out _).mono ?_); rintro e w1 ⟨v1, rfl, r1, b1⟩; rw [← HL.out] at r1; obtain ⟨p1, c1, rfl, -⟩ := r1.form; clear r1; obtain ⟨os1, d1, rfl⟩ := ext_of_below b1; clear b1))
          go_ret
          exact ⟨rfl, by (repeat' (first | (with_reducible first | exact Below.refl _ _ | assumption | refine Below.alloc ?_ ?_ _ | refine below_drewN ?_ _ | refine below_drew ?_ | refine below_ext ?_ ?_ _ _ | refine Below.setCell ?_ ?_ _) | (simp; done) | (simp; omega) | omega))⟩
      · rw [form_some h1 h2 h3 h4, decide_eq_true (by omega)]
        have hs0 : (s == 0) = false := beq_eq_false_iff_ne.2 h4
        clear hlen hz hf2 h1 h0
        cases neg
        all_goals
          go_enter Tryz.func38, Tryz.ntmps38
          go_wp2_with (go_at_call 64; ((with_reducible refine (H1.out _).mono ?_); rintro e w1 ⟨v1, rfl, r1, b1⟩; rw [← HL.out] at r1; obtain ⟨p1, c1, rfl, -⟩ := r1.form; clear r1; obtain ⟨os1, d1, rfl⟩ := ext_of_below b1; clear b1))
          go_ret
          exact ⟨rfl, by (repeat' (first | (with_reducible first | exact Below.refl _ _ | assumption | refine Below.alloc ?_ ?_ _ | refine below_drewN ?_ _ | refine below_drew ?_ | refine below_ext ?_ ?_ _ _ | refine Below.setCell ?_ ?_ _) | (simp; done) | (simp; omega) | omega))⟩
    · have hl0 : ¬ l.length = 0 := fun h => h0 (hz.1 h)
      have hl0i : ¬ (l.length : Int) = 0 := by omega
      have hlp : 0 < l.length := by omega
      have hlpi : (0 : Int) < l.length := by omega
      have HG := Lib.hid (hf2 hlp)
      by_cases h4 : s = 0
      · subst h4
        rw [form_none h1, decide_eq_false h0, Bool.not_false, Bool.or_true]
        clear hlen hz hf2 h1 h0
        go_enter Tryz.func38, Tryz.ntmps38
        go_wp2_with (go_at_call 64; ((with_reducible refine (H1.out _).mono ?_); rintro e w1 ⟨v1, rfl, r1, b1⟩; rw [← HL.out] at r1; obtain ⟨p1, c1, rfl, -⟩ := r1.form; clear r1; obtain ⟨os1, d1, rfl⟩ := ext_of_below b1; clear b1))
        go_ret
        exact ⟨rfl, by (repeat' (first | (with_reducible first | exact Below.refl _ _ | assumption | refine Below.alloc ?_ ?_ _ | refine below_drewN ?_ _ | refine below_drew ?_ | refine below_ext ?_ ?_ _ _ | refine Below.setCell ?_ ?_ _) | (simp; done) | (simp; omega) | omega))⟩
      · rw [form_some h1 h2 h3 h4]
        obtain ⟨r, hr⟩ : ∃ r, r = c % 10 := ⟨_, rfl⟩
        rw [← hr] at HG ⊢
        have er : (!decide (r = 0)) = !((r : Int) == 0) := by
          by_cases h : r = 0
          · subst h; rfl
          · rw [decide_eq_false h, beq_eq_false_iff_ne.2 (show (r : Int) ≠ 0 by omega)]
        rw [er]
        have hs0 : (s == 0) = false := beq_eq_false_iff_ne.2 h4
        clear hlen hz hf2 h1 h0 er hr
        go_enter Tryz.func38, Tryz.ntmps38
        go_wp2_with (go_at_call 64; ((with_reducible refine (H1.out _).mono ?_); rintro e w1 ⟨v1, rfl, r1, b1⟩; rw [← HL.out] at r1; obtain ⟨p1, c1, rfl, -⟩ := r1.form; obtain ⟨-, g, off, rfl, hg, hx⟩ := r1.cells hlp; have cq := hx 0 hlp; rw [HG.out, Nat.add_zero] at cq; clear hx r1; obtain ⟨os1, d1, rfl⟩ := ext_of_below b1; clear b1))
        go_ret
        exact ⟨rfl, by (repeat' (first | (with_reducible first | exact Below.refl _ _ | assumption | refine Below.alloc ?_ ?_ _ | refine below_drewN ?_ _ | refine below_drew ?_ | refine below_ext ?_ ?_ _ _ | refine Below.setCell ?_ ?_ _) | (simp; done) | (simp; omega) | omega))⟩
  · have hl34i : (34 : Int) < (l.length : Int) := by
      have : ¬ l.length ≤ 34 := fun h => h1 (hlen.1 h)
      omega
    rw [form_out (.inr (.inr h1))]
    clear hlen hz hf2 h1
    go_enter Tryz.func38, Tryz.ntmps38
    go_wp2_with (go_at_call 64; ((with_reducible refine (H1.out _).mono ?_); rintro e w1 ⟨v1, rfl, r1, b1⟩; rw [← HL.out] at r1; obtain ⟨p1, c1, rfl, -⟩ := r1.form; clear r1; obtain ⟨os1, d1, rfl⟩ := ext_of_below b1; clear b1))
    go_ret
    exact ⟨rfl, by (repeat' (first | (with_reducible first | exact Below.refl _ _ | assumption | refine Below.alloc ?_ ?_ _ | refine below_drewN ?_ _ | refine below_drew ?_ | refine below_ext ?_ ?_ _ _ | refine Below.setCell ?_ ?_ _) | (simp; done) | (simp; omega) | omega))⟩
end Go.Proofs.YtalahkincccffaaGreatDoor
namespace Go.Proofs.YtalahkincccffaaGreatDoor
open Go.RowKit Num Word
attribute [local go_sem] setCell_drewN cell?_ext frozen?_ext shape?_ext setCell_ext lt_1' ne_1' en_1' le_1' lt_2' ne_2' en_2' le_2' lt_3' ne_3' en_3' le_3' lt_4' ne_4' en_4' le_4' lt_5' ne_5' en_5' le_5' lt_6' ne_6' en_6' le_6' lt_7' ne_7' en_7' le_7' lt_8' ne_8' en_8' le_8' lt_9' ne_9' en_9' le_9' lt_10' ne_10' en_10' le_10' lt_11' ne_11' en_11' le_11' lt_12' ne_12' en_12' le_12'

end Go.Proofs.YtalahkincccffaaGreatDoor
namespace Go.Proofs.YtalahkincccffaaGreatDoor
open Go.RowKit Num Word
attribute [local go_sem] setCell_drewN cell?_ext frozen?_ext shape?_ext setCell_ext lt_1' ne_1' en_1' le_1' lt_2' ne_2' en_2' le_2' lt_3' ne_3' en_3' le_3' lt_4' ne_4' en_4' le_4' lt_5' ne_5' en_5' le_5' lt_6' ne_6' en_6' le_6' lt_7' ne_7' en_7' le_7' lt_8' ne_8' en_8' le_8' lt_9' ne_9' en_9' le_9' lt_10' ne_10' en_10' le_10' lt_11' ne_11' en_11' le_11' lt_12' ne_12' en_12' le_12'

end Go.Proofs.YtalahkincccffaaGreatDoor
namespace Go.Proofs.YtalahkincccffaaGreatDoor
open Go.RowKit Num Word
attribute [local go_sem] setCell_drewN cell?_ext frozen?_ext shape?_ext setCell_ext lt_1' ne_1' en_1' le_1' lt_2' ne_2' en_2' le_2' lt_3' ne_3' en_3' le_3' lt_4' ne_4' en_4' le_4' lt_5' ne_5' en_5' le_5' lt_6' ne_6' en_6' le_6' lt_7' ne_7' en_7' le_7' lt_8' ne_8' en_8' le_8' lt_9' ne_9' en_9' le_9' lt_10' ne_10' en_10' le_10' lt_11' ne_11' en_11' le_11' lt_12' ne_12' en_12' le_12'

end Go.Proofs.YtalahkincccffaaGreatDoor
namespace Go.Proofs.YtalahkincccffaaGreatDoor
open Go.RowKit Num Word
attribute [local go_sem] setCell_drewN cell?_ext frozen?_ext shape?_ext setCell_ext lt_1' ne_1' en_1' le_1' lt_2' ne_2' en_2' le_2' lt_3' ne_3' en_3' le_3' lt_4' ne_4' en_4' le_4' lt_5' ne_5' en_5' le_5' lt_6' ne_6' en_6' le_6' lt_7' ne_7' en_7' le_7' lt_8' ne_8' en_8' le_8' lt_9' ne_9' en_9' le_9' lt_10' ne_10' en_10' le_10' lt_11' ne_11' en_11' le_11' lt_12' ne_12' en_12' le_12'

end Go.Proofs.YtalahkincccffaaGreatDoor
