/-
  The document's decimals: Shift of any number, Form, make.
  The document's decimals: make, Fit.
  The document's decimals: units, sums of signed sizes, the order.
  The document's decimals: Neg, Abs, Add, Sub, Mul, Make, the order.
  The document's decimals: what is not in form; Neg, Abs, Sub, Cmp.
-/
import Derived.Test.YtfffjbnbhmohjaaGreatDoorBd
import Derived.Test.YtfffjbnbhmohjaaGreatDoorDecOne
import Derived.Test.YtfffjbnbhmohjaaGreatDoorDecTwo
namespace Go.Proofs.YtfffjbnbhmohjaaGreatDoor
open Go.RowKit Num Word
attribute [local go_sem] setCell_drewN cell?_ext frozen?_ext shape?_ext setCell_ext lt_1' ne_1' en_1' le_1' lt_2' ne_2' en_2' le_2' lt_3' ne_3' en_3' le_3' lt_4' ne_4' en_4' le_4' lt_5' ne_5' en_5' le_5' lt_6' ne_6' en_6' le_6' lt_7' ne_7' en_7' le_7' lt_8' ne_8' en_8' le_8' lt_9' ne_9' en_9' le_9' lt_10' ne_10' en_10' le_10' lt_11' ne_11' en_11' le_11' lt_12' ne_12' en_12' le_12'

theorem rshift_all (va : Value) (n k : Nat) (hk : k ≤ 1000) (hl : (dg n).length ≤ 100000) (w : World) (ha : Rd w va (dg n)) :
    Calls Tryz.prog 101 #[va, .int .i64 (k : Int)] w fun e w' => ∃ v', e = .returned v' ∧ RdP (fun g => w.heap.size ≤ g) w' v' (dg (n * 10 ^ k)) ∧ Below w.heap.size w w' := by
  rcases Nat.eq_zero_or_pos n with h | h
  · subst h
    rw [Nat.zero_mul, dg_zero]
    rw [dg_zero] at ha
    obtain ⟨p, cap, rfl, -⟩ := ha.form
    clear ha hl
    go_enter Tryz.func101, Tryz.ntmps101
    go_wp2
    go_ret
    exact ⟨_, rfl, RdP.nil _, by (repeat' (first | (with_reducible exact Below.refl _ _) | (with_reducible assumption) | (with_reducible refine Below.alloc ?_ ?_ _) | (with_reducible refine below_drewN ?_ _) | (with_reducible refine below_drew ?_) | (with_reducible refine below_ext ?_ ?_ _ _) | (with_reducible refine Below.setCell ?_ ?_ _) | (simp; done) | (simp; omega) | omega))⟩
  · exact rshift_any va n k h hk hl w ha
theorem len34 (c : Nat) : (dg c).length ≤ 34 ↔ c < 10 ^ 34 := dg_len_le
theorem len_zero (c : Nat) : (dg c).length = 0 ↔ c = 0 := by
  rcases Nat.eq_zero_or_pos c with h | h
  · subst h; rw [dg_zero]; simp
  · rw [dg_pos h]; simp; omega
set_option maxRecDepth 100000 in
set_option maxHeartbeats 4000000 in
theorem rform_any (neg : Bool) (c : Nat) (s : Int) (hc : c < top2) (w : World) :
    Calls Tryz.prog 50 #[D neg c s] w fun e w' => e = .returned (.bool (formB neg c s)) ∧ Below w.heap.size w w' := by
  have H1 := Lib.hid (fun w => of_any c hc w)
  have hlen := len34 c
  have hfirst : ∀ h : 0 < (dg c).length, (dg c)[0] = c % 10 := fun h => by rw [dg_get h, Nat.pow_zero, Nat.div_one]
  have hz := len_zero c
  obtain ⟨l, hl⟩ : ∃ l, l = dg c := ⟨_, rfl⟩
  rw [← hl] at hlen hz
  have hf2 : ∀ h : 0 < l.length, l[0] = c % 10 := by subst hl; exact hfirst
  have HL := Lib.hid hl
  clear hfirst hl hc
  by_cases h1 : c < 10 ^ 34
  · have hl34 := hlen.2 h1
    have hl34i : ¬ (34 : Int) < (l.length : Int) := by omega
    by_cases h2 : s < 0
    · rw [form_out (.inl h2)]
      clear hlen hz hf2 h1
      go_enter Tryz.func50, Tryz.ntmps50
      go_wp2_with (go_at_call 73; ((with_reducible refine (H1.out _).mono ?_); rintro e w1 ⟨v1, rfl, r1, b1⟩; rw [← HL.out] at r1; obtain ⟨p1, c1, rfl, -⟩ := r1.form; clear r1; obtain ⟨os1, d1, rfl⟩ := ext_of_below b1; clear b1))
      go_ret
      exact ⟨rfl, by (repeat' (first | (with_reducible exact Below.refl _ _) | (with_reducible assumption) | (with_reducible refine Below.alloc ?_ ?_ _) | (with_reducible refine below_drewN ?_ _) | (with_reducible refine below_drew ?_) | (with_reducible refine below_ext ?_ ?_ _ _) | (with_reducible refine Below.setCell ?_ ?_ _) | (simp; done) | (simp; omega) | omega))⟩
    by_cases h3 : 18 < s
    · rw [form_out (.inr (.inl h3))]
      clear hlen hz hf2 h1
      go_enter Tryz.func50, Tryz.ntmps50
      go_wp2_with (go_at_call 73; ((with_reducible refine (H1.out _).mono ?_); rintro e w1 ⟨v1, rfl, r1, b1⟩; rw [← HL.out] at r1; obtain ⟨p1, c1, rfl, -⟩ := r1.form; clear r1; obtain ⟨os1, d1, rfl⟩ := ext_of_below b1; clear b1))
      go_ret
      exact ⟨rfl, by (repeat' (first | (with_reducible exact Below.refl _ _) | (with_reducible assumption) | (with_reducible refine Below.alloc ?_ ?_ _) | (with_reducible refine below_drewN ?_ _) | (with_reducible refine below_drew ?_) | (with_reducible refine below_ext ?_ ?_ _ _) | (with_reducible refine Below.setCell ?_ ?_ _) | (simp; done) | (simp; omega) | omega))⟩
    by_cases h0 : c = 0
    · have hl0 := hz.2 h0
      have hl0i : (l.length : Int) = 0 := by omega
      by_cases h4 : s = 0
      · subst h4
        rw [form_none h1, decide_eq_true h0]
        clear hlen hz hf2 h1 h0
        cases neg
        all_goals
          go_enter Tryz.func50, Tryz.ntmps50
          go_wp2_with (go_at_call 73; ((with_reducible refine (H1.out _).mono ?_); rintro e w1 ⟨v1, rfl, r1, b1⟩; rw [← HL.out] at r1; obtain ⟨p1, c1, rfl, -⟩ := r1.form; clear r1; obtain ⟨os1, d1, rfl⟩ := ext_of_below b1; clear b1))
          go_ret
          exact ⟨rfl, by (repeat' (first | (with_reducible exact Below.refl _ _) | (with_reducible assumption) | (with_reducible refine Below.alloc ?_ ?_ _) | (with_reducible refine below_drewN ?_ _) | (with_reducible refine below_drew ?_) | (with_reducible refine below_ext ?_ ?_ _ _) | (with_reducible refine Below.setCell ?_ ?_ _) | (simp; done) | (simp; omega) | omega))⟩
      · rw [form_some h1 h2 h3 h4, decide_eq_true (by omega)]
        have hs0 : (s == 0) = false := beq_eq_false_iff_ne.2 h4
        clear hlen hz hf2 h1 h0
        cases neg
        all_goals
          go_enter Tryz.func50, Tryz.ntmps50
          go_wp2_with (go_at_call 73; ((with_reducible refine (H1.out _).mono ?_); rintro e w1 ⟨v1, rfl, r1, b1⟩; rw [← HL.out] at r1; obtain ⟨p1, c1, rfl, -⟩ := r1.form; clear r1; obtain ⟨os1, d1, rfl⟩ := ext_of_below b1; clear b1))
          go_ret
          exact ⟨rfl, by (repeat' (first | (with_reducible exact Below.refl _ _) | (with_reducible assumption) | (with_reducible refine Below.alloc ?_ ?_ _) | (with_reducible refine below_drewN ?_ _) | (with_reducible refine below_drew ?_) | (with_reducible refine below_ext ?_ ?_ _ _) | (with_reducible refine Below.setCell ?_ ?_ _) | (simp; done) | (simp; omega) | omega))⟩
    · have hl0 : ¬ l.length = 0 := fun h => h0 (hz.1 h)
      have hl0i : ¬ (l.length : Int) = 0 := by omega
      have hlp : 0 < l.length := by omega
      have hlpi : (0 : Int) < l.length := by omega
      have HG := Lib.hid (hf2 hlp)
      by_cases h4 : s = 0
      · subst h4
        rw [form_none h1, decide_eq_false h0, Bool.not_false, Bool.or_true]
        clear hlen hz hf2 h1 h0
        go_enter Tryz.func50, Tryz.ntmps50
        go_wp2_with (go_at_call 73; ((with_reducible refine (H1.out _).mono ?_); rintro e w1 ⟨v1, rfl, r1, b1⟩; rw [← HL.out] at r1; obtain ⟨p1, c1, rfl, -⟩ := r1.form; clear r1; obtain ⟨os1, d1, rfl⟩ := ext_of_below b1; clear b1))
        go_ret
        exact ⟨rfl, by (repeat' (first | (with_reducible exact Below.refl _ _) | (with_reducible assumption) | (with_reducible refine Below.alloc ?_ ?_ _) | (with_reducible refine below_drewN ?_ _) | (with_reducible refine below_drew ?_) | (with_reducible refine below_ext ?_ ?_ _ _) | (with_reducible refine Below.setCell ?_ ?_ _) | (simp; done) | (simp; omega) | omega))⟩
      · rw [form_some h1 h2 h3 h4]
        obtain ⟨r, hr⟩ : ∃ r, r = c % 10 := ⟨_, rfl⟩
        rw [← hr] at HG ⊢
        have er : (!decide (r = 0)) = !((r : Int) == 0) := by
          by_cases h : r = 0
          · subst h; rfl
          · rw [decide_eq_false h, beq_eq_false_iff_ne.2 (show (r : Int) ≠ 0 by omega)]
        rw [er]
        have hs0 : (s == 0) = false := beq_eq_false_iff_ne.2 h4
        clear hlen hz hf2 h1 h0 er hr
        go_enter Tryz.func50, Tryz.ntmps50
        go_wp2_with (go_at_call 73; ((with_reducible refine (H1.out _).mono ?_); rintro e w1 ⟨v1, rfl, r1, b1⟩; rw [← HL.out] at r1; obtain ⟨p1, c1, rfl, -⟩ := r1.form; obtain ⟨-, g, off, rfl, hg, hx⟩ := r1.cells hlp; have cq := hx 0 hlp; rw [HG.out, Nat.add_zero] at cq; clear hx r1; obtain ⟨os1, d1, rfl⟩ := ext_of_below b1; clear b1))
        go_ret
        exact ⟨rfl, by (repeat' (first | (with_reducible exact Below.refl _ _) | (with_reducible assumption) | (with_reducible refine Below.alloc ?_ ?_ _) | (with_reducible refine below_drewN ?_ _) | (with_reducible refine below_drew ?_) | (with_reducible refine below_ext ?_ ?_ _ _) | (with_reducible refine Below.setCell ?_ ?_ _) | (simp; done) | (simp; omega) | omega))⟩
  · have hl34i : (34 : Int) < (l.length : Int) := by
      have : ¬ l.length ≤ 34 := fun h => h1 (hlen.1 h)
      omega
    rw [form_out (.inr (.inr h1))]
    clear hlen hz hf2 h1
    go_enter Tryz.func50, Tryz.ntmps50
    go_wp2_with (go_at_call 73; ((with_reducible refine (H1.out _).mono ?_); rintro e w1 ⟨v1, rfl, r1, b1⟩; rw [← HL.out] at r1; obtain ⟨p1, c1, rfl, -⟩ := r1.form; clear r1; obtain ⟨os1, d1, rfl⟩ := ext_of_below b1; clear b1))
    go_ret
    exact ⟨rfl, by (repeat' (first | (with_reducible exact Below.refl _ _) | (with_reducible assumption) | (with_reducible refine Below.alloc ?_ ?_ _) | (with_reducible refine below_drewN ?_ _) | (with_reducible refine below_drew ?_) | (with_reducible refine below_ext ?_ ?_ _ _) | (with_reducible refine Below.setCell ?_ ?_ _) | (simp; done) | (simp; omega) | omega))⟩
end Go.Proofs.YtfffjbnbhmohjaaGreatDoor
namespace Go.Proofs.YtfffjbnbhmohjaaGreatDoor
open Go.RowKit Num Word
attribute [local go_sem] setCell_drewN cell?_ext frozen?_ext shape?_ext setCell_ext lt_1' ne_1' en_1' le_1' lt_2' ne_2' en_2' le_2' lt_3' ne_3' en_3' le_3' lt_4' ne_4' en_4' le_4' lt_5' ne_5' en_5' le_5' lt_6' ne_6' en_6' le_6' lt_7' ne_7' en_7' le_7' lt_8' ne_8' en_8' le_8' lt_9' ne_9' en_9' le_9' lt_10' ne_10' en_10' le_10' lt_11' ne_11' en_11' le_11' lt_12' ne_12' en_12' le_12'

theorem dg_tail (n : Nat) : (dg n).drop 1 = dg (n / 10) := by
  have := dg_drop n 1
  rwa [Nat.pow_one] at this
theorem dg_len_pos {n : Nat} (h : 0 < n) : 0 < (dg n).length := by rw [dg_pos h]; simp
theorem dg_len_two {n : Nat} (h : 10 ≤ n) : 1 < (dg n).length := dg_len_lt.2 (by rwa [Nat.pow_one])
theorem shift_len {n k m : Nat} (h : (dg n).length ≤ m) : (dg (n * 10 ^ k)).length ≤ m + k := dg_len_le.2 (by
  rw [Nat.pow_add]
  exact Nat.mul_lt_mul_of_pos_right (dg_len_le.1 h) (Nat.pow_pos (by decide)))
end Go.Proofs.YtfffjbnbhmohjaaGreatDoor
namespace Go.Proofs.YtfffjbnbhmohjaaGreatDoor
open Go.RowKit Num Word
attribute [local go_sem] setCell_drewN cell?_ext frozen?_ext shape?_ext setCell_ext lt_1' ne_1' en_1' le_1' lt_2' ne_2' en_2' le_2' lt_3' ne_3' en_3' le_3' lt_4' ne_4' en_4' le_4' lt_5' ne_5' en_5' le_5' lt_6' ne_6' en_6' le_6' lt_7' ne_7' en_7' le_7' lt_8' ne_8' en_8' le_8' lt_9' ne_9' en_9' le_9' lt_10' ne_10' en_10' le_10' lt_11' ne_11' en_11' le_11' lt_12' ne_12' en_12' le_12'

theorem uni_lt {c S : Nat} (hc : c < 10 ^ 34) : Fit.uni c S < 10 ^ 52 := by
  have h1 : 10 ^ (18 - S) ≤ 10 ^ 18 := Nat.pow_le_pow_right (by decide) (by omega)
  have h2 : c * 10 ^ (18 - S) ≤ c * 10 ^ 18 := Nat.mul_le_mul_left _ h1
  have h3 : c * 10 ^ 18 < 10 ^ 34 * 10 ^ 18 := Nat.mul_lt_mul_of_pos_right hc (Fit.pp _)
  have h4 : 10 ^ 34 * 10 ^ 18 = 10 ^ 52 := rfl
  unfold Fit.uni
  omega
theorem len_lt {x : Nat} (h : x < 10 ^ 60) : (dg x).length ≤ 60 := dg_len_le.2 h
set_option maxRecDepth 100000 in
set_option maxHeartbeats 4000000 in
theorem units_any (neg : Bool) (c S : Nat) (hc : c < top2) (hS : S ≤ 18) (w : World) :
    Calls Tryz.prog 79 #[D neg c (S : Int)] w fun e w' => ∃ v', e = .returned (.tuple #[.bool neg, v']) ∧ RdP (fun g => w.heap.size ≤ g) w' v' (dg (Fit.uni c S)) ∧ Below w.heap.size w w' := by
  have H1 := Lib.hid (fun w => of_any c hc w)
  have H2 := Lib.hid (fun va w ha => rshift_all va c (18 - S) (by omega) (by have := len2 hc; omega) w ha)
  have E1 : (18 : Int) - (S : Int) = ((18 - S : Nat) : Int) := by omega
  unfold Fit.uni
  obtain ⟨k, hk⟩ : ∃ k, k = 18 - S := ⟨_, rfl⟩
  rw [← hk] at H2 E1 ⊢
  have E2 : IntKind.i64.wrap (k : Int) = (k : Int) := IntWalk.i64_in _ (by omega)
  clear hc hk
  go_enter Tryz.func79, Tryz.ntmps79
  go_wp2_with fail
  go_region_held3 (fun w' => w'.cell? ⟨w.heap.size, 0, none⟩ = some (.bool neg) ∧ w'.cell? ⟨w.heap.size, 1, none⟩ = some (.int .u64 (hi c : Int)) ∧ w'.cell? ⟨w.heap.size, 2, none⟩ = some (.int .u64 (lo c : Int)) ∧ w'.cell? ⟨w.heap.size, 3, none⟩ = some (.int .i64 (S : Int))) (first | (simp [go_sem]; done) | go_keep) (first
    | (go_at_call 73; ((with_reducible refine (H1.out _).mono ?_); rintro e w1 ⟨v1, rfl, r1, b1⟩; obtain ⟨os1, d1, rfl⟩ := ext_of_below b1; clear b1))
    | (go_at_call 101; ((with_reducible refine (H2.out _ _ (r1.rd.later (by (repeat' (first | (with_reducible exact Below.refl _ _) | (with_reducible assumption) | (with_reducible refine Below.alloc ?_ ?_ _) | (with_reducible refine below_drewN ?_ _) | (with_reducible refine below_drew ?_) | (with_reducible refine below_ext ?_ ?_ _ _) | (with_reducible refine Below.setCell ?_ ?_ _) | (simp; done) | (simp; omega) | omega))))).mono ?_); rintro e w2 ⟨v2, rfl, r2, b2⟩; obtain ⟨os2, d2, rfl⟩ := ext_of_below b2; clear b2)))
  all_goals
    go_wp2
    go_returns
    exact ⟨_, rfl, r2.weak (fun g _ h => by simp at h; omega), by (repeat' (first | (with_reducible exact Below.refl _ _) | (with_reducible assumption) | (with_reducible refine Below.alloc ?_ ?_ _) | (with_reducible refine below_drewN ?_ _) | (with_reducible refine below_drew ?_) | (with_reducible refine below_ext ?_ ?_ _ _) | (with_reducible refine Below.setCell ?_ ?_ _) | (simp; done) | (simp; omega) | omega))⟩
set_option maxRecDepth 100000 in
set_option maxHeartbeats 4000000 in
theorem rsum_same (an : Bool) (va vb : Value) (a b : Nat) (hla : (dg a).length ≤ 100) (hlb : (dg b).length ≤ 100) (w : World) (ha : Rd w va (dg a)) (hb : Rd w vb (dg b)) :
    Calls Tryz.prog 80 #[.bool an, va, .bool an, vb] w fun e w' => ∃ v', e = .returned (.tuple #[.bool an, v']) ∧ RdP (fun g => w.heap.size ≤ g) w' v' (dg (a + b)) ∧ Below w.heap.size w w' := by
  have HA := Lib.hid ha
  have HB := Lib.hid hb
  have H1 := Lib.hid (fun va vb w ha hb => rplus_any va vb a b (by omega) (by omega) w ha hb)
  clear ha hb hla hlb
  go_enter Tryz.func80, Tryz.ntmps80
  go_wp2_with (first
    | (go_at_call 102; ((with_reducible refine (H1.out _ _ _ HA.out HB.out).mono ?_); rintro e w1 ⟨v1, rfl, r1, b1⟩)))
  go_returns
  exact ⟨_, rfl, r1, b1⟩
set_option maxRecDepth 100000 in
set_option maxHeartbeats 4000000 in
theorem rsum_more (an bn : Bool) (hs : ¬ an = bn) (va vb : Value) (a b : Nat) (hle : b ≤ a) (hla : (dg a).length ≤ 100) (hlb : (dg b).length ≤ 100) (w : World) (ha : Rd w va (dg a)) (hb : Rd w vb (dg b)) :
    Calls Tryz.prog 80 #[.bool an, va, .bool bn, vb] w fun e w' => ∃ v', e = .returned (.tuple #[.bool an, v']) ∧ RdP (fun g => w.heap.size ≤ g) w' v' (dg (a - b)) ∧ Below w.heap.size w w' := by
  have HA := Lib.hid ha
  have HB := Lib.hid hb
  have h0 := fun va vb w ha hb => rcmp_any va vb a b (by omega) (by omega) w ha hb
  have H1 := Lib.hid (fun va vb w ha hb => rless_any va vb a b hle (by omega) w ha hb)
  have hz : ¬ cmpv a b < 0 := by unfold cmpv; rw [if_neg (by omega)]; split <;> decide
  obtain ⟨z, hzz⟩ : ∃ z, z = cmpv a b := ⟨_, rfl⟩
  rw [← hzz] at hz h0
  have H0 := Lib.hid h0
  have hbe : (an == bn) = false := beq_eq_false_iff_ne.2 hs
  clear ha hb hla hlb h0 hzz hs
  go_enter Tryz.func80, Tryz.ntmps80
  go_wp2_with (first
    | (go_at_call 103; ((with_reducible refine (H0.out _ _ _ HA.out HB.out).mono ?_); rintro e w1 ⟨rfl, b1⟩))
    | (go_at_call 104; ((with_reducible refine (H1.out _ _ _ (HA.out.later b1) (HB.out.later b1)).mono ?_); rintro e w2 ⟨v2, rfl, r2, b2⟩)))
  go_returns
  exact ⟨_, rfl, r2.weak (fun g _ h => Nat.le_trans b1.size h), more b1 b2⟩
set_option maxRecDepth 100000 in
set_option maxHeartbeats 4000000 in
theorem rsum_less (an bn : Bool) (hs : ¬ an = bn) (va vb : Value) (a b : Nat) (hle : a < b) (hla : (dg a).length ≤ 100) (hlb : (dg b).length ≤ 100) (w : World) (ha : Rd w va (dg a)) (hb : Rd w vb (dg b)) :
    Calls Tryz.prog 80 #[.bool an, va, .bool bn, vb] w fun e w' => ∃ v', e = .returned (.tuple #[.bool bn, v']) ∧ RdP (fun g => w.heap.size ≤ g) w' v' (dg (b - a)) ∧ Below w.heap.size w w' := by
  have HA := Lib.hid ha
  have HB := Lib.hid hb
  have h0 := fun va vb w ha hb => rcmp_any va vb a b (by omega) (by omega) w ha hb
  rw [cmpv_lt hle] at h0
  have H1 := Lib.hid (fun va vb w ha hb => rless_any va vb b a (by omega) (by omega) w ha hb)
  have H0 := Lib.hid h0
  have hbe : (an == bn) = false := beq_eq_false_iff_ne.2 hs
  clear ha hb hla hlb h0 hs
  go_enter Tryz.func80, Tryz.ntmps80
  go_wp2_with (first
    | (go_at_call 103; ((with_reducible refine (H0.out _ _ _ HA.out HB.out).mono ?_); rintro e w1 ⟨rfl, b1⟩))
    | (go_at_call 104; ((with_reducible refine (H1.out _ _ _ (HB.out.later b1) (HA.out.later b1)).mono ?_); rintro e w2 ⟨v2, rfl, r2, b2⟩)))
  go_returns
  exact ⟨_, rfl, r2.weak (fun g _ h => Nat.le_trans b1.size h), more b1 b2⟩
theorem rsum_any (an bn : Bool) (va vb : Value) (a b : Nat) (hla : (dg a).length ≤ 100) (hlb : (dg b).length ≤ 100) (w : World) (ha : Rd w va (dg a)) (hb : Rd w vb (dg b)) :
    Calls Tryz.prog 80 #[.bool an, va, .bool bn, vb] w fun e w' => ∃ v', e = .returned (.tuple #[.bool (Fit.sumN an a bn b).1, v']) ∧ RdP (fun g => w.heap.size ≤ g) w' v' (dg (Fit.sumN an a bn b).2) ∧ Below w.heap.size w w' := by
  unfold Fit.sumN
  by_cases hs : an = bn
  · subst hs
    rw [if_pos rfl]
    exact rsum_same an va vb a b hla hlb w ha hb
  · rw [if_neg hs]
    by_cases hle : b ≤ a
    · rw [if_pos hle]; exact rsum_more an bn hs va vb a b hle hla hlb w ha hb
    · rw [if_neg hle]; exact rsum_less an bn hs va vb a b (by omega) hla hlb w ha hb
end Go.Proofs.YtfffjbnbhmohjaaGreatDoor
namespace Go.Proofs.YtfffjbnbhmohjaaGreatDoor
open Go.RowKit Num Word
attribute [local go_sem] setCell_drewN cell?_ext frozen?_ext shape?_ext setCell_ext lt_1' ne_1' en_1' le_1' lt_2' ne_2' en_2' le_2' lt_3' ne_3' en_3' le_3' lt_4' ne_4' en_4' le_4' lt_5' ne_5' en_5' le_5' lt_6' ne_6' en_6' le_6' lt_7' ne_7' en_7' le_7' lt_8' ne_8' en_8' le_8' lt_9' ne_9' en_9' le_9' lt_10' ne_10' en_10' le_10' lt_11' ne_11' en_11' le_11' lt_12' ne_12' en_12' le_12'

theorem rform_yes {neg : Bool} {c : Nat} {s : Int} (f : formB neg c s = true) (w : World) :
    Calls Tryz.prog 50 #[D neg c s] w fun e w' => e = .returned (.bool true) ∧ Below w.heap.size w w' := by
  have := rform_any neg c s (form_c f) w
  rwa [f] at this
theorem rform_no {neg : Bool} {c : Nat} {s : Int} (hc : c < top2) (f : formB neg c s = false) (w : World) :
    Calls Tryz.prog 50 #[D neg c s] w fun e w' => e = .returned (.bool false) ∧ Below w.heap.size w w' := by
  have := rform_any neg c s hc w
  rwa [f] at this
theorem p10_len18 : (dg (10 ^ 18)).length ≤ 19 := dg_len_le.2 (by decide)
theorem sum_lt {an bn : Bool} {a b : Nat} (ha : a < 10 ^ 52) (hb : b < 10 ^ 52) : (Fit.sumN an a bn b).2 < 10 ^ 60 := by
  have h : 10 ^ 52 + 10 ^ 52 < 10 ^ 60 := by decide
  unfold Fit.sumN
  split
  · show a + b < _; omega
  · split
    · show a - b < _; omega
    · show b - a < _; omega
end Go.Proofs.YtfffjbnbhmohjaaGreatDoor
namespace Go.Proofs.YtfffjbnbhmohjaaGreatDoor
open Go.RowKit Num Word
attribute [local go_sem] setCell_drewN cell?_ext frozen?_ext shape?_ext setCell_ext lt_1' ne_1' en_1' le_1' lt_2' ne_2' en_2' le_2' lt_3' ne_3' en_3' le_3' lt_4' ne_4' en_4' le_4' lt_5' ne_5' en_5' le_5' lt_6' ne_6' en_6' le_6' lt_7' ne_7' en_7' le_7' lt_8' ne_8' en_8' le_8' lt_9' ne_9' en_9' le_9' lt_10' ne_10' en_10' le_10' lt_11' ne_11' en_11' le_11' lt_12' ne_12' en_12' le_12'

/-- the document's order is the program's -/
theorem ord_same {na nb : Bool} {x y : Nat} (h : ¬ na = nb → 0 < x + y) :
    ordV na x nb y = if (Fit.sumN na x (!nb) y).2 = 0 then 0 else if (Fit.sumN na x (!nb) y).1 = true then -1 else 1 := by
  have key : ∀ (p : Bool × Nat) (r : Int), ordV na x nb y = r → Fit.sumN na x (!nb) y = p → r = (if p.2 = 0 then 0 else if p.1 = true then -1 else 1) → ordV na x nb y = if (Fit.sumN na x (!nb) y).2 = 0 then 0 else if (Fit.sumN na x (!nb) y).1 = true then -1 else 1 := by
    intro p r h1 h2 h3
    rw [h1, h2, h3]
  cases na <;> cases nb
  · rcases Nat.lt_trichotomy x y with hlt | rfl | hlt
    · exact key (true, y - x) (-1) (by unfold ordV cmpv; rw [if_pos rfl, if_neg (by decide), if_pos hlt]) (by unfold Fit.sumN; rw [if_neg (by decide), if_neg (by omega)]; rfl) (by rw [if_neg (by show ¬ y - x = 0; omega), if_pos rfl])
    · exact key (false, x - x) 0 (by unfold ordV cmpv; rw [if_pos rfl, if_neg (by decide), if_neg (by omega), if_neg (by omega)]) (by unfold Fit.sumN; rw [if_neg (by decide), if_pos (by omega)]) (by rw [if_pos (by show x - x = 0; omega)])
    · exact key (false, x - y) 1 (by unfold ordV cmpv; rw [if_pos rfl, if_neg (by decide), if_neg (by omega), if_pos hlt]) (by unfold Fit.sumN; rw [if_neg (by decide), if_pos (by omega)]) (by rw [if_neg (by show ¬ x - y = 0; omega), if_neg (fun h => nomatch h)])
  · have h0 := h (by decide)
    exact key (false, x + y) 1 (by unfold ordV; rw [if_neg (by decide), if_neg (by decide)]) (by unfold Fit.sumN; rw [if_pos (by decide)]) (by rw [if_neg (by show ¬ x + y = 0; omega), if_neg (fun h => nomatch h)])
  · have h0 := h (by decide)
    exact key (true, x + y) (-1) (by unfold ordV; rw [if_neg (by decide), if_pos rfl]) (by unfold Fit.sumN; rw [if_pos (by decide)]) (by rw [if_neg (by show ¬ x + y = 0; omega), if_pos rfl])
  · rcases Nat.lt_trichotomy x y with hlt | rfl | hlt
    · exact key (false, y - x) 1 (by unfold ordV cmpv; rw [if_pos rfl, if_pos rfl, if_pos hlt]; rfl) (by unfold Fit.sumN; rw [if_neg (by decide), if_neg (by omega)]; rfl) (by rw [if_neg (by show ¬ y - x = 0; omega), if_neg (fun h => nomatch h)])
    · exact key (true, x - x) 0 (by unfold ordV cmpv; rw [if_pos rfl, if_pos rfl, if_neg (by omega), if_neg (by omega)]; rfl) (by unfold Fit.sumN; rw [if_neg (by decide), if_pos (by omega)]) (by rw [if_pos (by show x - x = 0; omega)])
    · exact key (true, x - y) (-1) (by unfold ordV cmpv; rw [if_pos rfl, if_pos rfl, if_neg (by omega), if_pos hlt]) (by unfold Fit.sumN; rw [if_neg (by decide), if_pos (by omega)]) (by rw [if_neg (by show ¬ x - y = 0; omega), if_pos rfl])
set_option maxRecDepth 100000 in
set_option maxHeartbeats 8000000 in
theorem order_ok (na nb : Bool) (ca cb : Nat) (SA SB : Nat) (hA18 : SA ≤ 18) (hB18 : SB ≤ 18) (cA : ca < 10 ^ 34) (cB : cb < 10 ^ 34) (r : Int) (hn : ¬ na = nb → 0 < Fit.uni ca SA + Fit.uni cb SB) (hr : r = ordV na (Fit.uni ca SA) nb (Fit.uni cb SB)) (w : World) :
    Calls Tryz.prog 61 #[D na ca (SA : Int), D nb cb (SB : Int)] w fun e w' => e = .returned (.int .i64 r) ∧ Below w.heap.size w w' := by
  have h1 := fun w => units_any na ca SA (lt34_top2 cA) hA18 w
  have h2 := fun w => units_any nb cb SB (lt34_top2 cB) hB18 w
  have lx := uni_lt (S := SA) cA
  have ly := uni_lt (S := SB) cB
  obtain ⟨x, hx⟩ : ∃ x, x = Fit.uni ca SA := ⟨_, rfl⟩
  obtain ⟨y, hy⟩ : ∃ y, y = Fit.uni cb SB := ⟨_, rfl⟩
  rw [← hx] at h1 lx hr hn
  rw [← hy] at h2 ly hr hn
  rw [ord_same hn] at hr
  have t60 : 10 ^ 52 < 10 ^ 60 := by decide
  have h3 := fun va vb w ha hb => rsum_any na (!nb) va vb x y (by have := len_lt (Nat.lt_trans lx t60); omega) (by have := len_lt (Nat.lt_trans ly t60); omega) w ha hb
  obtain ⟨g, hg⟩ : ∃ g, g = (Fit.sumN na x (!nb) y).1 := ⟨_, rfl⟩
  obtain ⟨z, hz⟩ : ∃ z, z = (Fit.sumN na x (!nb) y).2 := ⟨_, rfl⟩
  rw [← hg, ← hz] at h3 hr
  have hlz := len_zero z
  have H1 := Lib.hid h1; have H2 := Lib.hid h2; have H3 := Lib.hid h3
  have hcase : (r = 0 ∧ (((dg z).length : Int) == 0) = true) ∨ ((((dg z).length : Int) == 0) = false ∧ g = true ∧ r = -1) ∨ ((((dg z).length : Int) == 0) = false ∧ g = false ∧ r = 1) := by
    by_cases h0 : z = 0
    · rw [if_pos h0] at hr
      exact .inl ⟨hr, by rw [hlz.2 h0]; rfl⟩
    · rw [if_neg h0] at hr
      have hb : (((dg z).length : Int) == 0) = false := beq_eq_false_iff_ne.2 (fun e => h0 (hlz.1 (by omega)))
      cases g
      · exact .inr (.inr ⟨hb, rfl, by simpa using hr⟩)
      · exact .inr (.inl ⟨hb, rfl, by simpa using hr⟩)
  clear h1 h2 h3 lx ly hx hy t60 hg hz hr hn hlz cA cB
  rcases hcase with ⟨rfl, hb⟩ | ⟨hb, rfl, rfl⟩ | ⟨hb, rfl, rfl⟩
  all_goals
    go_enter Tryz.func61, Tryz.ntmps61
    go_wp2_with (first
      | (go_at_call 79; ((with_reducible refine (H1.out _).mono ?_); rintro e w1 ⟨v1, rfl, r1, b1⟩; obtain ⟨os1, d1, rfl⟩ := ext_of_below b1; clear b1))
      | (go_at_call 79; ((with_reducible refine (H2.out _).mono ?_); rintro e w2 ⟨v2, rfl, r2, b2⟩; obtain ⟨os2, d2, rfl⟩ := ext_of_below b2; clear b2))
      | (go_at_call 80; ((with_reducible refine (H3.out _ _ _ (r1.rd.later (by (repeat' (first | (with_reducible exact Below.refl _ _) | (with_reducible assumption) | (with_reducible refine Below.alloc ?_ ?_ _) | (with_reducible refine below_drewN ?_ _) | (with_reducible refine below_drew ?_) | (with_reducible refine below_ext ?_ ?_ _ _) | (with_reducible refine Below.setCell ?_ ?_ _) | (simp; done) | (simp; omega) | omega)))) r2.rd).mono ?_); rintro e w3 ⟨v3, rfl, r3, b3⟩; obtain ⟨p3, c3, rfl, -⟩ := r3.form; obtain ⟨os3, d3, rfl⟩ := ext_of_below b3; clear b3)))
    go_ret
    exact ⟨rfl, by (repeat' (first | (with_reducible exact Below.refl _ _) | (with_reducible assumption) | (with_reducible refine Below.alloc ?_ ?_ _) | (with_reducible refine below_drewN ?_ _) | (with_reducible refine below_drew ?_) | (with_reducible refine below_ext ?_ ?_ _ _) | (with_reducible refine Below.setCell ?_ ?_ _) | (simp; done) | (simp; omega) | omega))⟩
end Go.Proofs.YtfffjbnbhmohjaaGreatDoor
