/-
  The document's decimals: Shift of any number, Form, make.
  The document's decimals: make, Fit.
  The document's decimals: units, sums of signed sizes, the order.
  The document's decimals: Neg, Abs, Add, Sub, Mul, Make, the order.
  The document's decimals: what is not in form; Neg, Abs, Sub, Cmp.
-/
import Derived.Test.YtdgdeognahmpmaaGreatDoorBd
import Derived.Test.YtdgdeognahmpmaaGreatDoorDecOne
import Derived.Test.YtdgdeognahmpmaaGreatDoorDecTwo
namespace Go.Proofs.YtdgdeognahmpmaaGreatDoor
open Go.RowKit Num Word
attribute [local go_sem] setCell_drewN cell?_ext frozen?_ext shape?_ext setCell_ext lt_1' ne_1' en_1' le_1' lt_2' ne_2' en_2' le_2' lt_3' ne_3' en_3' le_3' lt_4' ne_4' en_4' le_4' lt_5' ne_5' en_5' le_5' lt_6' ne_6' en_6' le_6' lt_7' ne_7' en_7' le_7' lt_8' ne_8' en_8' le_8' lt_9' ne_9' en_9' le_9' lt_10' ne_10' en_10' le_10' lt_11' ne_11' en_11' le_11' lt_12' ne_12' en_12' le_12'

theorem rshift_all (va : Value) (n k : Nat) (hk : k ≤ 1000) (hl : (dg n).length ≤ 100000) (w : World) (ha : Rd w va (dg n)) :
    Calls Tryz.prog 154 #[va, .int .i64 (k : Int)] w fun e w' => ∃ v', e = .returned v' ∧ RdP (fun g => w.heap.size ≤ g) w' v' (dg (n * 10 ^ k)) ∧ Below w.heap.size w w' := by
  rcases Nat.eq_zero_or_pos n with h | h
  · subst h
    rw [Nat.zero_mul, dg_zero]
    rw [dg_zero] at ha
    obtain ⟨p, cap, rfl, -⟩ := ha.form
    clear ha hl
    go_enter Tryz.func154, Tryz.ntmps154
    go_wp2
    go_ret
    exact ⟨_, rfl, RdP.nil _, by (repeat' (first | (with_reducible exact Below.refl _ _) | (with_reducible assumption) | (with_reducible refine Below.alloc ?_ ?_ _) | (with_reducible refine below_drewN ?_ _) | (with_reducible refine below_drew ?_) | (with_reducible refine below_ext ?_ ?_ _ _) | (with_reducible refine Below.setCell ?_ ?_ _) | (simp; done) | (simp; omega) | omega))⟩
  · exact rshift_any va n k h hk hl w ha
theorem len34 (c : Nat) : (dg c).length ≤ 34 ↔ c < 10 ^ 34 := dg_len_le
theorem len_zero (c : Nat) : (dg c).length = 0 ↔ c = 0 := by
  rcases Nat.eq_zero_or_pos c with h | h
  · subst h; rw [dg_zero]; simp
  · rw [dg_pos h]; simp; omega
set_option maxRecDepth 100000 in
set_option maxHeartbeats 4000000 in
theorem rform_any (neg : Bool) (c : Nat) (s : Int) (hc : c < top2) (w : World) :
    Calls Tryz.prog 112 #[D neg c s] w fun e w' => e = .returned (.bool (formB neg c s)) ∧ Below w.heap.size w w' := by
  have H1 := Lib.hid (fun w => of_any c hc w)
  have hlen := len34 c
  have hfirst : ∀ h : 0 < (dg c).length, (dg c)[0] = c % 10 := fun h => by rw [dg_get h, Nat.pow_zero, Nat.div_one]
  have hz := len_zero c
  obtain ⟨l, hl⟩ : ∃ l, l = dg c := ⟨_, rfl⟩
  rw [← hl] at hlen hz
  have hf2 : ∀ h : 0 < l.length, l[0] = c % 10 := by subst hl; exact hfirst
  have HL := Lib.hid hl
  clear hfirst hl hc
  by_cases h1 : c < 10 ^ 34
  · have hl34 := hlen.2 h1
    have hl34i : ¬ (34 : Int) < (l.length : Int) := by omega
    by_cases h2 : s < 0
    · rw [form_out (.inl h2)]
      clear hlen hz hf2 h1
      go_enter Tryz.func112, Tryz.ntmps112
      go_wp2_with (go_at_call 107; ((with_reducible refine (H1.out _).mono ?_); rintro e w1 ⟨v1, rfl, r1, b1⟩; rw [← HL.out] at r1; obtain ⟨p1, c1, rfl, -⟩ := r1.form; clear r1; obtain ⟨os1, d1, rfl⟩ := ext_of_below b1; clear b1))
      go_ret
      exact ⟨rfl, by (repeat' (first | (with_reducible exact Below.refl _ _) | (with_reducible assumption) | (with_reducible refine Below.alloc ?_ ?_ _) | (with_reducible refine below_drewN ?_ _) | (with_reducible refine below_drew ?_) | (with_reducible refine below_ext ?_ ?_ _ _) | (with_reducible refine Below.setCell ?_ ?_ _) | (simp; done) | (simp; omega) | omega))⟩
    by_cases h3 : 18 < s
    · rw [form_out (.inr (.inl h3))]
      clear hlen hz hf2 h1
      go_enter Tryz.func112, Tryz.ntmps112
      go_wp2_with (go_at_call 107; ((with_reducible refine (H1.out _).mono ?_); rintro e w1 ⟨v1, rfl, r1, b1⟩; rw [← HL.out] at r1; obtain ⟨p1, c1, rfl, -⟩ := r1.form; clear r1; obtain ⟨os1, d1, rfl⟩ := ext_of_below b1; clear b1))
      go_ret
      exact ⟨rfl, by (repeat' (first | (with_reducible exact Below.refl _ _) | (with_reducible assumption) | (with_reducible refine Below.alloc ?_ ?_ _) | (with_reducible refine below_drewN ?_ _) | (with_reducible refine below_drew ?_) | (with_reducible refine below_ext ?_ ?_ _ _) | (with_reducible refine Below.setCell ?_ ?_ _) | (simp; done) | (simp; omega) | omega))⟩
    by_cases h0 : c = 0
    · have hl0 := hz.2 h0
      have hl0i : (l.length : Int) = 0 := by omega
      by_cases h4 : s = 0
      · subst h4
        rw [form_none h1, decide_eq_true h0]
        clear hlen hz hf2 h1 h0
        cases neg
        all_goals
          go_enter Tryz.func112, Tryz.ntmps112
          go_wp2_with (go_at_call 107; ((with_reducible refine (H1.out _).mono ?_); rintro e w1 ⟨v1, rfl, r1, b1⟩; rw [← HL.out] at r1; obtain ⟨p1, c1, rfl, -⟩ := r1.form; clear r1; obtain ⟨os1, d1, rfl⟩ := ext_of_below b1; clear b1))
          go_ret
          exact ⟨rfl, by (repeat' (first | (with_reducible exact Below.refl _ _) | (with_reducible assumption) | (with_reducible refine Below.alloc ?_ ?_ _) | (with_reducible refine below_drewN ?_ _) | (with_reducible refine below_drew ?_) | (with_reducible refine below_ext ?_ ?_ _ _) | (with_reducible refine Below.setCell ?_ ?_ _) | (simp; done) | (simp; omega) | omega))⟩
      · rw [form_some h1 h2 h3 h4, decide_eq_true (by omega)]
        have hs0 : (s == 0) = false := beq_eq_false_iff_ne.2 h4
        clear hlen hz hf2 h1 h0
        cases neg
        all_goals
          go_enter Tryz.func112, Tryz.ntmps112
          go_wp2_with (go_at_call 107; ((with_reducible refine (H1.out _).mono ?_); rintro e w1 ⟨v1, rfl, r1, b1⟩; rw [← HL.out] at r1; obtain ⟨p1, c1, rfl, -⟩ := r1.form; clear r1; obtain ⟨os1, d1, rfl⟩ := ext_of_below b1; clear b1))
          go_ret
          exact ⟨rfl, by (repeat' (first | (with_reducible exact Below.refl _ _) | (with_reducible assumption) | (with_reducible refine Below.alloc ?_ ?_ _) | (with_reducible refine below_drewN ?_ _) | (with_reducible refine below_drew ?_) | (with_reducible refine below_ext ?_ ?_ _ _) | (with_reducible refine Below.setCell ?_ ?_ _) | (simp; done) | (simp; omega) | omega))⟩
    · have hl0 : ¬ l.length = 0 := fun h => h0 (hz.1 h)
      have hl0i : ¬ (l.length : Int) = 0 := by omega
      have hlp : 0 < l.length := by omega
      have hlpi : (0 : Int) < l.length := by omega
      have HG := Lib.hid (hf2 hlp)
      by_cases h4 : s = 0
      · subst h4
        rw [form_none h1, decide_eq_false h0, Bool.not_false, Bool.or_true]
        clear hlen hz hf2 h1 h0
        go_enter Tryz.func112, Tryz.ntmps112
        go_wp2_with (go_at_call 107; ((with_reducible refine (H1.out _).mono ?_); rintro e w1 ⟨v1, rfl, r1, b1⟩; rw [← HL.out] at r1; obtain ⟨p1, c1, rfl, -⟩ := r1.form; clear r1; obtain ⟨os1, d1, rfl⟩ := ext_of_below b1; clear b1))
        go_ret
        exact ⟨rfl, by (repeat' (first | (with_reducible exact Below.refl _ _) | (with_reducible assumption) | (with_reducible refine Below.alloc ?_ ?_ _) | (with_reducible refine below_drewN ?_ _) | (with_reducible refine below_drew ?_) | (with_reducible refine below_ext ?_ ?_ _ _) | (with_reducible refine Below.setCell ?_ ?_ _) | (simp; done) | (simp; omega) | omega))⟩
      · rw [form_some h1 h2 h3 h4]
        obtain ⟨r, hr⟩ : ∃ r, r = c % 10 := ⟨_, rfl⟩
        rw [← hr] at HG ⊢
        have er : (!decide (r = 0)) = !((r : Int) == 0) := by
          by_cases h : r = 0
          · subst h; rfl
          · rw [decide_eq_false h, beq_eq_false_iff_ne.2 (show (r : Int) ≠ 0 by omega)]
        rw [er]
        have hs0 : (s == 0) = false := beq_eq_false_iff_ne.2 h4
        clear hlen hz hf2 h1 h0 er hr
        go_enter Tryz.func112, Tryz.ntmps112
        go_wp2_with (go_at_call 107; ((with_reducible refine (H1.out _).mono ?_); rintro e w1 ⟨v1, rfl, r1, b1⟩; rw [← HL.out] at r1; obtain ⟨p1, c1, rfl, -⟩ := r1.form; obtain ⟨-, g, off, rfl, hg, hx⟩ := r1.cells hlp; have cq := hx 0 hlp; rw [HG.out, Nat.add_zero] at cq; clear hx r1; obtain ⟨os1, d1, rfl⟩ := ext_of_below b1; clear b1))
        go_ret
        exact ⟨rfl, by (repeat' (first | (with_reducible exact Below.refl _ _) | (with_reducible assumption) | (with_reducible refine Below.alloc ?_ ?_ _) | (with_reducible refine below_drewN ?_ _) | (with_reducible refine below_drew ?_) | (with_reducible refine below_ext ?_ ?_ _ _) | (with_reducible refine Below.setCell ?_ ?_ _) | (simp; done) | (simp; omega) | omega))⟩
  · have hl34i : (34 : Int) < (l.length : Int) := by
      have : ¬ l.length ≤ 34 := fun h => h1 (hlen.1 h)
      omega
    rw [form_out (.inr (.inr h1))]
    clear hlen hz hf2 h1
    go_enter Tryz.func112, Tryz.ntmps112
    go_wp2_with (go_at_call 107; ((with_reducible refine (H1.out _).mono ?_); rintro e w1 ⟨v1, rfl, r1, b1⟩; rw [← HL.out] at r1; obtain ⟨p1, c1, rfl, -⟩ := r1.form; clear r1; obtain ⟨os1, d1, rfl⟩ := ext_of_below b1; clear b1))
    go_ret
    exact ⟨rfl, by (repeat' (first | (with_reducible exact Below.refl _ _) | (with_reducible assumption) | (with_reducible refine Below.alloc ?_ ?_ _) | (with_reducible refine below_drewN ?_ _) | (with_reducible refine below_drew ?_) | (with_reducible refine below_ext ?_ ?_ _ _) | (with_reducible refine Below.setCell ?_ ?_ _) | (simp; done) | (simp; omega) | omega))⟩
set_option maxRecDepth 100000 in
set_option maxHeartbeats 4000000 in
theorem rmake_zero (neg : Bool) (v : Value) (s : Nat) (w : World) (ha : Rd w v (dg 0)) :
    Calls Tryz.prog 106 #[.bool neg, v, .int .i64 (s : Int)] w fun e w' => e = .returned (DS neg 0 s) ∧ Below w.heap.size w w' := by
  have HD : DS neg 0 s = .agg #[.bool false, .int .u64 0, .int .u64 0, .int .i64 0] := by unfold DS; rw [Fit.strip_zero]; cases neg <;> rfl
  rw [HD]
  rw [dg_zero] at ha
  obtain ⟨p, cap, rfl, -⟩ := ha.form
  clear ha HD
  go_enter Tryz.func106, Tryz.ntmps106
  go_wp2
  go_returns
  exact ⟨rfl, by (repeat' (first | (with_reducible exact Below.refl _ _) | (with_reducible assumption) | (with_reducible refine Below.alloc ?_ ?_ _) | (with_reducible refine below_drewN ?_ _) | (with_reducible refine below_drew ?_) | (with_reducible refine below_ext ?_ ?_ _ _) | (with_reducible refine Below.setCell ?_ ?_ _) | (simp; done) | (simp; omega) | omega))⟩
end Go.Proofs.YtdgdeognahmpmaaGreatDoor
namespace Go.Proofs.YtdgdeognahmpmaaGreatDoor
open Go.RowKit Num Word
attribute [local go_sem] setCell_drewN cell?_ext frozen?_ext shape?_ext setCell_ext lt_1' ne_1' en_1' le_1' lt_2' ne_2' en_2' le_2' lt_3' ne_3' en_3' le_3' lt_4' ne_4' en_4' le_4' lt_5' ne_5' en_5' le_5' lt_6' ne_6' en_6' le_6' lt_7' ne_7' en_7' le_7' lt_8' ne_8' en_8' le_8' lt_9' ne_9' en_9' le_9' lt_10' ne_10' en_10' le_10' lt_11' ne_11' en_11' le_11' lt_12' ne_12' en_12' le_12'

theorem dg_tail (n : Nat) : (dg n).drop 1 = dg (n / 10) := by
  have := dg_drop n 1
  rwa [Nat.pow_one] at this
theorem dg_len_pos {n : Nat} (h : 0 < n) : 0 < (dg n).length := by rw [dg_pos h]; simp
theorem dg_len_two {n : Nat} (h : 10 ≤ n) : 1 < (dg n).length := dg_len_lt.2 (by rwa [Nat.pow_one])
set_option maxRecDepth 100000 in
set_option maxHeartbeats 8000000 in
theorem rmake_pos (neg : Bool) (v : Value) (n s : Nat) (h0 : 0 < n) (hn : n < 10 ^ 34) (hs : s ≤ 1000) (w : World) (ha : Rd w v (dg n)) :
    Calls Tryz.prog 106 #[.bool neg, v, .int .i64 (s : Int)] w fun e w' => e = .returned (DS neg n s) ∧ Below w.heap.size w w' := by
  obtain ⟨p, cap, rfl, hcap⟩ := ha.form
  have HA := Lib.hid ha
  have hlp : 0 < (dg n).length := dg_len_pos h0
  have hlb : (((dg n).length : Int) == 0) = false := beq_eq_false_iff_ne.2 (by omega)
  obtain ⟨V, hV⟩ : ∃ V, V = DS neg n s := ⟨_, rfl⟩
  have HV := Lib.hid hV
  rw [← hV]
  clear ha hV
  go_enter Tryz.func106, Tryz.ntmps106
  go_wp2_with fail
  go_loopw [1, 2] (fun c z wr => ∃ (j m cap : Nat) (q : Option Addr), c = .slice q (dg m).length cap ∧ z = .int .i64 j ∧ 0 < m ∧ m ≤ n ∧ j ≤ s ∧ Hid (Fit.strip n s = Fit.strip m j) ∧ Hid (Rd w (.slice q (dg m).length cap) (dg m) ∧ (dg m).length ≤ cap) ∧ wr = (w.alloc (.cells #[.bool false, .int .u64 0, .int .u64 0, .int .i64 0] 32)))
    (fun _ z _ => (intOf z).toNat)
  case atStart => exact ⟨s, n, cap, p, rfl, rfl, h0, Nat.le_refl _, Nat.le_refl _, Lib.hid rfl, Lib.hid ⟨HA.out, hcap⟩, rfl⟩
  case round =>
    clear HA
    obtain ⟨j, m, cap, q, rfl, rfl, hm0, hmn, hjs, HS, HR, rfl⟩ := hrel
    have hmt : m < top2 := lt34_top2 (by omega)
    have h5 := fun v w ha => to_any v m (by have := len2 hmt; omega) w ha
    rw [Nat.mod_eq_of_lt hmt, decide_eq_true hmt] at h5
    have H5 := Lib.hid h5
    have hlm : 0 < (dg m).length := dg_len_pos hm0
    have hlmi : (0 : Int) < (dg m).length := by omega
    clear h5 hmt
    by_cases hj : j = 0
    · have EV := Lib.hid (show V = D neg m 0 by
        rw [HV.out]
        unfold DS
        rw [HS.out, hj, show Fit.strip m 0 = (m, 0) from rfl]
        show D (neg && decide (0 < m)) m 0 = _
        rw [decide_eq_true hm0, Bool.and_true])
      have hj2 : ¬ (0 : Int) < (j : Int) := by omega
      go_wp2_with (go_at_call 134; ((with_reducible refine (H5.out _ _ (HR.out.1.later (by (repeat' (first | (with_reducible exact Below.refl _ _) | (with_reducible assumption) | (with_reducible refine Below.alloc ?_ ?_ _) | (with_reducible refine below_drewN ?_ _) | (with_reducible refine below_drew ?_) | (with_reducible refine below_ext ?_ ?_ _ _) | (with_reducible refine Below.setCell ?_ ?_ _) | (simp; done) | (simp; omega) | omega))))).mono ?_); rintro e w5 ⟨rfl, b5⟩; obtain ⟨os5, d5, rfl⟩ := ext_of_below b5; clear b5))
      go_returns
      exact ⟨by rw [EV.out], by (repeat' (first | (with_reducible exact Below.refl _ _) | (with_reducible assumption) | (with_reducible refine Below.alloc ?_ ?_ _) | (with_reducible refine below_drewN ?_ _) | (with_reducible refine below_drew ?_) | (with_reducible refine below_ext ?_ ?_ _ _) | (with_reducible refine Below.setCell ?_ ?_ _) | (simp; done) | (simp; omega) | omega))⟩
    · have hj2 : (0 : Int) < (j : Int) := by omega
      obtain ⟨-, g, off, rfl, hg, hx⟩ := HR.out.1.cells hlm
      have cq := hx 0 hlm
      rw [Nat.add_zero, dg_get hlm, Nat.pow_zero, Nat.div_one] at cq
      by_cases hz : m % 10 = 0
      · have h10 : 10 ≤ m := by omega
        have ksl := slice_rest g off (dg m).length cap 1 (by omega) (by have := dg_len_two h10; have := HR.out.2; omega)
        have hdr := RdP.drop (P := fun _ => True) HR.out.2 hg trivial hx 1 (by omega)
        rw [dg_tail m] at hdr
        have el : (dg m).length - 1 = (dg (m / 10)).length := by rw [← dg_tail m, List.length_drop]
        rw [el] at ksl hdr
        rw [hz] at cq
        have HR2 := Lib.hid (show Rd w (.slice (some ⟨g, off + 1, none⟩) (dg (m / 10)).length (cap - 1)) (dg (m / 10)) ∧ (dg (m / 10)).length ≤ cap - 1 from ⟨hdr, by rw [← el]; have := HR.out.2; omega⟩)
        have HS2 := Lib.hid (show Fit.strip n s = Fit.strip (m / 10) (j - 1) by
          obtain ⟨i, rfl⟩ : ∃ i, j = i + 1 := ⟨j - 1, by omega⟩
          rw [HS.out, Fit.strip, if_pos hz, Nat.add_sub_cancel])
        have ksl' : ∀ w, (Instr.slice 41 (.slice (some ⟨g, off, none⟩) (dg m).length cap) (some (.int .i64 1)) none none).run Tryz.prog w = .ok (.slice (some ⟨g, off + 1, none⟩) (dg (m / 10)).length (cap - 1)) w := ksl
        clear hx HR HS hdr el ksl hz
        go_wp2_with fail
        go_roundw
        case rel => exact ⟨j - 1, m / 10, cap - 1, _, rfl, by go_num, by omega, by omega, by omega, HS2, HR2, trivial⟩
        case measure => simp [intOf]; omega
      · have EV := Lib.hid (show V = D neg m (j : Int) by
          rw [HV.out]
          unfold DS
          rw [HS.out, Fit.strip_stop hz]
          show D (neg && decide (0 < m)) m _ = _
          rw [decide_eq_true hm0, Bool.and_true])
        obtain ⟨r, hr⟩ : ∃ r, r = m % 10 := ⟨_, rfl⟩
        rw [← hr] at cq hz
        have hri : ((r : Int) == 0) = false := beq_eq_false_iff_ne.2 (by omega)
        clear hx hr hz
        go_wp2_with (go_at_call 134; ((with_reducible refine (H5.out _ _ (HR.out.1.later (by (repeat' (first | (with_reducible exact Below.refl _ _) | (with_reducible assumption) | (with_reducible refine Below.alloc ?_ ?_ _) | (with_reducible refine below_drewN ?_ _) | (with_reducible refine below_drew ?_) | (with_reducible refine below_ext ?_ ?_ _ _) | (with_reducible refine Below.setCell ?_ ?_ _) | (simp; done) | (simp; omega) | omega))))).mono ?_); rintro e w5 ⟨rfl, b5⟩; obtain ⟨os5, d5, rfl⟩ := ext_of_below b5; clear b5))
        go_returns
        exact ⟨by rw [EV.out], by (repeat' (first | (with_reducible exact Below.refl _ _) | (with_reducible assumption) | (with_reducible refine Below.alloc ?_ ?_ _) | (with_reducible refine below_drewN ?_ _) | (with_reducible refine below_drew ?_) | (with_reducible refine below_ext ?_ ?_ _ _) | (with_reducible refine Below.setCell ?_ ?_ _) | (simp; done) | (simp; omega) | omega))⟩
theorem rmake_any (neg : Bool) (v : Value) (n s : Nat) (hn : n < 10 ^ 34) (hs : s ≤ 1000) (w : World) (ha : Rd w v (dg n)) :
    Calls Tryz.prog 106 #[.bool neg, v, .int .i64 (s : Int)] w fun e w' => e = .returned (DS neg n s) ∧ Below w.heap.size w w' := by
  rcases Nat.eq_zero_or_pos n with h | h
  · subst h; exact rmake_zero neg v s w ha
  · exact rmake_pos neg v n s h hn hs w ha
theorem shift_len {n k m : Nat} (h : (dg n).length ≤ m) : (dg (n * 10 ^ k)).length ≤ m + k := dg_len_le.2 (by
  rw [Nat.pow_add]
  exact Nat.mul_lt_mul_of_pos_right (dg_len_le.1 h) (Nat.pow_pos (by decide)))
set_option maxRecDepth 100000 in
set_option maxHeartbeats 8000000 in
theorem rfit_any (neg : Bool) (va vb : Value) (n t : Nat) (F : Option (Nat × Nat)) (hF : F = Fit.fit n t 19) (ht0 : 0 < t) (hla : (dg n).length ≤ 500) (hlb : (dg t).length ≤ 500) (w : World) (ha : Rd w va (dg n)) (hb : Rd w vb (dg t)) :
    Calls Tryz.prog 139 #[.bool neg, va, vb] w fun e w' => e = .returned (.tuple #[FV neg F, .int .i64 (fitE F)]) ∧ Below w.heap.size w w' := by
  have HA := Lib.hid ha
  have HB := Lib.hid hb
  have HF := Lib.hid hF
  clear ha hb hF
  go_enter Tryz.func139, Tryz.ntmps139
  go_wp2_with fail
  go_loopw [8] (fun s wr => ∃ k : Int, -1 ≤ k ∧ k ≤ 18 ∧ s = .int .i64 k ∧ Hid (F = Fit.fit n t (k + 1).toNat) ∧ Below (w.alloc (.cells #[.bool false, .int .u64 0, .int .u64 0, .int .i64 0] 32)).heap.size (w.alloc (.cells #[.bool false, .int .u64 0, .int .u64 0, .int .i64 0] 32)) wr)
    (fun s _ => (intOf s + 1).toNat)
  case atStart => exact ⟨18, by omega, by omega, rfl, HF, Below.refl _ _⟩
  case round =>
    clear HF
    obtain ⟨k, hk1, hk2, rfl, HF, hbw⟩ := hrel
    obtain ⟨osX, dX, rfl⟩ := ext_of_below hbw
    clear hbw
    by_cases hk : k < 0
    · have hF := HF.out
      rw [show (k + 1).toNat = 0 by omega] at hF
      have hF2 : F = none := hF
      have EV := Lib.hid (show FV neg F = .agg #[.bool false, .int .u64 0, .int .u64 0, .int .i64 0] ∧ fitE F = 3 by rw [hF2]; exact ⟨FV_none neg, rfl⟩)
      clear hF hF2 HF
      go_wp2_with fail
      go_returns
      exact ⟨by rw [EV.out.1, EV.out.2], by (repeat' (first | (with_reducible exact Below.refl _ _) | (with_reducible assumption) | (with_reducible refine Below.alloc ?_ ?_ _) | (with_reducible refine below_drewN ?_ _) | (with_reducible refine below_drew ?_) | (with_reducible refine below_ext ?_ ?_ _ _) | (with_reducible refine Below.setCell ?_ ?_ _) | (simp; done) | (simp; omega) | omega))⟩
    · obtain ⟨K, rfl⟩ : ∃ K : Nat, k = (K : Int) := ⟨k.toNat, by omega⟩
      have hF := HF.out
      rw [show ((K : Int) + 1).toNat = K + 1 by omega, Fit.fit_succ] at hF
      obtain ⟨x, hx⟩ : ∃ x, x = n * 10 ^ K := ⟨_, rfl⟩
      have hxl : (dg x).length ≤ 1000 := by have := shift_len (k := K) hla; rw [← hx] at this; omega
      have h1 := fun w ha => rshift_all va n K (by omega) (by omega) w ha
      rw [← hx] at hF h1
      obtain ⟨mm, hmm⟩ : ∃ y, y = Fit.near x t := ⟨_, rfl⟩
      have hnear : NearIs x t mm := by rw [hmm]; exact near_isN x t
      rw [← hmm] at hF
      have hlen := len34 mm
      have h2 := fun va vb w ha hb => rnear_any va vb x t mm ht0 hnear hxl (by omega) w ha hb
      have H1 := Lib.hid h1; have H2 := Lib.hid h2
      have hK18 : K ≤ 18 := by omega
      clear hx hxl h1 hmm hnear h2 HF
      by_cases h34 : mm < 10 ^ 34
      · rw [if_pos h34] at hF
        have EV := Lib.hid (FV_some (neg := neg) hF)
        have H3 := Lib.hid (fun va w ha => rmake_any neg va mm K h34 (by omega) w ha)
        have hli : ((dg mm).length : Int) ≤ 34 := by have := hlen.2 h34; omega
        clear hF h34 hlen
        go_wp2_with (first
          | (go_at_call 154; ((with_reducible refine (H1.out _ (HA.out.later (by (repeat' (first | (with_reducible exact Below.refl _ _) | (with_reducible assumption) | (with_reducible refine Below.alloc ?_ ?_ _) | (with_reducible refine below_drewN ?_ _) | (with_reducible refine below_drew ?_) | (with_reducible refine below_ext ?_ ?_ _ _) | (with_reducible refine Below.setCell ?_ ?_ _) | (simp; done) | (simp; omega) | omega))))).mono ?_); rintro e w1 ⟨v1, rfl, r1, b1⟩; obtain ⟨os1, d1, rfl⟩ := ext_of_below b1; clear b1))
          | (go_at_call 158; ((with_reducible refine (H2.out _ _ _ r1.rd (HB.out.later (by (repeat' (first | (with_reducible exact Below.refl _ _) | (with_reducible assumption) | (with_reducible refine Below.alloc ?_ ?_ _) | (with_reducible refine below_drewN ?_ _) | (with_reducible refine below_drew ?_) | (with_reducible refine below_ext ?_ ?_ _ _) | (with_reducible refine Below.setCell ?_ ?_ _) | (simp; done) | (simp; omega) | omega))))).mono ?_); rintro e w2 ⟨v2, rfl, r2, b2⟩; obtain ⟨p2, c2, rfl, -⟩ := r2.form; obtain ⟨os2, d2, rfl⟩ := ext_of_below b2; clear b2))
          | (go_at_call 106; ((with_reducible refine (H3.out _ _ r2.rd).mono ?_); rintro e w3 ⟨rfl, b3⟩; obtain ⟨os3, d3, rfl⟩ := ext_of_below b3; clear b3)))
        go_returns
        exact ⟨by rw [EV.out.1, EV.out.2], by (repeat' (first | (with_reducible exact Below.refl _ _) | (with_reducible assumption) | (with_reducible refine Below.alloc ?_ ?_ _) | (with_reducible refine below_drewN ?_ _) | (with_reducible refine below_drew ?_) | (with_reducible refine below_ext ?_ ?_ _ _) | (with_reducible refine Below.setCell ?_ ?_ _) | (simp; done) | (simp; omega) | omega))⟩
      · rw [if_neg h34] at hF
        have HF := Lib.hid (show F = Fit.fit n t (((K : Int) - 1) + 1).toNat by rw [show ((K : Int) - 1 + 1).toNat = K by omega]; exact hF)
        have hli : ¬ ((dg mm).length : Int) ≤ 34 := fun h => h34 (hlen.1 (by omega))
        clear hF h34 hlen
        go_wp2_with (first
          | (go_at_call 154; ((with_reducible refine (H1.out _ (HA.out.later (by (repeat' (first | (with_reducible exact Below.refl _ _) | (with_reducible assumption) | (with_reducible refine Below.alloc ?_ ?_ _) | (with_reducible refine below_drewN ?_ _) | (with_reducible refine below_drew ?_) | (with_reducible refine below_ext ?_ ?_ _ _) | (with_reducible refine Below.setCell ?_ ?_ _) | (simp; done) | (simp; omega) | omega))))).mono ?_); rintro e w1 ⟨v1, rfl, r1, b1⟩; obtain ⟨os1, d1, rfl⟩ := ext_of_below b1; clear b1))
          | (go_at_call 158; ((with_reducible refine (H2.out _ _ _ r1.rd (HB.out.later (by (repeat' (first | (with_reducible exact Below.refl _ _) | (with_reducible assumption) | (with_reducible refine Below.alloc ?_ ?_ _) | (with_reducible refine below_drewN ?_ _) | (with_reducible refine below_drew ?_) | (with_reducible refine below_ext ?_ ?_ _ _) | (with_reducible refine Below.setCell ?_ ?_ _) | (simp; done) | (simp; omega) | omega))))).mono ?_); rintro e w2 ⟨v2, rfl, r2, b2⟩; obtain ⟨p2, c2, rfl, -⟩ := r2.form; obtain ⟨os2, d2, rfl⟩ := ext_of_below b2; clear b2)))
        go_roundw
        case rel => exact ⟨(K : Int) - 1, by omega, by omega, by go_num, HF, by (repeat' (first | (with_reducible exact Below.refl _ _) | (with_reducible assumption) | (with_reducible refine Below.alloc ?_ ?_ _) | (with_reducible refine below_drewN ?_ _) | (with_reducible refine below_drew ?_) | (with_reducible refine below_ext ?_ ?_ _ _) | (with_reducible refine Below.setCell ?_ ?_ _) | (simp; done) | (simp; omega) | omega))⟩
        case measure => simp [intOf] <;> omega
end Go.Proofs.YtdgdeognahmpmaaGreatDoor
namespace Go.Proofs.YtdgdeognahmpmaaGreatDoor
open Go.RowKit Num Word
attribute [local go_sem] setCell_drewN cell?_ext frozen?_ext shape?_ext setCell_ext lt_1' ne_1' en_1' le_1' lt_2' ne_2' en_2' le_2' lt_3' ne_3' en_3' le_3' lt_4' ne_4' en_4' le_4' lt_5' ne_5' en_5' le_5' lt_6' ne_6' en_6' le_6' lt_7' ne_7' en_7' le_7' lt_8' ne_8' en_8' le_8' lt_9' ne_9' en_9' le_9' lt_10' ne_10' en_10' le_10' lt_11' ne_11' en_11' le_11' lt_12' ne_12' en_12' le_12'

theorem uni_lt {c S : Nat} (hc : c < 10 ^ 34) : Fit.uni c S < 10 ^ 52 := by
  have h1 : 10 ^ (18 - S) ≤ 10 ^ 18 := Nat.pow_le_pow_right (by decide) (by omega)
  have h2 : c * 10 ^ (18 - S) ≤ c * 10 ^ 18 := Nat.mul_le_mul_left _ h1
  have h3 : c * 10 ^ 18 < 10 ^ 34 * 10 ^ 18 := Nat.mul_lt_mul_of_pos_right hc (Fit.pp _)
  have h4 : 10 ^ 34 * 10 ^ 18 = 10 ^ 52 := rfl
  unfold Fit.uni
  omega
theorem len_lt {x : Nat} (h : x < 10 ^ 60) : (dg x).length ≤ 60 := dg_len_le.2 h
theorem one_any (k : Nat) (hk : k ≤ 1000) (w : World) :
    Calls Tryz.prog 140 #[.int .i64 (k : Int)] w fun e w' => ∃ v', e = .returned v' ∧ RdP (fun g => w.heap.size ≤ g) w' v' (dg (10 ^ k)) ∧ Below w.heap.size w w' := by
  have h2 := fun va => rshift_any va 1 k (by decide) hk (by rw [dg_one]; decide)
  rw [Nat.one_mul] at h2
  have H2 := Lib.hid h2
  clear h2
  go_enter Tryz.func140, Tryz.ntmps140
  go_wp2_with (go_at_call 154; ((with_reducible refine (H2.out _ _ (lit_one w).rd).mono ?_); rintro e w2 ⟨v2, rfl, r2, b2⟩))
  go_ret
  have b5 : Below w.heap.size w (w.alloc (.cells #[.int .i64 1] 3)) := by (repeat' (first | (with_reducible exact Below.refl _ _) | (with_reducible assumption) | (with_reducible refine Below.alloc ?_ ?_ _) | (with_reducible refine below_drewN ?_ _) | (with_reducible refine below_drew ?_) | (with_reducible refine below_ext ?_ ?_ _ _) | (with_reducible refine Below.setCell ?_ ?_ _) | (simp; done) | (simp; omega) | omega))
  exact ⟨_, rfl, r2.weak (fun g _ h => Nat.le_trans b5.size h), more b5 b2⟩
set_option maxRecDepth 100000 in
set_option maxHeartbeats 4000000 in
theorem units_any (neg : Bool) (c S : Nat) (hc : c < top2) (hS : S ≤ 18) (w : World) :
    Calls Tryz.prog 136 #[D neg c (S : Int)] w fun e w' => ∃ v', e = .returned (.tuple #[.bool neg, v']) ∧ RdP (fun g => w.heap.size ≤ g) w' v' (dg (Fit.uni c S)) ∧ Below w.heap.size w w' := by
  have H1 := Lib.hid (fun w => of_any c hc w)
  have H2 := Lib.hid (fun va w ha => rshift_all va c (18 - S) (by omega) (by have := len2 hc; omega) w ha)
  have E1 : (18 : Int) - (S : Int) = ((18 - S : Nat) : Int) := by omega
  unfold Fit.uni
  obtain ⟨k, hk⟩ : ∃ k, k = 18 - S := ⟨_, rfl⟩
  rw [← hk] at H2 E1 ⊢
  have E2 : IntKind.i64.wrap (k : Int) = (k : Int) := IntWalk.i64_in _ (by omega)
  clear hc hk
  go_enter Tryz.func136, Tryz.ntmps136
  go_wp2_with fail
  go_region_held3 (fun w' => w'.cell? ⟨w.heap.size, 0, none⟩ = some (.bool neg) ∧ w'.cell? ⟨w.heap.size, 1, none⟩ = some (.int .u64 (hi c : Int)) ∧ w'.cell? ⟨w.heap.size, 2, none⟩ = some (.int .u64 (lo c : Int)) ∧ w'.cell? ⟨w.heap.size, 3, none⟩ = some (.int .i64 (S : Int))) (first | (simp [go_sem]; done) | go_keep) (first
    | (go_at_call 107; ((with_reducible refine (H1.out _).mono ?_); rintro e w1 ⟨v1, rfl, r1, b1⟩; obtain ⟨os1, d1, rfl⟩ := ext_of_below b1; clear b1))
    | (go_at_call 154; ((with_reducible refine (H2.out _ _ (r1.rd.later (by (repeat' (first | (with_reducible exact Below.refl _ _) | (with_reducible assumption) | (with_reducible refine Below.alloc ?_ ?_ _) | (with_reducible refine below_drewN ?_ _) | (with_reducible refine below_drew ?_) | (with_reducible refine below_ext ?_ ?_ _ _) | (with_reducible refine Below.setCell ?_ ?_ _) | (simp; done) | (simp; omega) | omega))))).mono ?_); rintro e w2 ⟨v2, rfl, r2, b2⟩; obtain ⟨os2, d2, rfl⟩ := ext_of_below b2; clear b2)))
  all_goals
    go_wp2
    go_returns
    exact ⟨_, rfl, r2.weak (fun g _ h => by simp at h; omega), by (repeat' (first | (with_reducible exact Below.refl _ _) | (with_reducible assumption) | (with_reducible refine Below.alloc ?_ ?_ _) | (with_reducible refine below_drewN ?_ _) | (with_reducible refine below_drew ?_) | (with_reducible refine below_ext ?_ ?_ _ _) | (with_reducible refine Below.setCell ?_ ?_ _) | (simp; done) | (simp; omega) | omega))⟩
set_option maxRecDepth 100000 in
set_option maxHeartbeats 4000000 in
theorem rsum_same (an : Bool) (va vb : Value) (a b : Nat) (hla : (dg a).length ≤ 100) (hlb : (dg b).length ≤ 100) (w : World) (ha : Rd w va (dg a)) (hb : Rd w vb (dg b)) :
    Calls Tryz.prog 137 #[.bool an, va, .bool an, vb] w fun e w' => ∃ v', e = .returned (.tuple #[.bool an, v']) ∧ RdP (fun g => w.heap.size ≤ g) w' v' (dg (a + b)) ∧ Below w.heap.size w w' := by
  have HA := Lib.hid ha
  have HB := Lib.hid hb
  have H1 := Lib.hid (fun va vb w ha hb => rplus_any va vb a b (by omega) (by omega) w ha hb)
  clear ha hb hla hlb
  go_enter Tryz.func137, Tryz.ntmps137
  go_wp2_with (first
    | (go_at_call 155; ((with_reducible refine (H1.out _ _ _ HA.out HB.out).mono ?_); rintro e w1 ⟨v1, rfl, r1, b1⟩)))
  go_returns
  exact ⟨_, rfl, r1, b1⟩
set_option maxRecDepth 100000 in
set_option maxHeartbeats 4000000 in
theorem rsum_more (an bn : Bool) (hs : ¬ an = bn) (va vb : Value) (a b : Nat) (hle : b ≤ a) (hla : (dg a).length ≤ 100) (hlb : (dg b).length ≤ 100) (w : World) (ha : Rd w va (dg a)) (hb : Rd w vb (dg b)) :
    Calls Tryz.prog 137 #[.bool an, va, .bool bn, vb] w fun e w' => ∃ v', e = .returned (.tuple #[.bool an, v']) ∧ RdP (fun g => w.heap.size ≤ g) w' v' (dg (a - b)) ∧ Below w.heap.size w w' := by
  have HA := Lib.hid ha
  have HB := Lib.hid hb
  have h0 := fun va vb w ha hb => rcmp_any va vb a b (by omega) (by omega) w ha hb
  have H1 := Lib.hid (fun va vb w ha hb => rless_any va vb a b hle (by omega) w ha hb)
  have hz : ¬ cmpv a b < 0 := by unfold cmpv; rw [if_neg (by omega)]; split <;> decide
  obtain ⟨z, hzz⟩ : ∃ z, z = cmpv a b := ⟨_, rfl⟩
  rw [← hzz] at hz h0
  have H0 := Lib.hid h0
  have hbe : (an == bn) = false := beq_eq_false_iff_ne.2 hs
  clear ha hb hla hlb h0 hzz hs
  go_enter Tryz.func137, Tryz.ntmps137
  go_wp2_with (first
    | (go_at_call 156; ((with_reducible refine (H0.out _ _ _ HA.out HB.out).mono ?_); rintro e w1 ⟨rfl, b1⟩))
    | (go_at_call 157; ((with_reducible refine (H1.out _ _ _ (HA.out.later b1) (HB.out.later b1)).mono ?_); rintro e w2 ⟨v2, rfl, r2, b2⟩)))
  go_returns
  exact ⟨_, rfl, r2.weak (fun g _ h => Nat.le_trans b1.size h), more b1 b2⟩
set_option maxRecDepth 100000 in
set_option maxHeartbeats 4000000 in
theorem rsum_less (an bn : Bool) (hs : ¬ an = bn) (va vb : Value) (a b : Nat) (hle : a < b) (hla : (dg a).length ≤ 100) (hlb : (dg b).length ≤ 100) (w : World) (ha : Rd w va (dg a)) (hb : Rd w vb (dg b)) :
    Calls Tryz.prog 137 #[.bool an, va, .bool bn, vb] w fun e w' => ∃ v', e = .returned (.tuple #[.bool bn, v']) ∧ RdP (fun g => w.heap.size ≤ g) w' v' (dg (b - a)) ∧ Below w.heap.size w w' := by
  have HA := Lib.hid ha
  have HB := Lib.hid hb
  have h0 := fun va vb w ha hb => rcmp_any va vb a b (by omega) (by omega) w ha hb
  rw [cmpv_lt hle] at h0
  have H1 := Lib.hid (fun va vb w ha hb => rless_any va vb b a (by omega) (by omega) w ha hb)
  have H0 := Lib.hid h0
  have hbe : (an == bn) = false := beq_eq_false_iff_ne.2 hs
  clear ha hb hla hlb h0 hs
  go_enter Tryz.func137, Tryz.ntmps137
  go_wp2_with (first
    | (go_at_call 156; ((with_reducible refine (H0.out _ _ _ HA.out HB.out).mono ?_); rintro e w1 ⟨rfl, b1⟩))
    | (go_at_call 157; ((with_reducible refine (H1.out _ _ _ (HB.out.later b1) (HA.out.later b1)).mono ?_); rintro e w2 ⟨v2, rfl, r2, b2⟩)))
  go_returns
  exact ⟨_, rfl, r2.weak (fun g _ h => Nat.le_trans b1.size h), more b1 b2⟩
theorem rsum_any (an bn : Bool) (va vb : Value) (a b : Nat) (hla : (dg a).length ≤ 100) (hlb : (dg b).length ≤ 100) (w : World) (ha : Rd w va (dg a)) (hb : Rd w vb (dg b)) :
    Calls Tryz.prog 137 #[.bool an, va, .bool bn, vb] w fun e w' => ∃ v', e = .returned (.tuple #[.bool (Fit.sumN an a bn b).1, v']) ∧ RdP (fun g => w.heap.size ≤ g) w' v' (dg (Fit.sumN an a bn b).2) ∧ Below w.heap.size w w' := by
  unfold Fit.sumN
  by_cases hs : an = bn
  · subst hs
    rw [if_pos rfl]
    exact rsum_same an va vb a b hla hlb w ha hb
  · rw [if_neg hs]
    by_cases hle : b ≤ a
    · rw [if_pos hle]; exact rsum_more an bn hs va vb a b hle hla hlb w ha hb
    · rw [if_neg hle]; exact rsum_less an bn hs va vb a b (by omega) hla hlb w ha hb
theorem rforms_any (na nb : Bool) (ca cb : Nat) (sa sb : Int) (ha : ca < top2) (hb : cb < top2) (w : World) :
    Calls Tryz.prog 138 #[D na ca sa, D nb cb sb] w fun e w' => e = .returned (.bool (formB na ca sa && formB nb cb sb)) ∧ Below w.heap.size w w' := by
  have h1 := fun w => rform_any na ca sa ha w
  have h2 := fun w => rform_any nb cb sb hb w
  obtain ⟨x, hx⟩ : ∃ x, x = formB na ca sa := ⟨_, rfl⟩
  obtain ⟨y, hy⟩ : ∃ y, y = formB nb cb sb := ⟨_, rfl⟩
  rw [← hx] at h1 ⊢
  rw [← hy] at h2 ⊢
  have H1 := Lib.hid h1; have H2 := Lib.hid h2
  clear h1 h2 hx hy ha hb
  cases x
  all_goals
    go_enter Tryz.func138, Tryz.ntmps138
    go_wp2_with (first
      | (go_at_call 112; ((with_reducible refine (H1.out _).mono ?_); rintro e w1 ⟨rfl, hb1⟩; obtain ⟨osA, dA, rfl⟩ := ext_of_below hb1; clear hb1))
      | (go_at_call 112; ((with_reducible refine (H2.out _).mono ?_); rintro e w1 ⟨rfl, hb1⟩; obtain ⟨osB, dB, rfl⟩ := ext_of_below hb1; clear hb1)))
    go_ret
    exact ⟨rfl, by (repeat' (first | (with_reducible exact Below.refl _ _) | (with_reducible assumption) | (with_reducible refine Below.alloc ?_ ?_ _) | (with_reducible refine below_drewN ?_ _) | (with_reducible refine below_drew ?_) | (with_reducible refine below_ext ?_ ?_ _ _) | (with_reducible refine Below.setCell ?_ ?_ _) | (simp; done) | (simp; omega) | omega))⟩
end Go.Proofs.YtdgdeognahmpmaaGreatDoor
namespace Go.Proofs.YtdgdeognahmpmaaGreatDoor
open Go.RowKit Num Word
attribute [local go_sem] setCell_drewN cell?_ext frozen?_ext shape?_ext setCell_ext lt_1' ne_1' en_1' le_1' lt_2' ne_2' en_2' le_2' lt_3' ne_3' en_3' le_3' lt_4' ne_4' en_4' le_4' lt_5' ne_5' en_5' le_5' lt_6' ne_6' en_6' le_6' lt_7' ne_7' en_7' le_7' lt_8' ne_8' en_8' le_8' lt_9' ne_9' en_9' le_9' lt_10' ne_10' en_10' le_10' lt_11' ne_11' en_11' le_11' lt_12' ne_12' en_12' le_12'

theorem one_18 (w : World) :
    Calls Tryz.prog 140 #[.int .i64 18] w fun e w' => ∃ v', e = .returned v' ∧ RdP (fun g => w.heap.size ≤ g) w' v' (dg (10 ^ 18)) ∧ Below w.heap.size w w' := one_any 18 (by omega) w
theorem rforms_yes {na nb : Bool} {ca cb : Nat} {sa sb : Int} (fa : formB na ca sa = true) (fb : formB nb cb sb = true) (w : World) :
    Calls Tryz.prog 138 #[D na ca sa, D nb cb sb] w fun e w' => e = .returned (.bool true) ∧ Below w.heap.size w w' := by
  have := rforms_any na nb ca cb sa sb (form_c fa) (form_c fb) w
  rw [fa, fb] at this
  exact this
theorem rforms_no {na nb : Bool} {ca cb : Nat} {sa sb : Int} (ha : ca < top2) (hb : cb < top2) (f : (formB na ca sa && formB nb cb sb) = false) (w : World) :
    Calls Tryz.prog 138 #[D na ca sa, D nb cb sb] w fun e w' => e = .returned (.bool false) ∧ Below w.heap.size w w' := by
  have := rforms_any na nb ca cb sa sb ha hb w
  rw [f] at this
  exact this
theorem rform_yes {neg : Bool} {c : Nat} {s : Int} (f : formB neg c s = true) (w : World) :
    Calls Tryz.prog 112 #[D neg c s] w fun e w' => e = .returned (.bool true) ∧ Below w.heap.size w w' := by
  have := rform_any neg c s (form_c f) w
  rwa [f] at this
theorem rform_no {neg : Bool} {c : Nat} {s : Int} (hc : c < top2) (f : formB neg c s = false) (w : World) :
    Calls Tryz.prog 112 #[D neg c s] w fun e w' => e = .returned (.bool false) ∧ Below w.heap.size w w' := by
  have := rform_any neg c s hc w
  rwa [f] at this
theorem p10_len18 : (dg (10 ^ 18)).length ≤ 19 := dg_len_le.2 (by decide)
theorem sum_lt {an bn : Bool} {a b : Nat} (ha : a < 10 ^ 52) (hb : b < 10 ^ 52) : (Fit.sumN an a bn b).2 < 10 ^ 60 := by
  have h : 10 ^ 52 + 10 ^ 52 < 10 ^ 60 := by decide
  unfold Fit.sumN
  split
  · show a + b < _; omega
  · split
    · show a - b < _; omega
    · show b - a < _; omega
set_option maxRecDepth 100000 in
set_option maxHeartbeats 8000000 in
theorem docAddD_ok (na nb : Bool) (ca cb : Nat) (sa sb : Int) (SA SB : Nat) (hA : sa = (SA : Int)) (hB : sb = (SB : Int)) (fa : formB na ca sa = true) (fb : formB nb cb sb = true) (g : Bool) (F : Option (Nat × Nat))
    (hg : g = (Fit.sumN na (Fit.uni ca SA) nb (Fit.uni cb SB)).1) (hF : F = Fit.fit (Fit.sumN na (Fit.uni ca SA) nb (Fit.uni cb SB)).2 (10 ^ 18) 19) (w : World) :
    Calls Tryz.prog 110 #[D na ca sa, D nb cb sb] w fun e w' => e = .returned (.tuple #[FV g F, .int .i64 (fitE F)]) ∧ Below w.heap.size w w' := by
  obtain ⟨SA', hA', hA18, cA, _, _⟩ := form_open fa
  obtain ⟨SB', hB', hB18, cB, _, _⟩ := form_open fb
  obtain rfl : SA = SA' := by omega
  obtain rfl : SB = SB' := by omega
  have h0 := fun w => rforms_yes fa fb w
  subst hA hB
  have h1 := fun w => units_any na ca SA (lt34_top2 cA) hA18 w
  have h2 := fun w => units_any nb cb SB (lt34_top2 cB) hB18 w
  have lx := uni_lt (S := SA) cA
  have ly := uni_lt (S := SB) cB
  obtain ⟨x, hx⟩ : ∃ x, x = Fit.uni ca SA := ⟨_, rfl⟩
  obtain ⟨y, hy⟩ : ∃ y, y = Fit.uni cb SB := ⟨_, rfl⟩
  rw [← hx] at h1 lx hg hF
  rw [← hy] at h2 ly hg hF
  have hs := sum_lt (an := na) (bn := nb) lx ly
  have t60 : 10 ^ 52 < 10 ^ 60 := by decide
  have h3 := fun va vb w ha hb => rsum_any na nb va vb x y (by have := len_lt (Nat.lt_trans lx t60); omega) (by have := len_lt (Nat.lt_trans ly t60); omega) w ha hb
  rw [← hg] at h3
  obtain ⟨z, hz⟩ : ∃ z, z = (Fit.sumN na x nb y).2 := ⟨_, rfl⟩
  rw [← hz] at h3 hF hs
  have h4 := fun va vb w ha hb => rfit_any g va vb z (10 ^ 18) F hF (Fit.pp _) (by have := len_lt hs; omega) (Nat.le_trans (p10_len18) (by omega)) w ha hb
  show Calls Tryz.prog 110 #[D na ca (SA : Int), D nb cb (SB : Int)] w fun e w' => e = .returned (.tuple #[D (g && decide (0 < fitC F)) (fitC F) (fitZ F), .int .i64 (fitE F)]) ∧ Below w.heap.size w w'
  unfold FV at h4
  obtain ⟨vg, hvg⟩ : ∃ x, x = (g && decide (0 < fitC F)) := ⟨_, rfl⟩
  obtain ⟨vc, hvc⟩ : ∃ x, x = fitC F := ⟨_, rfl⟩
  obtain ⟨vz, hvz⟩ : ∃ x, x = fitZ F := ⟨_, rfl⟩
  obtain ⟨ve, hve⟩ : ∃ x, x = fitE F := ⟨_, rfl⟩
  rw [← hvg, ← hvc, ← hvz, ← hve] at h4 ⊢
  obtain ⟨T, hT⟩ : ∃ T, T = 10 ^ 18 := ⟨_, rfl⟩
  have h5 := fun w => one_18 w
  rw [← hT] at h4 h5
  have H0 := Lib.hid h0; have H1 := Lib.hid h1; have H2 := Lib.hid h2; have H3 := Lib.hid h3; have H4 := Lib.hid h4; have H5 := Lib.hid h5
  clear h0 h1 h2 h3 h4 h5 fa fb hg hF lx ly hx hy hs t60 hz hvg hvc hvz hve hA' hB' cA cB hT
  go_enter Tryz.func110, Tryz.ntmps110
  go_wp2_with (first
    | (go_at_call 138; ((with_reducible refine (H0.out _).mono ?_); rintro e w1 ⟨rfl, hb1⟩; obtain ⟨osA, dA, rfl⟩ := ext_of_below hb1; clear hb1))
    | (go_at_call 136; ((with_reducible refine (H1.out _).mono ?_); rintro e w1 ⟨v1, rfl, r1, b1⟩; obtain ⟨os1, d1, rfl⟩ := ext_of_below b1; clear b1))
    | (go_at_call 136; ((with_reducible refine (H2.out _).mono ?_); rintro e w2 ⟨v2, rfl, r2, b2⟩; obtain ⟨os2, d2, rfl⟩ := ext_of_below b2; clear b2))
    | (go_at_call 137; ((with_reducible refine (H3.out _ _ _ (r1.rd.later (by (repeat' (first | (with_reducible exact Below.refl _ _) | (with_reducible assumption) | (with_reducible refine Below.alloc ?_ ?_ _) | (with_reducible refine below_drewN ?_ _) | (with_reducible refine below_drew ?_) | (with_reducible refine below_ext ?_ ?_ _ _) | (with_reducible refine Below.setCell ?_ ?_ _) | (simp; done) | (simp; omega) | omega)))) r2.rd).mono ?_); rintro e w3 ⟨v3, rfl, r3, b3⟩; obtain ⟨os3, d3, rfl⟩ := ext_of_below b3; clear b3))
    | (go_at_call 140; ((with_reducible refine (H5.out _).mono ?_); rintro e w4 ⟨v4, rfl, r4, b4⟩; obtain ⟨os4, d4, rfl⟩ := ext_of_below b4; clear b4))
    | (go_at_call 139; ((with_reducible refine (H4.out _ _ _ (r3.rd.later (by (repeat' (first | (with_reducible exact Below.refl _ _) | (with_reducible assumption) | (with_reducible refine Below.alloc ?_ ?_ _) | (with_reducible refine below_drewN ?_ _) | (with_reducible refine below_drew ?_) | (with_reducible refine below_ext ?_ ?_ _ _) | (with_reducible refine Below.setCell ?_ ?_ _) | (simp; done) | (simp; omega) | omega)))) r4.rd).mono ?_); rintro e w5 ⟨rfl, b5⟩; obtain ⟨os5, d5, rfl⟩ := ext_of_below b5; clear b5)))
  go_returns
  exact ⟨rfl, by (repeat' (first | (with_reducible exact Below.refl _ _) | (with_reducible assumption) | (with_reducible refine Below.alloc ?_ ?_ _) | (with_reducible refine below_drewN ?_ _) | (with_reducible refine below_drew ?_) | (with_reducible refine below_ext ?_ ?_ _ _) | (with_reducible refine Below.setCell ?_ ?_ _) | (simp; done) | (simp; omega) | omega))⟩
end Go.Proofs.YtdgdeognahmpmaaGreatDoor
namespace Go.Proofs.YtdgdeognahmpmaaGreatDoor
open Go.RowKit Num Word
attribute [local go_sem] setCell_drewN cell?_ext frozen?_ext shape?_ext setCell_ext lt_1' ne_1' en_1' le_1' lt_2' ne_2' en_2' le_2' lt_3' ne_3' en_3' le_3' lt_4' ne_4' en_4' le_4' lt_5' ne_5' en_5' le_5' lt_6' ne_6' en_6' le_6' lt_7' ne_7' en_7' le_7' lt_8' ne_8' en_8' le_8' lt_9' ne_9' en_9' le_9' lt_10' ne_10' en_10' le_10' lt_11' ne_11' en_11' le_11' lt_12' ne_12' en_12' le_12'

theorem DocAddD_bad (na nb : Bool) (ca cb : Nat) (sa sb : Int) (ha : ca < top2) (hb : cb < top2) (f : (formB na ca sa && formB nb cb sb) = false) (w : World) :
    Calls Tryz.prog 110 #[D na ca sa, D nb cb sb] w fun e w' => e = .returned (.tuple #[D false 0 0, .int .i64 2]) ∧ Below w.heap.size w w' := by
  have H0 := Lib.hid (fun w => rforms_no ha hb f w)
  rw [← dbad_D]
  clear ha hb f
  go_enter Tryz.func110, Tryz.ntmps110
  go_wp2_with (first
    | (go_at_call 138; ((with_reducible refine (H0.out _).mono ?_); rintro e w1 ⟨rfl, hb1⟩; obtain ⟨osA, dA, rfl⟩ := ext_of_below hb1; clear hb1)))
  go_returns
  exact ⟨rfl, by (repeat' (first | (with_reducible exact Below.refl _ _) | (with_reducible assumption) | (with_reducible refine Below.alloc ?_ ?_ _) | (with_reducible refine below_drewN ?_ _) | (with_reducible refine below_drew ?_) | (with_reducible refine below_ext ?_ ?_ _ _) | (with_reducible refine Below.setCell ?_ ?_ _) | (simp; done) | (simp; omega) | omega))⟩
/-- the document's order is the program's -/
theorem ord_same {na nb : Bool} {x y : Nat} (h : ¬ na = nb → 0 < x + y) :
    ordV na x nb y = if (Fit.sumN na x (!nb) y).2 = 0 then 0 else if (Fit.sumN na x (!nb) y).1 = true then -1 else 1 := by
  have key : ∀ (p : Bool × Nat) (r : Int), ordV na x nb y = r → Fit.sumN na x (!nb) y = p → r = (if p.2 = 0 then 0 else if p.1 = true then -1 else 1) → ordV na x nb y = if (Fit.sumN na x (!nb) y).2 = 0 then 0 else if (Fit.sumN na x (!nb) y).1 = true then -1 else 1 := by
    intro p r h1 h2 h3
    rw [h1, h2, h3]
  cases na <;> cases nb
  · rcases Nat.lt_trichotomy x y with hlt | rfl | hlt
    · exact key (true, y - x) (-1) (by unfold ordV cmpv; rw [if_pos rfl, if_neg (by decide), if_pos hlt]) (by unfold Fit.sumN; rw [if_neg (by decide), if_neg (by omega)]; rfl) (by rw [if_neg (by show ¬ y - x = 0; omega), if_pos rfl])
    · exact key (false, x - x) 0 (by unfold ordV cmpv; rw [if_pos rfl, if_neg (by decide), if_neg (by omega), if_neg (by omega)]) (by unfold Fit.sumN; rw [if_neg (by decide), if_pos (by omega)]) (by rw [if_pos (by show x - x = 0; omega)])
    · exact key (false, x - y) 1 (by unfold ordV cmpv; rw [if_pos rfl, if_neg (by decide), if_neg (by omega), if_pos hlt]) (by unfold Fit.sumN; rw [if_neg (by decide), if_pos (by omega)]) (by rw [if_neg (by show ¬ x - y = 0; omega), if_neg (fun h => nomatch h)])
  · have h0 := h (by decide)
    exact key (false, x + y) 1 (by unfold ordV; rw [if_neg (by decide), if_neg (by decide)]) (by unfold Fit.sumN; rw [if_pos (by decide)]) (by rw [if_neg (by show ¬ x + y = 0; omega), if_neg (fun h => nomatch h)])
  · have h0 := h (by decide)
    exact key (true, x + y) (-1) (by unfold ordV; rw [if_neg (by decide), if_pos rfl]) (by unfold Fit.sumN; rw [if_pos (by decide)]) (by rw [if_neg (by show ¬ x + y = 0; omega), if_pos rfl])
  · rcases Nat.lt_trichotomy x y with hlt | rfl | hlt
    · exact key (false, y - x) 1 (by unfold ordV cmpv; rw [if_pos rfl, if_pos rfl, if_pos hlt]; rfl) (by unfold Fit.sumN; rw [if_neg (by decide), if_neg (by omega)]; rfl) (by rw [if_neg (by show ¬ y - x = 0; omega), if_neg (fun h => nomatch h)])
    · exact key (true, x - x) 0 (by unfold ordV cmpv; rw [if_pos rfl, if_pos rfl, if_neg (by omega), if_neg (by omega)]; rfl) (by unfold Fit.sumN; rw [if_neg (by decide), if_pos (by omega)]) (by rw [if_pos (by show x - x = 0; omega)])
    · exact key (true, x - y) (-1) (by unfold ordV cmpv; rw [if_pos rfl, if_pos rfl, if_neg (by omega), if_pos hlt]) (by unfold Fit.sumN; rw [if_neg (by decide), if_pos (by omega)]) (by rw [if_neg (by show ¬ x - y = 0; omega), if_pos rfl])
set_option maxRecDepth 100000 in
set_option maxHeartbeats 8000000 in
theorem order_ok (na nb : Bool) (ca cb : Nat) (SA SB : Nat) (hA18 : SA ≤ 18) (hB18 : SB ≤ 18) (cA : ca < 10 ^ 34) (cB : cb < 10 ^ 34) (r : Int) (hn : ¬ na = nb → 0 < Fit.uni ca SA + Fit.uni cb SB) (hr : r = ordV na (Fit.uni ca SA) nb (Fit.uni cb SB)) (w : World) :
    Calls Tryz.prog 109 #[D na ca (SA : Int), D nb cb (SB : Int)] w fun e w' => e = .returned (.int .i64 r) ∧ Below w.heap.size w w' := by
  have h1 := fun w => units_any na ca SA (lt34_top2 cA) hA18 w
  have h2 := fun w => units_any nb cb SB (lt34_top2 cB) hB18 w
  have lx := uni_lt (S := SA) cA
  have ly := uni_lt (S := SB) cB
  obtain ⟨x, hx⟩ : ∃ x, x = Fit.uni ca SA := ⟨_, rfl⟩
  obtain ⟨y, hy⟩ : ∃ y, y = Fit.uni cb SB := ⟨_, rfl⟩
  rw [← hx] at h1 lx hr hn
  rw [← hy] at h2 ly hr hn
  rw [ord_same hn] at hr
  have t60 : 10 ^ 52 < 10 ^ 60 := by decide
  have h3 := fun va vb w ha hb => rsum_any na (!nb) va vb x y (by have := len_lt (Nat.lt_trans lx t60); omega) (by have := len_lt (Nat.lt_trans ly t60); omega) w ha hb
  obtain ⟨g, hg⟩ : ∃ g, g = (Fit.sumN na x (!nb) y).1 := ⟨_, rfl⟩
  obtain ⟨z, hz⟩ : ∃ z, z = (Fit.sumN na x (!nb) y).2 := ⟨_, rfl⟩
  rw [← hg, ← hz] at h3 hr
  have hlz := len_zero z
  have H1 := Lib.hid h1; have H2 := Lib.hid h2; have H3 := Lib.hid h3
  have hcase : (r = 0 ∧ (((dg z).length : Int) == 0) = true) ∨ ((((dg z).length : Int) == 0) = false ∧ g = true ∧ r = -1) ∨ ((((dg z).length : Int) == 0) = false ∧ g = false ∧ r = 1) := by
    by_cases h0 : z = 0
    · rw [if_pos h0] at hr
      exact .inl ⟨hr, by rw [hlz.2 h0]; rfl⟩
    · rw [if_neg h0] at hr
      have hb : (((dg z).length : Int) == 0) = false := beq_eq_false_iff_ne.2 (fun e => h0 (hlz.1 (by omega)))
      cases g
      · exact .inr (.inr ⟨hb, rfl, by simpa using hr⟩)
      · exact .inr (.inl ⟨hb, rfl, by simpa using hr⟩)
  clear h1 h2 h3 lx ly hx hy t60 hg hz hr hn hlz cA cB
  rcases hcase with ⟨rfl, hb⟩ | ⟨hb, rfl, rfl⟩ | ⟨hb, rfl, rfl⟩
  all_goals
    go_enter Tryz.func109, Tryz.ntmps109
    go_wp2_with (first
      | (go_at_call 136; ((with_reducible refine (H1.out _).mono ?_); rintro e w1 ⟨v1, rfl, r1, b1⟩; obtain ⟨os1, d1, rfl⟩ := ext_of_below b1; clear b1))
      | (go_at_call 136; ((with_reducible refine (H2.out _).mono ?_); rintro e w2 ⟨v2, rfl, r2, b2⟩; obtain ⟨os2, d2, rfl⟩ := ext_of_below b2; clear b2))
      | (go_at_call 137; ((with_reducible refine (H3.out _ _ _ (r1.rd.later (by (repeat' (first | (with_reducible exact Below.refl _ _) | (with_reducible assumption) | (with_reducible refine Below.alloc ?_ ?_ _) | (with_reducible refine below_drewN ?_ _) | (with_reducible refine below_drew ?_) | (with_reducible refine below_ext ?_ ?_ _ _) | (with_reducible refine Below.setCell ?_ ?_ _) | (simp; done) | (simp; omega) | omega)))) r2.rd).mono ?_); rintro e w3 ⟨v3, rfl, r3, b3⟩; obtain ⟨p3, c3, rfl, -⟩ := r3.form; obtain ⟨os3, d3, rfl⟩ := ext_of_below b3; clear b3)))
    go_ret
    exact ⟨rfl, by (repeat' (first | (with_reducible exact Below.refl _ _) | (with_reducible assumption) | (with_reducible refine Below.alloc ?_ ?_ _) | (with_reducible refine below_drewN ?_ _) | (with_reducible refine below_drew ?_) | (with_reducible refine below_ext ?_ ?_ _ _) | (with_reducible refine Below.setCell ?_ ?_ _) | (simp; done) | (simp; omega) | omega))⟩
end Go.Proofs.YtdgdeognahmpmaaGreatDoor
