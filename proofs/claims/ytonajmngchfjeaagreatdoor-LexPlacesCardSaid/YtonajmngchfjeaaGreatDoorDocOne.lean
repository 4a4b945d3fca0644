/-
  The document's decimals: Shift of any number, Form, make.
  The document's decimals: make, Fit.
  The document's decimals: units, sums of signed sizes, the order.
  The document's decimals: Neg, Abs, Add, Sub, Mul, Make, the order.
  The document's decimals: what is not in form; Neg, Abs, Sub, Cmp.
-/
import Derived.Test.YtonajmngchfjeaaGreatDoorBd
import Derived.Test.YtonajmngchfjeaaGreatDoorDecOne
import Derived.Test.YtonajmngchfjeaaGreatDoorDecTwo
namespace Go.Proofs.YtonajmngchfjeaaGreatDoor
open Go.RowKit Num Word
attribute [local go_sem] setCell_drewN cell?_ext frozen?_ext shape?_ext setCell_ext lt_1' ne_1' en_1' le_1' lt_2' ne_2' en_2' le_2' lt_3' ne_3' en_3' le_3' lt_4' ne_4' en_4' le_4' lt_5' ne_5' en_5' le_5' lt_6' ne_6' en_6' le_6' lt_7' ne_7' en_7' le_7' lt_8' ne_8' en_8' le_8' lt_9' ne_9' en_9' le_9' lt_10' ne_10' en_10' le_10' lt_11' ne_11' en_11' le_11' lt_12' ne_12' en_12' le_12'

theorem len34 (c : Nat) : (dg c).length ≤ 34 ↔ c < 10 ^ 34 := dg_len_le
theorem len_zero (c : Nat) : (dg c).length = 0 ↔ c = 0 := by
  rcases Nat.eq_zero_or_pos c with h | h
  · subst h; rw [dg_zero]; simp
  · rw [dg_pos h]; simp; omega
set_option maxRecDepth 100000 in
set_option maxHeartbeats 4000000 in
theorem rmake_zero (neg : Bool) (v : Value) (s : Nat) (w : World) (ha : Rd w v (dg 0)) :
    Calls Tryz.prog 39 #[.bool neg, v, .int .i64 (s : Int)] w fun e w' => e = .returned (DS neg 0 s) ∧ Below w.heap.size w w' := by
  have HD : DS neg 0 s = .agg #[.bool false, .int .u64 0, .int .u64 0, .int .i64 0] := by unfold DS; rw [Fit.strip_zero]; cases neg <;> rfl
  rw [HD]
  rw [dg_zero] at ha
  obtain ⟨p, cap, rfl, -⟩ := ha.form
  clear ha HD
  go_enter Tryz.func39, Tryz.ntmps39
  go_wp2
  go_returns
  exact ⟨rfl, by (repeat' (first | (with_reducible exact Below.refl _ _) | (with_reducible assumption) | (with_reducible refine Below.alloc ?_ ?_ _) | (with_reducible refine below_drewN ?_ _) | (with_reducible refine below_drew ?_) | (with_reducible refine below_ext ?_ ?_ _ _) | (with_reducible refine Below.setCell ?_ ?_ _) | (simp; done) | (simp; omega) | omega))⟩
end Go.Proofs.YtonajmngchfjeaaGreatDoor
namespace Go.Proofs.YtonajmngchfjeaaGreatDoor
open Go.RowKit Num Word
attribute [local go_sem] setCell_drewN cell?_ext frozen?_ext shape?_ext setCell_ext lt_1' ne_1' en_1' le_1' lt_2' ne_2' en_2' le_2' lt_3' ne_3' en_3' le_3' lt_4' ne_4' en_4' le_4' lt_5' ne_5' en_5' le_5' lt_6' ne_6' en_6' le_6' lt_7' ne_7' en_7' le_7' lt_8' ne_8' en_8' le_8' lt_9' ne_9' en_9' le_9' lt_10' ne_10' en_10' le_10' lt_11' ne_11' en_11' le_11' lt_12' ne_12' en_12' le_12'

theorem dg_tail (n : Nat) : (dg n).drop 1 = dg (n / 10) := by
  have := dg_drop n 1
  rwa [Nat.pow_one] at this
theorem dg_len_pos {n : Nat} (h : 0 < n) : 0 < (dg n).length := by rw [dg_pos h]; simp
theorem dg_len_two {n : Nat} (h : 10 ≤ n) : 1 < (dg n).length := dg_len_lt.2 (by rwa [Nat.pow_one])
set_option maxRecDepth 100000 in
set_option maxHeartbeats 8000000 in
theorem rmake_pos (neg : Bool) (v : Value) (n s : Nat) (h0 : 0 < n) (hn : n < 10 ^ 34) (hs : s ≤ 1000) (w : World) (ha : Rd w v (dg n)) :
    Calls Tryz.prog 39 #[.bool neg, v, .int .i64 (s : Int)] w fun e w' => e = .returned (DS neg n s) ∧ Below w.heap.size w w' := by
  obtain ⟨p, cap, rfl, hcap⟩ := ha.form
  have HA := Lib.hid ha
  have hlp : 0 < (dg n).length := dg_len_pos h0
  have hlb : (((dg n).length : Int) == 0) = false := beq_eq_false_iff_ne.2 (by omega)
  obtain ⟨V, hV⟩ : ∃ V, V = DS neg n s := ⟨_, rfl⟩
  have HV := Lib.hid hV
  rw [← hV]
  clear ha hV
  go_enter Tryz.func39, Tryz.ntmps39
  go_wp2_with fail
  go_loopw [1, 2] (fun c z wr => ∃ (j m cap : Nat) (q : Option Addr), c = .slice q (dg m).length cap ∧ z = .int .i64 j ∧ 0 < m ∧ m ≤ n ∧ j ≤ s ∧ Hid (Fit.strip n s = Fit.strip m j) ∧ Hid (Rd w (.slice q (dg m).length cap) (dg m) ∧ (dg m).length ≤ cap) ∧ wr = (w.alloc (.cells #[.bool false, .int .u64 0, .int .u64 0, .int .i64 0] 33)))
    (fun _ z _ => (intOf z).toNat)
  case atStart => exact ⟨s, n, cap, p, rfl, rfl, h0, Nat.le_refl _, Nat.le_refl _, Lib.hid rfl, Lib.hid ⟨HA.out, hcap⟩, rfl⟩
  case round =>
    clear HA
    obtain ⟨j, m, cap, q, rfl, rfl, hm0, hmn, hjs, HS, HR, rfl⟩ := hrel
    have hmt : m < top2 := lt34_top2 (by omega)
    have h5 := fun v w ha => to_any v m (by have := len2 hmt; omega) w ha
    rw [Nat.mod_eq_of_lt hmt, decide_eq_true hmt] at h5
    have H5 := Lib.hid h5
    have hlm : 0 < (dg m).length := dg_len_pos hm0
    have hlmi : (0 : Int) < (dg m).length := by omega
    clear h5 hmt
    by_cases hj : j = 0
    · have EV := Lib.hid (show V = D neg m 0 by
        rw [HV.out]
        unfold DS
        rw [HS.out, hj, show Fit.strip m 0 = (m, 0) from rfl]
        show D (neg && decide (0 < m)) m 0 = _
        rw [decide_eq_true hm0, Bool.and_true])
      have hj2 : ¬ (0 : Int) < (j : Int) := by omega
      go_wp2_with (go_at_call 54; ((with_reducible refine (H5.out _ _ (HR.out.1.later (by (repeat' (first | (with_reducible exact Below.refl _ _) | (with_reducible assumption) | (with_reducible refine Below.alloc ?_ ?_ _) | (with_reducible refine below_drewN ?_ _) | (with_reducible refine below_drew ?_) | (with_reducible refine below_ext ?_ ?_ _ _) | (with_reducible refine Below.setCell ?_ ?_ _) | (simp; done) | (simp; omega) | omega))))).mono ?_); rintro e w5 ⟨rfl, b5⟩; obtain ⟨os5, d5, rfl⟩ := ext_of_below b5; clear b5))
      go_returns
      exact ⟨by rw [EV.out], by (repeat' (first | (with_reducible exact Below.refl _ _) | (with_reducible assumption) | (with_reducible refine Below.alloc ?_ ?_ _) | (with_reducible refine below_drewN ?_ _) | (with_reducible refine below_drew ?_) | (with_reducible refine below_ext ?_ ?_ _ _) | (with_reducible refine Below.setCell ?_ ?_ _) | (simp; done) | (simp; omega) | omega))⟩
    · have hj2 : (0 : Int) < (j : Int) := by omega
      obtain ⟨-, g, off, rfl, hg, hx⟩ := HR.out.1.cells hlm
      have cq := hx 0 hlm
      rw [Nat.add_zero, dg_get hlm, Nat.pow_zero, Nat.div_one] at cq
      by_cases hz : m % 10 = 0
      · have h10 : 10 ≤ m := by omega
        have ksl := slice_rest g off (dg m).length cap 1 (by omega) (by have := dg_len_two h10; have := HR.out.2; omega)
        have hdr := RdP.drop (P := fun _ => True) HR.out.2 hg trivial hx 1 (by omega)
        rw [dg_tail m] at hdr
        have el : (dg m).length - 1 = (dg (m / 10)).length := by rw [← dg_tail m, List.length_drop]
        rw [el] at ksl hdr
        rw [hz] at cq
        have HR2 := Lib.hid (show Rd w (.slice (some ⟨g, off + 1, none⟩) (dg (m / 10)).length (cap - 1)) (dg (m / 10)) ∧ (dg (m / 10)).length ≤ cap - 1 from ⟨hdr, by rw [← el]; have := HR.out.2; omega⟩)
        have HS2 := Lib.hid (show Fit.strip n s = Fit.strip (m / 10) (j - 1) by
          obtain ⟨i, rfl⟩ : ∃ i, j = i + 1 := ⟨j - 1, by omega⟩
          rw [HS.out, Fit.strip, if_pos hz, Nat.add_sub_cancel])
        have ksl' : ∀ w, (Instr.slice 41 (.slice (some ⟨g, off, none⟩) (dg m).length cap) (some (.int .i64 1)) none none).run Tryz.prog w = .ok (.slice (some ⟨g, off + 1, none⟩) (dg (m / 10)).length (cap - 1)) w := ksl
        clear hx HR HS hdr el ksl hz
        go_wp2_with fail
        go_roundw
        case rel => exact ⟨j - 1, m / 10, cap - 1, _, rfl, by go_num, by omega, by omega, by omega, HS2, HR2, trivial⟩
        case measure => simp [intOf]; omega
      · have EV := Lib.hid (show V = D neg m (j : Int) by
          rw [HV.out]
          unfold DS
          rw [HS.out, Fit.strip_stop hz]
          show D (neg && decide (0 < m)) m _ = _
          rw [decide_eq_true hm0, Bool.and_true])
        obtain ⟨r, hr⟩ : ∃ r, r = m % 10 := ⟨_, rfl⟩
        rw [← hr] at cq hz
        have hri : ((r : Int) == 0) = false := beq_eq_false_iff_ne.2 (by omega)
        clear hx hr hz
        go_wp2_with (go_at_call 54; ((with_reducible refine (H5.out _ _ (HR.out.1.later (by (repeat' (first | (with_reducible exact Below.refl _ _) | (with_reducible assumption) | (with_reducible refine Below.alloc ?_ ?_ _) | (with_reducible refine below_drewN ?_ _) | (with_reducible refine below_drew ?_) | (with_reducible refine below_ext ?_ ?_ _ _) | (with_reducible refine Below.setCell ?_ ?_ _) | (simp; done) | (simp; omega) | omega))))).mono ?_); rintro e w5 ⟨rfl, b5⟩; obtain ⟨os5, d5, rfl⟩ := ext_of_below b5; clear b5))
        go_returns
        exact ⟨by rw [EV.out], by (repeat' (first | (with_reducible exact Below.refl _ _) | (with_reducible assumption) | (with_reducible refine Below.alloc ?_ ?_ _) | (with_reducible refine below_drewN ?_ _) | (with_reducible refine below_drew ?_) | (with_reducible refine below_ext ?_ ?_ _ _) | (with_reducible refine Below.setCell ?_ ?_ _) | (simp; done) | (simp; omega) | omega))⟩
theorem rmake_any (neg : Bool) (v : Value) (n s : Nat) (hn : n < 10 ^ 34) (hs : s ≤ 1000) (w : World) (ha : Rd w v (dg n)) :
    Calls Tryz.prog 39 #[.bool neg, v, .int .i64 (s : Int)] w fun e w' => e = .returned (DS neg n s) ∧ Below w.heap.size w w' := by
  rcases Nat.eq_zero_or_pos n with h | h
  · subst h; exact rmake_zero neg v s w ha
  · exact rmake_pos neg v n s h hn hs w ha
theorem shift_len {n k m : Nat} (h : (dg n).length ≤ m) : (dg (n * 10 ^ k)).length ≤ m + k := dg_len_le.2 (by
  rw [Nat.pow_add]
  exact Nat.mul_lt_mul_of_pos_right (dg_len_le.1 h) (Nat.pow_pos (by decide)))
end Go.Proofs.YtonajmngchfjeaaGreatDoor
namespace Go.Proofs.YtonajmngchfjeaaGreatDoor
open Go.RowKit Num Word
attribute [local go_sem] setCell_drewN cell?_ext frozen?_ext shape?_ext setCell_ext lt_1' ne_1' en_1' le_1' lt_2' ne_2' en_2' le_2' lt_3' ne_3' en_3' le_3' lt_4' ne_4' en_4' le_4' lt_5' ne_5' en_5' le_5' lt_6' ne_6' en_6' le_6' lt_7' ne_7' en_7' le_7' lt_8' ne_8' en_8' le_8' lt_9' ne_9' en_9' le_9' lt_10' ne_10' en_10' le_10' lt_11' ne_11' en_11' le_11' lt_12' ne_12' en_12' le_12'

theorem uni_lt {c S : Nat} (hc : c < 10 ^ 34) : Fit.uni c S < 10 ^ 52 := by
  have h1 : 10 ^ (18 - S) ≤ 10 ^ 18 := Nat.pow_le_pow_right (by decide) (by omega)
  have h2 : c * 10 ^ (18 - S) ≤ c * 10 ^ 18 := Nat.mul_le_mul_left _ h1
  have h3 : c * 10 ^ 18 < 10 ^ 34 * 10 ^ 18 := Nat.mul_lt_mul_of_pos_right hc (Fit.pp _)
  have h4 : 10 ^ 34 * 10 ^ 18 = 10 ^ 52 := rfl
  unfold Fit.uni
  omega
theorem len_lt {x : Nat} (h : x < 10 ^ 60) : (dg x).length ≤ 60 := dg_len_le.2 h
end Go.Proofs.YtonajmngchfjeaaGreatDoor
namespace Go.Proofs.YtonajmngchfjeaaGreatDoor
open Go.RowKit Num Word
attribute [local go_sem] setCell_drewN cell?_ext frozen?_ext shape?_ext setCell_ext lt_1' ne_1' en_1' le_1' lt_2' ne_2' en_2' le_2' lt_3' ne_3' en_3' le_3' lt_4' ne_4' en_4' le_4' lt_5' ne_5' en_5' le_5' lt_6' ne_6' en_6' le_6' lt_7' ne_7' en_7' le_7' lt_8' ne_8' en_8' le_8' lt_9' ne_9' en_9' le_9' lt_10' ne_10' en_10' le_10' lt_11' ne_11' en_11' le_11' lt_12' ne_12' en_12' le_12'

theorem p10_len18 : (dg (10 ^ 18)).length ≤ 19 := dg_len_le.2 (by decide)
theorem sum_lt {an bn : Bool} {a b : Nat} (ha : a < 10 ^ 52) (hb : b < 10 ^ 52) : (Fit.sumN an a bn b).2 < 10 ^ 60 := by
  have h : 10 ^ 52 + 10 ^ 52 < 10 ^ 60 := by decide
  unfold Fit.sumN
  split
  · show a + b < _; omega
  · split
    · show a - b < _; omega
    · show b - a < _; omega
end Go.Proofs.YtonajmngchfjeaaGreatDoor
namespace Go.Proofs.YtonajmngchfjeaaGreatDoor
open Go.RowKit Num Word
attribute [local go_sem] setCell_drewN cell?_ext frozen?_ext shape?_ext setCell_ext lt_1' ne_1' en_1' le_1' lt_2' ne_2' en_2' le_2' lt_3' ne_3' en_3' le_3' lt_4' ne_4' en_4' le_4' lt_5' ne_5' en_5' le_5' lt_6' ne_6' en_6' le_6' lt_7' ne_7' en_7' le_7' lt_8' ne_8' en_8' le_8' lt_9' ne_9' en_9' le_9' lt_10' ne_10' en_10' le_10' lt_11' ne_11' en_11' le_11' lt_12' ne_12' en_12' le_12'

/-- the document's order is the program's -/
theorem ord_same {na nb : Bool} {x y : Nat} (h : ¬ na = nb → 0 < x + y) :
    ordV na x nb y = if (Fit.sumN na x (!nb) y).2 = 0 then 0 else if (Fit.sumN na x (!nb) y).1 = true then -1 else 1 := by
  have key : ∀ (p : Bool × Nat) (r : Int), ordV na x nb y = r → Fit.sumN na x (!nb) y = p → r = (if p.2 = 0 then 0 else if p.1 = true then -1 else 1) → ordV na x nb y = if (Fit.sumN na x (!nb) y).2 = 0 then 0 else if (Fit.sumN na x (!nb) y).1 = true then -1 else 1 := by
    intro p r h1 h2 h3
    rw [h1, h2, h3]
  cases na <;> cases nb
  · rcases Nat.lt_trichotomy x y with hlt | rfl | hlt
    · exact key (true, y - x) (-1) (by unfold ordV cmpv; rw [if_pos rfl, if_neg (by decide), if_pos hlt]) (by unfold Fit.sumN; rw [if_neg (by decide), if_neg (by omega)]; rfl) (by rw [if_neg (by show ¬ y - x = 0; omega), if_pos rfl])
    · exact key (false, x - x) 0 (by unfold ordV cmpv; rw [if_pos rfl, if_neg (by decide), if_neg (by omega), if_neg (by omega)]) (by unfold Fit.sumN; rw [if_neg (by decide), if_pos (by omega)]) (by rw [if_pos (by show x - x = 0; omega)])
    · exact key (false, x - y) 1 (by unfold ordV cmpv; rw [if_pos rfl, if_neg (by decide), if_neg (by omega), if_pos hlt]) (by unfold Fit.sumN; rw [if_neg (by decide), if_pos (by omega)]) (by rw [if_neg (by show ¬ x - y = 0; omega), if_neg (fun h => nomatch h)])
  · have h0 := h (by decide)
    exact key (false, x + y) 1 (by unfold ordV; rw [if_neg (by decide), if_neg (by decide)]) (by unfold Fit.sumN; rw [if_pos (by decide)]) (by rw [if_neg (by show ¬ x + y = 0; omega), if_neg (fun h => nomatch h)])
  · have h0 := h (by decide)
    exact key (true, x + y) (-1) (by unfold ordV; rw [if_neg (by decide), if_pos rfl]) (by unfold Fit.sumN; rw [if_pos (by decide)]) (by rw [if_neg (by show ¬ x + y = 0; omega), if_pos rfl])
  · rcases Nat.lt_trichotomy x y with hlt | rfl | hlt
    · exact key (false, y - x) 1 (by unfold ordV cmpv; rw [if_pos rfl, if_pos rfl, if_pos hlt]; rfl) (by unfold Fit.sumN; rw [if_neg (by decide), if_neg (by omega)]; rfl) (by rw [if_neg (by show ¬ y - x = 0; omega), if_neg (fun h => nomatch h)])
    · exact key (true, x - x) 0 (by unfold ordV cmpv; rw [if_pos rfl, if_pos rfl, if_neg (by omega), if_neg (by omega)]; rfl) (by unfold Fit.sumN; rw [if_neg (by decide), if_pos (by omega)]) (by rw [if_pos (by show x - x = 0; omega)])
    · exact key (true, x - y) (-1) (by unfold ordV cmpv; rw [if_pos rfl, if_pos rfl, if_neg (by omega), if_pos hlt]) (by unfold Fit.sumN; rw [if_neg (by decide), if_pos (by omega)]) (by rw [if_neg (by show ¬ x - y = 0; omega), if_pos rfl])
end Go.Proofs.YtonajmngchfjeaaGreatDoor
