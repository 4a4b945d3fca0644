/-
  The contracts of wide.Digits and wide.Trim.
-/
import Derived.Test.YtnaajhhdpcdakaaGreatDoorRound
import Derived.Test.YtnaajhhdpcdakaaGreatDoorNum
namespace Go.Proofs.YtnaajhhdpcdakaaGreatDoor
open Go.RowKit Word
attribute [local go_sem] setCell_drewN cell?_ext frozen?_ext shape?_ext setCell_ext lt_1' ne_1' en_1' le_1' lt_2' ne_2' en_2' le_2' lt_3' ne_3' en_3' le_3' lt_4' ne_4' en_4' le_4' lt_5' ne_5' en_5' le_5' lt_6' ne_6' en_6' le_6' lt_7' ne_7' en_7' le_7' lt_8' ne_8' en_8' le_8' lt_9' ne_9' en_9' le_9' lt_10' ne_10' en_10' le_10' lt_11' ne_11' en_11' le_11' lt_12' ne_12' en_12' le_12'

theorem ext_drew3 (w : World) (a b c : Array Obj) (i j k : Nat) : ext (ext (ext w a i).drew b j) c k = ext w (a ++ b ++ c) k := by
  have : (ext w a i).drew = ext w a (i + 1) := rfl
  rw [this]; exact ext_ext3 _ _ _ _ _ _ _
/-- how many decimal digits, at least one -/
def nd (a : Nat) : Nat := max 1 (Num.dg a).length
theorem nd_is {a k : Nat} (hk : 1 ≤ k) (h1 : k = 1 ∨ 10 ^ (k - 1) ≤ a) (h2 : a < 10 ^ k) : nd a = k := by
  unfold nd
  have e1 : (Num.dg a).length ≤ k := Num.dg_len_le.2 h2
  rcases h1 with h1 | h1
  · omega
  · have := Num.dg_len_lt.2 h1
    omega
theorem top_lt : top2 < 10 ^ 39 := by unfold top2; decide
theorem div_ten (n q r : Nat) (hq : q = n / 10) (hr : r = n % 10) (hn : n < top4) (w : World) :
    Calls Tryz.prog 50 #[L n, .int .u64 10] w fun e w' => e = .returned (.tuple #[L q, .int .u64 (r : Int)]) ∧ Below w.heap.size w w' := by
  subst hq
  exact divWord_any n 10 r hr hn (by omega) (by omega) w
theorem trim_zero (w : World) :
    Calls Tryz.prog 83 #[W 0] w fun e w' => e = .returned (.tuple #[W 0, .int .i64 0]) ∧ Below w.heap.size w w' := by
  have HW : W 0 = .agg #[.int .u64 0, .int .u64 0] := rfl
  rw [HW]
  clear HW
  go_enter Tryz.func83, Tryz.ntmps83
  go_wp2_with fail
  go_returns
  exact ⟨rfl, by (repeat' (first | (with_reducible exact Below.refl _ _) | (with_reducible assumption) | (with_reducible refine Below.alloc ?_ ?_ _) | (with_reducible refine below_drewN ?_ _) | (with_reducible refine below_drew ?_) | (with_reducible refine below_ext ?_ ?_ _ _) | (with_reducible refine Below.setCell ?_ ?_ _) | (simp; done) | (simp; omega) | omega))⟩
theorem two_words {q : Nat} (h : q < top2) : w1 q = hi q ∧ w0 q = lo q := by
  unfold w1 w0 hi lo top2 at *; omega
theorem word_ne {b : Nat} (h : 0 < b) : ((hi b : Int) == 0) = false ∨ (((hi b : Int) == 0) = true ∧ ((lo b : Int) == 0) = false) := by
  have h := hilo b
  by_cases h1 : hi b = 0
  · exact .inr ⟨by rw [h1]; rfl, beq_eq_false_iff_ne.2 (by omega)⟩
  · exact .inl (beq_eq_false_iff_ne.2 (by omega))
set_option maxHeartbeats 2000000 in
theorem trim_any (a t k : Nat) (ha : a < top2) (h : a = t * 10 ^ k) (ht : t % 10 ≠ 0) (hk : k ≤ 38) (w : World) :
    Calls Tryz.prog 83 #[W a] w fun e w' => e = .returned (.tuple #[W t, .int .i64 k]) ∧ Below w.heap.size w w' := by
  have h0 : 0 < a := by
    rw [h]; exact Nat.mul_pos (by omega) (Nat.pow_pos (by decide))
  have HA := Lib.hid h
  have HT := Lib.hid ht
  clear h ht
  rcases word_ne h0 with z | ⟨z, z'⟩
  all_goals
    go_enter Tryz.func83, Tryz.ntmps83
    go_wp2_with fail
    go_loopw [4] (fun i wr => ∃ (j c : Nat), j ≤ k ∧ c = t * 10 ^ (k - j) ∧ c ≤ a ∧ i = .int .i64 j ∧ Below ((w.alloc (.cells #[.int .u64 (hi c : Int), .int .u64 (lo c : Int)] 24)).alloc (.cells #[.int .u64 0, .int .u64 0] 24)).heap.size ((w.alloc (.cells #[.int .u64 (hi c : Int), .int .u64 (lo c : Int)] 24)).alloc (.cells #[.int .u64 0, .int .u64 0] 24)) wr)
      (fun i _ => k - (intOf i).toNat)
    case atStart => exact ⟨0, a, by omega, HA.out, Nat.le_refl _, rfl, Below.refl _ _⟩
    case round =>
      obtain ⟨j, c, hj, hc, hca, rfl, hbw⟩ := hrel
      obtain ⟨osX, dX, rfl⟩ := ext_of_below hbw
      clear hbw
      have hcl : c < top2 := by omega
      have hc4 : c < top4 := by unfold top2 top4 at *; omega
      obtain ⟨q, hq⟩ : ∃ q, q = c / 10 := ⟨_, rfl⟩
      obtain ⟨r, hr⟩ : ∃ r, r = c % 10 := ⟨_, rfl⟩
      have hqc : q ≤ c := by rw [hq]; exact Nat.div_le_self _ _
      obtain ⟨g1, g0⟩ := two_words (q := q) (by omega)
      have HQ := Lib.hid hq; have HR := Lib.hid hr; have HC := Lib.hid hc
      clear hq hr hc
      by_cases hjk : j = k
      · have hct : c = t := by rw [HC.out, hjk, Nat.sub_self, Nat.pow_zero, Nat.mul_one]
        have hrB : ((r : Int) == 0) = false := beq_eq_false_iff_ne.2 (by have := HT.out; rw [HR.out, hct]; omega)
        clear g1 g0
        subst hct
        subst hjk
        go_wp2_with (first
          | (go_at_call 51; ((with_reducible refine (long_any c hcl _).mono ?_); rintro e w1 ⟨rfl, hb1⟩; obtain ⟨osA, dA, rfl⟩ := ext_of_below hb1; clear hb1))
          | (go_at_call 50; ((with_reducible refine (div_ten c q r HQ.out HR.out hc4 _).mono ?_); rintro e w1 ⟨rfl, hb1⟩; obtain ⟨osB, dB, rfl⟩ := ext_of_below hb1; clear hb1)))
        go_returns
        exact ⟨rfl, by (repeat' (first | (with_reducible exact Below.refl _ _) | (with_reducible assumption) | (with_reducible refine Below.alloc ?_ ?_ _) | (with_reducible refine below_drewN ?_ _) | (with_reducible refine below_drew ?_) | (with_reducible refine below_ext ?_ ?_ _ _) | (with_reducible refine Below.setCell ?_ ?_ _) | (simp; done) | (simp; omega) | omega))⟩
      · obtain ⟨e, he⟩ : ∃ e, k - j = e + 1 := ⟨k - j - 1, by omega⟩
        have hc10 : c = t * 10 ^ e * 10 := by rw [HC.out, he, Nat.pow_succ, Nat.mul_assoc]
        have hr0 : r = 0 := by rw [HR.out, hc10]; omega
        have hq1 : q = t * 10 ^ (k - (j + 1)) := by rw [HQ.out, hc10, show k - (j + 1) = e by omega]; omega
        have HQ1 := Lib.hid hq1
        have HE := Lib.hid he
        have hrB : ((r : Int) == 0) = true := by rw [hr0]; rfl
        clear hc10 hr0 hq1 he
        go_wp2_with (first
          | (go_at_call 51; ((with_reducible refine (long_any c hcl _).mono ?_); rintro e w1 ⟨rfl, hb1⟩; obtain ⟨osA, dA, rfl⟩ := ext_of_below hb1; clear hb1))
          | (go_at_call 50; ((with_reducible refine (div_ten c q r HQ.out HR.out hc4 _).mono ?_); rintro e w1 ⟨rfl, hb1⟩; obtain ⟨osB, dB, rfl⟩ := ext_of_below hb1; clear hb1)))
        go_roundw
        case rel => exact ⟨j + 1, q, by omega, HQ1.out, by omega, by go_num, by (repeat' (first | (with_reducible exact Below.refl _ _) | (with_reducible assumption) | (with_reducible refine Below.alloc ?_ ?_ _) | (with_reducible refine below_drewN ?_ _) | (with_reducible refine below_drew ?_) | (with_reducible refine below_ext ?_ ?_ _ _) | (with_reducible refine Below.setCell ?_ ?_ _) | (simp; done) | (simp; omega) | omega))⟩
        case measure => simp [intOf]; omega
end Go.Proofs.YtnaajhhdpcdakaaGreatDoor
