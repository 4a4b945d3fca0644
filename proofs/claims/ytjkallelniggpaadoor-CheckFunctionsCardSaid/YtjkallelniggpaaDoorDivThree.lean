/-
  The contract of wide.divThree: three words divided by two, of which the higher one isn't nought.
-/
import Derived.Test.YtjkallelniggpaaDoorDivWord
import Derived.Deep.DeepCutAuto
namespace Go.Proofs.YtjkallelniggpaaDoor
open Go.RowKit Word
attribute [local go_sem] setCell_drewN cell?_ext frozen?_ext shape?_ext setCell_ext lt_1' ne_1' en_1' le_1' lt_2' ne_2' en_2' le_2' lt_3' ne_3' en_3' le_3' lt_4' ne_4' en_4' le_4' lt_5' ne_5' en_5' le_5' lt_6' ne_6' en_6' le_6' lt_7' ne_7' en_7' le_7' lt_8' ne_8' en_8' le_8' lt_9' ne_9' en_9' le_9' lt_10' ne_10' en_10' le_10' lt_11' ne_11' en_11' le_11' lt_12' ne_12' en_12' le_12'

theorem ext_ext (w : World) (a b : Array Obj) (c d : Nat) : ext (ext w a c) b d = ext w (a ++ b) d := by simp [ext, Array.append_assoc]
theorem ext_ext3 (w : World) (a b c : Array Obj) (i j k : Nat) : ext (ext (ext w a i) b j) c k = ext w (a ++ b ++ c) k := by rw [ext_ext, ext_ext, Array.append_assoc]
theorem ext_self (w : World) : w = ext w #[] w.drawn := by simp [ext]
theorem less_words (ah al bh bl : Nat) (w : World) :
    Calls Tryd.prog 124 #[.agg #[.int .u64 (ah : Int), .int .u64 (al : Int)], .agg #[.int .u64 (bh : Int), .int .u64 (bl : Int)]] w fun e w' => e = .returned (.tuple #[.agg #[.int .u64 (difLo ah bh (difHi al bl 0) : Int), .int .u64 (difLo al bl 0 : Int)], .int .u64 (difHi ah bh (difHi al bl 0) : Int)]) ∧ Below w.heap.size w w' := by
  go_enter Tryd.func124, Tryd.ntmps124
  go_wp2_with (first | simp only [sub64_0 al bl] | simp only [sub64 ah bh _ (difHi_le _ _ _)])
  go_returns
  exact ⟨rfl, by (repeat' (first | (with_reducible exact Below.refl _ _) | (with_reducible assumption) | (with_reducible refine Below.alloc ?_ ?_ _) | (with_reducible refine below_drewN ?_ _) | (with_reducible refine below_drew ?_) | (with_reducible refine below_ext ?_ ?_ _ _) | (with_reducible refine Below.setCell ?_ ?_ _) | (simp; done) | (simp; omega) | omega))⟩
theorem rest_words {N p R : Nat} (h : N = p + R) (hR : R < top2) : difLo (w1 N) (w1 p) (difHi (w0 N) (w0 p) 0) = hi R ∧ difLo (w0 N) (w0 p) 0 = lo R := by
  subst h
  unfold difLo difHi w1 w0 hi lo top2 at *
  split <;> omega
theorem mul_word (d q : Nat) (hd : d < top2) (hq : q < 18446744073709551616) (w : World) :
    Calls Tryd.prog 123 #[W d, .agg #[.int .u64 0, .int .u64 (q : Int)]] w fun e w' => e = .returned (L (d * q)) ∧ Below w.heap.size w w' := by
  have h := mul_any d q hd (by unfold top2; omega) w
  have e1 : hi q = 0 := by unfold hi; omega
  have e2 : lo q = q := by unfold lo; omega
  have HW : W q = .agg #[.int .u64 0, .int .u64 (q : Int)] := by simp only [W, e1, e2]; rfl
  rw [HW] at h
  exact h
theorem cmpLong_three (a l m h : Nat) (ha : a < top4) (hl : l < 18446744073709551616) (hm : m < 18446744073709551616) (hh : h < 18446744073709551616) (w : World) :
    Calls Tryd.prog 114 #[L a, .agg #[.int .u64 (l : Int), .int .u64 (m : Int), .int .u64 (h : Int), .int .u64 0]] w fun e w' => e = .returned (.int .i64 (cmpv a (num4 l m h 0))) ∧ Below w.heap.size w w' := by
  have h1 := cmpLong_any a (num4 l m h 0) ha (num4_lt hl hm hh (by omega)) w
  rw [L_num4 hl hm hh (by omega)] at h1
  exact h1
theorem three_start {t l d : Nat} (hl : l < 18446744073709551616) (hd : 0 < hi d) : (t * 18446744073709551616 + l) / d ≤ t / hi d := by
  have e := hilo d
  have hl2 := lo_lt d
  have hp : 0 < d := by omega
  have h1 := Nat.lt_div_mul_add hd (a := t)
  generalize t / hi d = q at *
  rw [← Nat.lt_succ_iff, Nat.div_lt_iff_lt_mul hp]
  have h2 : t + 1 ≤ (q + 1) * hi d := by rw [Nat.add_mul, Nat.one_mul]; exact h1
  have h3 : (t + 1) * 18446744073709551616 ≤ (q + 1) * hi d * 18446744073709551616 := Nat.mul_le_mul_right _ h2
  have h4 : q.succ * d = (q + 1) * hi d * 18446744073709551616 + (q + 1) * lo d := by
    show (q + 1) * d = _
    rw [Nat.mul_assoc, ← Nat.mul_add, e]
  rw [h4]
  rw [Nat.add_mul, Nat.one_mul] at h3
  omega
theorem three_top {t l d : Nat} (ht : t < d) (hl : l < 18446744073709551616) : (t * 18446744073709551616 + l) / d ≤ 18446744073709551615 := by
  rw [← Nat.lt_succ_iff, Nat.div_lt_iff_lt_mul (by omega)]
  have : (t + 1) * 18446744073709551616 ≤ d * 18446744073709551616 := Nat.mul_le_mul_right _ ht
  rw [Nat.mul_comm]
  omega
set_option maxHeartbeats 4000000 in
theorem divThree_any (t l d Q R : Nat) (hQ0 : Q = (t * 18446744073709551616 + l) / d) (hR0 : R = (t * 18446744073709551616 + l) % d) (ht : t < d) (hd : d < top2) (hl : l < 18446744073709551616) (hh : 0 < hi d) (w : World) :
    Calls Tryd.prog 121 #[W t, .int .u64 l, W d] w fun e w' => e = .returned (.tuple #[.int .u64 (Q : Int), W R]) ∧ Below w.heap.size w w' := by
  have b1 := hi_lt hd
  have b2 := hi_lt (Nat.lt_trans ht hd)
  have b3 := lo_lt t
  obtain ⟨N, hN⟩ : ∃ N, N = t * 18446744073709551616 + l := ⟨_, rfl⟩
  have hQ : Q = N / d := by rw [hN]; exact hQ0
  have hR : R = N % d := by rw [hN]; exact hR0
  clear hQ0 hR0
  have s1 : (hi t < hi d) → Q ≤ dq (hi t) (lo t) (hi d) := fun _ => by
    unfold dq; rw [hilo, hQ, hN]; exact three_start hl hh
  have s2 : Q ≤ 18446744073709551615 := by rw [hQ, hN]; exact three_top ht hl
  have e1 : num4 l (lo t) (hi t) 0 = N := by
    have := hilo t
    rw [hN]; unfold num4; omega
  have HQ := Lib.hid hQ; have HR := Lib.hid hR; have HN := Lib.hid hN; have S1 := Lib.hid s1; have S2 := Lib.hid s2; have E1 := Lib.hid e1
  clear hQ hR hN s1 s2 e1
  go_enter Tryd.func121, Tryd.ntmps121
  go_upto_if 17 with (fail)
  go_cut [8] (fun s8 wx => ∃ q m : Nat, s8 = .int .u64 (q : Int) ∧ Q ≤ q ∧ q ≤ 18446744073709551615 ∧ wx = (((w.alloc (.cells #[.int .u64 (hi t : Int), .int .u64 (lo t : Int)] 42)).alloc (.cells #[.int .u64 (hi d : Int), .int .u64 (lo d : Int)] 42)).alloc (.cells #[.int .u64 0, .int .u64 0] 42)).drewN m)
  case first =>
    by_cases h : hi t < hi d
    · go_wp2_with (go_at_call 119; (with_reducible refine (div64 (hi t) (lo t) (hi d) h b1 b3 _).mono ?_); rintro e w1 ⟨rfl, m1, rfl⟩)
      go_meet
      exact ⟨dq (hi t) (lo t) (hi d), _, rfl, S1.out h, Nat.le_of_lt_succ (dq_lt h b3), rfl⟩
    · go_wp2_with fail
      go_meet
      exact ⟨18446744073709551615, 0, rfl, S2.out, Nat.le_refl _, rfl⟩
  case rest =>
    obtain ⟨q, m, rfl, hq1, hq2, rfl⟩ := hcut
    go_wp2_with (go_at_call 123; ((with_reducible refine (mul_word d q hd (by omega) _).mono ?_); rintro e w1 ⟨rfl, hb1⟩; obtain ⟨os1, d1, rfl⟩ := ext_of_below hb1; clear hb1))
    go_loopw [8] (fun s8 wr => ∃ (q' : Nat) (os' : Array Obj) (d' : Nat), s8 = .int .u64 (q' : Int) ∧ Q ≤ q' ∧ q' ≤ 18446744073709551615 ∧ wr = ext ((ext (((((w.alloc (.cells #[.int .u64 (hi t : Int), .int .u64 (lo t : Int)] 42)).alloc (.cells #[.int .u64 (hi d : Int), .int .u64 (lo d : Int)] 42)).alloc (.cells #[.int .u64 0, .int .u64 0] 42)).drewN m).alloc (.cells #[.int .u64 (l : Int), .int .u64 (lo t : Int), .int .u64 (hi t : Int), .int .u64 0] 146)) os1 d1).alloc (.cells #[.int .u64 (w0 (d * q') : Int), .int .u64 (w1 (d * q') : Int), .int .u64 (w2 (d * q') : Int), .int .u64 (w3 (d * q') : Int)] 146)) os' d')
      (fun s8 _ => (intOf s8).toNat)
    case atStart => exact ⟨q, #[], _, rfl, hq1, hq2, ext_self _⟩
    case round =>
      clear hq1 hq2
      obtain ⟨q', os2, d2, rfl, hq1, hq2, rfl⟩ := hrel
      have hd0 : 0 < d := by omega
      have hlt : d * q' < top4 := mul_lt hd (by unfold top2; omega)
      by_cases T : N < d * q'
      · have hc : cmpv (d * q') (num4 l (lo t) (hi t) 0) = 1 := by rw [E1.out]; exact cmpv_gt T
        obtain ⟨p, rfl⟩ : ∃ p, q' = p + 1 := ⟨q' - 1, by
          have : 0 < q' := by
            rcases Nat.eq_zero_or_pos q' with h0 | h0
            · rw [h0, Nat.mul_zero] at T; omega
            · exact h0
          omega⟩
        have hp : Q ≤ p := by
          rw [HQ.out]
          exact Nat.le_of_lt_succ ((Nat.div_lt_iff_lt_mul hd0).2 (by rw [Nat.mul_comm]; exact T))
        clear T hq1
        go_wp2_with (first
          | (go_at_call 114; ((with_reducible refine (cmpLong_three (d * (p + 1)) l (lo t) (hi t) hlt hl b3 b2 _).mono ?_); rintro e w1 ⟨rfl, hb1⟩; obtain ⟨os1, d1, rfl⟩ := ext_of_below hb1; clear hb1))
          | (go_at_call 123; ((with_reducible refine (mul_word d p hd (by omega) _).mono ?_); rintro e w1 ⟨rfl, hb1⟩; obtain ⟨os1, d1, rfl⟩ := ext_of_below hb1; clear hb1)))
        go_roundw
        case rel => exact ⟨p, _, _, rfl, hp, by omega, ext_ext3 _ _ _ _ _ _ _⟩
        case measure => simp [intOf]
      · obtain ⟨c, hc⟩ : ∃ c, cmpv (d * q') (num4 l (lo t) (hi t) 0) = c := ⟨_, rfl⟩
        have hc0 : ¬ (0 : Int) < c := by
          rw [← hc, E1.out]; unfold cmpv; split
          · decide
          · decide
        have hqQ : q' = Q := by
          have : q' ≤ Q := by rw [HQ.out]; exact (Nat.le_div_iff_mul_le hd0).2 (by rw [Nat.mul_comm]; omega)
          omega
        subst hqQ
        have hNR : N = d * q' + R := by rw [HQ.out, HR.out]; exact (Nat.div_add_mod N d).symm
        have hRd : R < d := by rw [HR.out]; exact Nat.mod_lt _ hd0
        obtain ⟨x1, x2⟩ := rest_words hNR (Nat.lt_trans hRd hd)
        obtain ⟨y0, y1, _⟩ := of_words4 hl b3 b2 (show 0 < 18446744073709551616 by omega)
        have y0' : w0 N = l := by rw [← E1.out]; exact y0
        have y1' : w1 N = lo t := by rw [← E1.out]; exact y1
        rw [y0', y1'] at x1
        rw [y0'] at x2
        clear T hq1 hq2 hNR hRd y0 y1 y0' y1'
        go_wp2_with (first
          | (go_at_call 114; ((with_reducible refine (cmpLong_three (d * q') l (lo t) (hi t) hlt hl b3 b2 _).mono ?_); rintro e w1 ⟨rfl, hb1⟩; obtain ⟨os1, d1, rfl⟩ := ext_of_below hb1; clear hb1))
          | (go_at_call 124; ((with_reducible refine (less_words (lo t) l (w1 (d * q')) (w0 (d * q')) _).mono ?_); rintro e w1 ⟨rfl, hb1⟩; obtain ⟨os1, d1, rfl⟩ := ext_of_below hb1; clear hb1)))
        go_region
        all_goals
          go_wp2
          go_returns
          exact ⟨rfl, by (repeat' (first | (with_reducible exact Below.refl _ _) | (with_reducible assumption) | (with_reducible refine Below.alloc ?_ ?_ _) | (with_reducible refine below_drewN ?_ _) | (with_reducible refine below_drew ?_) | (with_reducible refine below_ext ?_ ?_ _ _) | (with_reducible refine Below.setCell ?_ ?_ _) | (simp; done) | (simp; omega) | omega))⟩
end Go.Proofs.YtjkallelniggpaaDoor
