/-
  The contract of wide.divWord: a number of four words divided by one word.
  The contract of wide.divThree: three words divided by two, of which the higher one isn't nought.
  The contract of wide.divPair: four words divided by two, of which the higher one isn't nought.
-/
import Derived.Test.YtalahkincccffaaGreatDoorDivSix
import Derived.Test.YtalahkincccffaaGreatDoorWideC
import Derived.Deep.DeepCutAuto
import Derived.Test.YtalahkincccffaaGreatDoorBa
import Derived.BigRegion
namespace Go.Proofs.YtalahkincccffaaGreatDoor
open Go.RowKit Word
attribute [local go_sem] setCell_drewN cell?_ext frozen?_ext shape?_ext setCell_ext lt_1' ne_1' en_1' le_1' lt_2' ne_2' en_2' le_2' lt_3' ne_3' en_3' le_3' lt_4' ne_4' en_4' le_4' lt_5' ne_5' en_5' le_5' lt_6' ne_6' en_6' le_6' lt_7' ne_7' en_7' le_7' lt_8' ne_8' en_8' le_8' lt_9' ne_9' en_9' le_9' lt_10' ne_10' en_10' le_10' lt_11' ne_11' en_11' le_11' lt_12' ne_12' en_12' le_12'

theorem dr_lt (h l : Nat) {d : Nat} (hd : 0 < d) : dr h l d < d := Nat.mod_lt _ hd
theorem dq_lt {h l d : Nat} (hh : h < d) (hl : l < 18446744073709551616) : dq h l d < 18446744073709551616 := by
  unfold dq
  rw [Nat.div_lt_iff_lt_mul (by omega)]
  have : (h + 1) * 18446744073709551616 ≤ d * 18446744073709551616 := Nat.mul_le_mul_right _ hh
  rw [Nat.mul_comm]
  omega
theorem dqr (h l d : Nat) : h * 18446744073709551616 + l = dq h l d * d + dr h l d := (Nat.div_add_mod' _ _).symm
theorem div_words_aux {n d K K2 K3 a0 a1 a2 a3 q0 q1 q2 q3 r0 r1 r2 r3 : Nat} (hK2 : K2 = K * K) (hK3 : K3 = K * K * K) (hn : a0 + a1 * K + a2 * K2 + a3 * K3 = n)
    (h3 : a3 = q3 * d + r3) (h2 : r3 * K + a2 = q2 * d + r2) (h1 : r2 * K + a1 = q1 * d + r1) (h0 : r1 * K + a0 = q0 * d + r0) :
    n = (q0 + q1 * K + q2 * K2 + q3 * K3) * d + r0 := by
  subst hK2 hK3
  have e3 : a3 * (K * K * K) = q3 * d * (K * K * K) + r3 * K * (K * K) := by rw [h3, Nat.add_mul, Nat.mul_assoc r3, Nat.mul_assoc K K K]
  have e2 : (r3 * K + a2) * (K * K) = q2 * d * (K * K) + r2 * K * K := by rw [h2, Nat.add_mul, Nat.mul_assoc r2]
  have e1 : (r2 * K + a1) * K = q1 * d * K + r1 * K := by rw [h1, Nat.add_mul]
  rw [Nat.add_mul] at e2 e1
  have g : (q0 + q1 * K + q2 * (K * K) + q3 * (K * K * K)) * d = q0 * d + q1 * d * K + q2 * d * (K * K) + q3 * d * (K * K * K) := by
    rw [Nat.add_mul, Nat.add_mul, Nat.add_mul, Nat.mul_right_comm q1, Nat.mul_right_comm q2, Nat.mul_right_comm q3]
  rw [g, ← hn]
  omega
theorem quo_rem {n d a r : Nat} (h : n = a * d + r) (hr : r < d) : a = n / d ∧ r = n % d := by
  have hd : 0 < d := by omega
  subst h
  constructor
  · rw [Nat.mul_comm, Nat.mul_add_div hd, Nat.div_eq_of_lt hr, Nat.add_zero]
  · rw [Nat.mul_comm, Nat.mul_add_mod, Nat.mod_eq_of_lt hr]
theorem K2 : 340282366920938463463374607431768211456 = 18446744073709551616 * 18446744073709551616 := rfl
theorem K3 : 6277101735386680763835789423207666416102355444464034512896 = 18446744073709551616 * 18446744073709551616 * 18446744073709551616 := rfl
theorem places {n d : Nat} (hn : n < top4) (hd : 0 < d) : ∃ ρ κ : Int → Nat, ρ 3 = 0 ∧ (dr (ρ 3) (w3 n) d = ρ 2 ∧ dr (ρ 2) (w2 n) d = ρ 1 ∧ dr (ρ 1) (w1 n) d = ρ 0 ∧ dr (ρ 0) (w0 n) d = ρ (-1)) ∧
    (dq (ρ 3) (w3 n) d = κ 3 ∧ dq (ρ 2) (w2 n) d = κ 2 ∧ dq (ρ 1) (w1 n) d = κ 1 ∧ dq (ρ 0) (w0 n) d = κ 0) ∧ (∀ q, ρ q < d) ∧ (∀ q, κ q < 18446744073709551616) ∧
    num4 (κ 0) (κ 1) (κ 2) (κ 3) = n / d ∧ ρ (-1) = n % d := by
  have h3 := dqr 0 (w3 n) d
  have g3 := dq_lt hd (w3_lt n)
  have l3 := dr_lt 0 (w3 n) hd
  obtain ⟨r3, e3⟩ : ∃ a, dr 0 (w3 n) d = a := ⟨_, rfl⟩
  obtain ⟨k3, f3⟩ : ∃ a, dq 0 (w3 n) d = a := ⟨_, rfl⟩
  rw [e3, f3, Nat.zero_mul, Nat.zero_add] at h3
  rw [f3] at g3
  rw [e3] at l3
  have h2 := dqr r3 (w2 n) d
  have g2 := dq_lt l3 (w2_lt n)
  have l2 := dr_lt r3 (w2 n) hd
  obtain ⟨r2, e2⟩ : ∃ a, dr r3 (w2 n) d = a := ⟨_, rfl⟩
  obtain ⟨k2, f2⟩ : ∃ a, dq r3 (w2 n) d = a := ⟨_, rfl⟩
  rw [e2, f2] at h2
  rw [f2] at g2
  rw [e2] at l2
  have h1 := dqr r2 (w1 n) d
  have g1 := dq_lt l2 (w1_lt n)
  have l1 := dr_lt r2 (w1 n) hd
  obtain ⟨r1, e1⟩ : ∃ a, dr r2 (w1 n) d = a := ⟨_, rfl⟩
  obtain ⟨k1, f1⟩ : ∃ a, dq r2 (w1 n) d = a := ⟨_, rfl⟩
  rw [e1, f1] at h1
  rw [f1] at g1
  rw [e1] at l1
  have h0 := dqr r1 (w0 n) d
  have g0 := dq_lt l1 (w0_lt n)
  have l0 := dr_lt r1 (w0 n) hd
  obtain ⟨r0, e0⟩ : ∃ a, dr r1 (w0 n) d = a := ⟨_, rfl⟩
  obtain ⟨k0, f0⟩ : ∃ a, dq r1 (w0 n) d = a := ⟨_, rfl⟩
  rw [e0, f0] at h0
  rw [f0] at g0
  rw [e0] at l0
  have key := div_words_aux K2 K3 (words4 hn) h3 h2 h1 h0
  obtain ⟨x1, x2⟩ := quo_rem key l0
  refine ⟨fun q => if q = 3 then 0 else if q = 2 then r3 else if q = 1 then r2 else if q = 0 then r1 else r0, fun q => if q = 3 then k3 else if q = 2 then k2 else if q = 1 then k1 else k0, ?_, ⟨?_, ?_, ?_, ?_⟩, ⟨?_, ?_, ?_, ?_⟩, ?_, ?_, ?_, ?_⟩
  · simp
  · simpa using e3
  · simpa using e2
  · simpa using e1
  · simpa using e0
  · simpa using f3
  · simpa using f2
  · simpa using f1
  · simpa using f0
  · intro q; dsimp only; split
    · exact hd
    · split
      · exact l3
      · split
        · exact l2
        · split
          · exact l1
          · exact l0
  · intro q; dsimp only; split
    · exact g3
    · split
      · exact g2
      · split
        · exact g1
        · exact g0
  · simpa [num4] using x1
  · simpa using x2
def qrow (κ : Int → Nat) : Int → Array Value
  | 3 => #[.int .u64 0, .int .u64 0, .int .u64 0, .int .u64 0]
  | 2 => #[.int .u64 0, .int .u64 0, .int .u64 0, .int .u64 (κ 3 : Int)]
  | 1 => #[.int .u64 0, .int .u64 0, .int .u64 (κ 2 : Int), .int .u64 (κ 3 : Int)]
  | 0 => #[.int .u64 0, .int .u64 (κ 1 : Int), .int .u64 (κ 2 : Int), .int .u64 (κ 3 : Int)]
  | _ => #[.int .u64 (κ 0 : Int), .int .u64 (κ 1 : Int), .int .u64 (κ 2 : Int), .int .u64 (κ 3 : Int)]
theorem ret_div {v v' : Value} {a b : Nat} (h1 : v = v') (h2 : a = b) : Ending.returned (.tuple #[v, .int .u64 (a : Int)]) = .returned (.tuple #[v', .int .u64 (b : Int)]) := by rw [h1, h2]
set_option maxHeartbeats 4000000 in
theorem divWord_any (n d r : Nat) (hr0 : r = n % d) (hn : n < top4) (h0 : 0 < d) (hd : d < 18446744073709551616) (w : World) :
    Calls Tryz.prog 109 #[L n, .int .u64 d] w fun e w' => e = .returned (.tuple #[L (n / d), .int .u64 (r : Int)]) ∧ Below w.heap.size w w' := by
  obtain ⟨ρ, κ, hz, ⟨R3, R2, R1, R0⟩, ⟨P3, P2, P1, P0⟩, hb, hc, e1, e2⟩ := places hn h0
  rw [← hr0] at e2
  clear hr0
  have HL : .agg #[.int .u64 (κ 0 : Int), .int .u64 (κ 1 : Int), .int .u64 (κ 2 : Int), .int .u64 (κ 3 : Int)] = L (n / d) := by
    rw [← e1]; exact (L_num4 (hc 0) (hc 1) (hc 2) (hc 3)).symm
  have HB := Lib.hid hb
  have HL' := Lib.hid HL
  have E2 := Lib.hid e2
  have HZ := Lib.hid hz
  clear HL e1 e2 hb hc hz
  go_enter Tryz.func109, Tryz.ntmps109
  go_wp2
  go_loopw [7, 8] (fun c i wr => ∃ (q : Int) (m : Nat), -1 ≤ q ∧ q ≤ 3 ∧ i = .int .i64 q ∧ c = .int .u64 (ρ q : Int) ∧ wr = (((w.alloc (.cells #[.int .u64 (w0 n : Int), .int .u64 (w1 n : Int), .int .u64 (w2 n : Int), .int .u64 (w3 n : Int)] 124)).alloc (.cells #[.int .u64 0, .int .u64 0, .int .u64 0, .int .u64 0] 124)).alloc (.cells (qrow κ q) 124)).drewN m)
    (fun _ i _ => (intOf i + 1).toNat)
  case atStart => exact ⟨3, 0, by omega, by omega, rfl, by rw [HZ.out]; rfl, rfl⟩
  case round =>
    obtain ⟨q, m, hk1, hk2, rfl, rfl, rfl⟩ := hrel
    have h5 : q = 3 ∨ q = 2 ∨ q = 1 ∨ q = 0 ∨ q = -1 := by omega
    clear hk1 hk2
    rcases h5 with rfl | rfl | rfl | rfl | rfl
    · simp only [qrow]
      go_wp2_with (go_at_call 112; (with_reducible refine (div64 (ρ 3) (w3 n) d (HB.out 3) hd (w3_lt n) _).mono ?_); rintro e w1 ⟨rfl, m1, rfl⟩)
      go_roundw
      case rel => exact ⟨2, _, by omega, by omega, rfl, rfl, rfl⟩
      case measure => simp [intOf]
    · simp only [qrow]
      go_wp2_with (go_at_call 112; (with_reducible refine (div64 (ρ 2) (w2 n) d (HB.out 2) hd (w2_lt n) _).mono ?_); rintro e w1 ⟨rfl, m1, rfl⟩)
      go_roundw
      case rel => exact ⟨1, _, by omega, by omega, rfl, rfl, rfl⟩
      case measure => simp [intOf]
    · simp only [qrow]
      go_wp2_with (go_at_call 112; (with_reducible refine (div64 (ρ 1) (w1 n) d (HB.out 1) hd (w1_lt n) _).mono ?_); rintro e w1 ⟨rfl, m1, rfl⟩)
      go_roundw
      case rel => exact ⟨0, _, by omega, by omega, rfl, rfl, rfl⟩
      case measure => simp [intOf]
    · simp only [qrow]
      go_wp2_with (go_at_call 112; (with_reducible refine (div64 (ρ 0) (w0 n) d (HB.out 0) hd (w0_lt n) _).mono ?_); rintro e w1 ⟨rfl, m1, rfl⟩)
      go_roundw
      case rel => exact ⟨-1, _, by omega, by omega, rfl, rfl, rfl⟩
      case measure => simp [intOf]
    · simp only [qrow]
      go_wp2
      go_returns
      exact ⟨ret_div HL'.out E2.out, below_drewN (by (repeat' (first | (with_reducible first | exact Below.refl _ _ | assumption | refine Below.alloc ?_ ?_ _ | refine below_drewN ?_ _ | refine below_drew ?_ | refine below_ext ?_ ?_ _ _ | refine Below.setCell ?_ ?_ _) | (simp; done) | (simp; omega) | omega))) _⟩
end Go.Proofs.YtalahkincccffaaGreatDoor
namespace Go.Proofs.YtalahkincccffaaGreatDoor
open Go.RowKit Word
attribute [local go_sem] setCell_drewN cell?_ext frozen?_ext shape?_ext setCell_ext lt_1' ne_1' en_1' le_1' lt_2' ne_2' en_2' le_2' lt_3' ne_3' en_3' le_3' lt_4' ne_4' en_4' le_4' lt_5' ne_5' en_5' le_5' lt_6' ne_6' en_6' le_6' lt_7' ne_7' en_7' le_7' lt_8' ne_8' en_8' le_8' lt_9' ne_9' en_9' le_9' lt_10' ne_10' en_10' le_10' lt_11' ne_11' en_11' le_11' lt_12' ne_12' en_12' le_12'

theorem ext_ext (w : World) (a b : Array Obj) (c d : Nat) : ext (ext w a c) b d = ext w (a ++ b) d := by simp [ext, Array.append_assoc]
theorem ext_ext3 (w : World) (a b c : Array Obj) (i j k : Nat) : ext (ext (ext w a i) b j) c k = ext w (a ++ b ++ c) k := by rw [ext_ext, ext_ext, Array.append_assoc]
theorem ext_self (w : World) : w = ext w #[] w.drawn := by simp [ext]
theorem less_words (ah al bh bl : Nat) (w : World) :
    Calls Tryz.prog 117 #[.agg #[.int .u64 (ah : Int), .int .u64 (al : Int)], .agg #[.int .u64 (bh : Int), .int .u64 (bl : Int)]] w fun e w' => e = .returned (.tuple #[.agg #[.int .u64 (difLo ah bh (difHi al bl 0) : Int), .int .u64 (difLo al bl 0 : Int)], .int .u64 (difHi ah bh (difHi al bl 0) : Int)]) ∧ Below w.heap.size w w' := by
  go_enter Tryz.func117, Tryz.ntmps117
  go_wp2_with (first | simp only [sub64_0 al bl] | simp only [sub64 ah bh _ (difHi_le _ _ _)])
  go_returns
  exact ⟨rfl, by (repeat' (first | (with_reducible first | exact Below.refl _ _ | assumption | refine Below.alloc ?_ ?_ _ | refine below_drewN ?_ _ | refine below_drew ?_ | refine below_ext ?_ ?_ _ _ | refine Below.setCell ?_ ?_ _) | (simp; done) | (simp; omega) | omega))⟩
theorem rest_words {N p R : Nat} (h : N = p + R) (hR : R < top2) : difLo (w1 N) (w1 p) (difHi (w0 N) (w0 p) 0) = hi R ∧ difLo (w0 N) (w0 p) 0 = lo R := by
  subst h
  unfold difLo difHi w1 w0 hi lo top2 at *
  split <;> omega
theorem mul_word (d q : Nat) (hd : d < top2) (hq : q < 18446744073709551616) (w : World) :
    Calls Tryz.prog 116 #[W d, .agg #[.int .u64 0, .int .u64 (q : Int)]] w fun e w' => e = .returned (L (d * q)) ∧ Below w.heap.size w w' := by
  have h := mul_any d q hd (by unfold top2; omega) w
  have e1 : hi q = 0 := by unfold hi; omega
  have e2 : lo q = q := by unfold lo; omega
  have HW : W q = .agg #[.int .u64 0, .int .u64 (q : Int)] := by simp only [W, e1, e2]; rfl
  rw [HW] at h
  exact h
theorem cmpLong_three (a l m h : Nat) (ha : a < top4) (hl : l < 18446744073709551616) (hm : m < 18446744073709551616) (hh : h < 18446744073709551616) (w : World) :
    Calls Tryz.prog 107 #[L a, .agg #[.int .u64 (l : Int), .int .u64 (m : Int), .int .u64 (h : Int), .int .u64 0]] w fun e w' => e = .returned (.int .i64 (cmpv a (num4 l m h 0))) ∧ Below w.heap.size w w' := by
  have h1 := cmpLong_any a (num4 l m h 0) ha (num4_lt hl hm hh (by omega)) w
  rw [L_num4 hl hm hh (by omega)] at h1
  exact h1
theorem three_start {t l d : Nat} (hl : l < 18446744073709551616) (hd : 0 < hi d) : (t * 18446744073709551616 + l) / d ≤ t / hi d := by
  have e := hilo d
  have hl2 := lo_lt d
  have hp : 0 < d := by omega
  have h1 := Nat.lt_div_mul_add hd (a := t)
  generalize t / hi d = q at *
  rw [← Nat.lt_succ_iff, Nat.div_lt_iff_lt_mul hp]
  have h2 : t + 1 ≤ (q + 1) * hi d := by rw [Nat.add_mul, Nat.one_mul]; exact h1
  have h3 : (t + 1) * 18446744073709551616 ≤ (q + 1) * hi d * 18446744073709551616 := Nat.mul_le_mul_right _ h2
  have h4 : q.succ * d = (q + 1) * hi d * 18446744073709551616 + (q + 1) * lo d := by
    show (q + 1) * d = _
    rw [Nat.mul_assoc, ← Nat.mul_add, e]
  rw [h4]
  rw [Nat.add_mul, Nat.one_mul] at h3
  omega
theorem three_top {t l d : Nat} (ht : t < d) (hl : l < 18446744073709551616) : (t * 18446744073709551616 + l) / d ≤ 18446744073709551615 := by
  rw [← Nat.lt_succ_iff, Nat.div_lt_iff_lt_mul (by omega)]
  have : (t + 1) * 18446744073709551616 ≤ d * 18446744073709551616 := Nat.mul_le_mul_right _ ht
  rw [Nat.mul_comm]
  omega
set_option maxHeartbeats 4000000 in
theorem divThree_any (t l d Q R : Nat) (hQ0 : Q = (t * 18446744073709551616 + l) / d) (hR0 : R = (t * 18446744073709551616 + l) % d) (ht : t < d) (hd : d < top2) (hl : l < 18446744073709551616) (hh : 0 < hi d) (w : World) :
    Calls Tryz.prog 114 #[W t, .int .u64 l, W d] w fun e w' => e = .returned (.tuple #[.int .u64 (Q : Int), W R]) ∧ Below w.heap.size w w' := by
  have b1 := hi_lt hd
  have b2 := hi_lt (Nat.lt_trans ht hd)
  have b3 := lo_lt t
  obtain ⟨N, hN⟩ : ∃ N, N = t * 18446744073709551616 + l := ⟨_, rfl⟩
  have hQ : Q = N / d := by rw [hN]; exact hQ0
  have hR : R = N % d := by rw [hN]; exact hR0
  clear hQ0 hR0
  have s1 : (hi t < hi d) → Q ≤ dq (hi t) (lo t) (hi d) := fun _ => by
    unfold dq; rw [hilo, hQ, hN]; exact three_start hl hh
  have s2 : Q ≤ 18446744073709551615 := by rw [hQ, hN]; exact three_top ht hl
  have e1 : num4 l (lo t) (hi t) 0 = N := by
    have := hilo t
    rw [hN]; unfold num4; omega
  have HQ := Lib.hid hQ; have HR := Lib.hid hR; have HN := Lib.hid hN; have S1 := Lib.hid s1; have S2 := Lib.hid s2; have E1 := Lib.hid e1
  clear hQ hR hN s1 s2 e1
  go_enter Tryz.func114, Tryz.ntmps114
  go_upto_if 17 with (fail)
  go_cut [8] (fun s8 wx => ∃ q m : Nat, s8 = .int .u64 (q : Int) ∧ Q ≤ q ∧ q ≤ 18446744073709551615 ∧ wx = (((w.alloc (.cells #[.int .u64 (hi t : Int), .int .u64 (lo t : Int)] 35)).alloc (.cells #[.int .u64 (hi d : Int), .int .u64 (lo d : Int)] 35)).alloc (.cells #[.int .u64 0, .int .u64 0] 35)).drewN m)
  case first =>
    by_cases h : hi t < hi d
    · go_wp2_with (go_at_call 112; (with_reducible refine (div64 (hi t) (lo t) (hi d) h b1 b3 _).mono ?_); rintro e w1 ⟨rfl, m1, rfl⟩)
      go_meet
      exact ⟨dq (hi t) (lo t) (hi d), _, rfl, S1.out h, Nat.le_of_lt_succ (dq_lt h b3), rfl⟩
    · go_wp2_with fail
      go_meet
      exact ⟨18446744073709551615, 0, rfl, S2.out, Nat.le_refl _, rfl⟩
  case rest =>
    obtain ⟨q, m, rfl, hq1, hq2, rfl⟩ := hcut
    go_wp2_with (go_at_call 116; ((with_reducible refine (mul_word d q hd (by omega) _).mono ?_); rintro e w1 ⟨rfl, hb1⟩; obtain ⟨os1, d1, rfl⟩ := ext_of_below hb1; clear hb1))
    go_loopw [8] (fun s8 wr => ∃ (q' : Nat) (os' : Array Obj) (d' : Nat), s8 = .int .u64 (q' : Int) ∧ Q ≤ q' ∧ q' ≤ 18446744073709551615 ∧ wr = ext ((ext (((((w.alloc (.cells #[.int .u64 (hi t : Int), .int .u64 (lo t : Int)] 35)).alloc (.cells #[.int .u64 (hi d : Int), .int .u64 (lo d : Int)] 35)).alloc (.cells #[.int .u64 0, .int .u64 0] 35)).drewN m).alloc (.cells #[.int .u64 (l : Int), .int .u64 (lo t : Int), .int .u64 (hi t : Int), .int .u64 0] 124)) os1 d1).alloc (.cells #[.int .u64 (w0 (d * q') : Int), .int .u64 (w1 (d * q') : Int), .int .u64 (w2 (d * q') : Int), .int .u64 (w3 (d * q') : Int)] 124)) os' d')
      (fun s8 _ => (intOf s8).toNat)
    case atStart => exact ⟨q, #[], _, rfl, hq1, hq2, ext_self _⟩
    case round =>
      clear hq1 hq2
      obtain ⟨q', os2, d2, rfl, hq1, hq2, rfl⟩ := hrel
      have hd0 : 0 < d := by omega
      have hlt : d * q' < top4 := mul_lt hd (by unfold top2; omega)
      by_cases T : N < d * q'
      · have hc : cmpv (d * q') (num4 l (lo t) (hi t) 0) = 1 := by rw [E1.out]; exact cmpv_gt T
        obtain ⟨p, rfl⟩ : ∃ p, q' = p + 1 := ⟨q' - 1, by
          have : 0 < q' := by
            rcases Nat.eq_zero_or_pos q' with h0 | h0
            · rw [h0, Nat.mul_zero] at T; omega
            · exact h0
          omega⟩
        have hp : Q ≤ p := by
          rw [HQ.out]
          exact Nat.le_of_lt_succ ((Nat.div_lt_iff_lt_mul hd0).2 (by rw [Nat.mul_comm]; exact T))
        clear T hq1
        go_wp2_with (first
          | (go_at_call 107; ((with_reducible refine (cmpLong_three (d * (p + 1)) l (lo t) (hi t) hlt hl b3 b2 _).mono ?_); rintro e w1 ⟨rfl, hb1⟩; obtain ⟨os1, d1, rfl⟩ := ext_of_below hb1; clear hb1))
          | (go_at_call 116; ((with_reducible refine (mul_word d p hd (by omega) _).mono ?_); rintro e w1 ⟨rfl, hb1⟩; obtain ⟨os1, d1, rfl⟩ := ext_of_below hb1; clear hb1)))
        go_roundw
        case rel => exact ⟨p, _, _, rfl, hp, by omega, ext_ext3 _ _ _ _ _ _ _⟩
        case measure => simp [intOf]
      · obtain ⟨c, hc⟩ : ∃ c, cmpv (d * q') (num4 l (lo t) (hi t) 0) = c := ⟨_, rfl⟩
        have hc0 : ¬ (0 : Int) < c := by
          rw [← hc, E1.out]; unfold cmpv; split
          · decide
          · decide
        have hqQ : q' = Q := by
          have : q' ≤ Q := by rw [HQ.out]; exact (Nat.le_div_iff_mul_le hd0).2 (by rw [Nat.mul_comm]; omega)
          omega
        subst hqQ
        have hNR : N = d * q' + R := by rw [HQ.out, HR.out]; exact (Nat.div_add_mod N d).symm
        have hRd : R < d := by rw [HR.out]; exact Nat.mod_lt _ hd0
        obtain ⟨x1, x2⟩ := rest_words hNR (Nat.lt_trans hRd hd)
        obtain ⟨y0, y1, _⟩ := of_words4 hl b3 b2 (show 0 < 18446744073709551616 by omega)
        have y0' : w0 N = l := by rw [← E1.out]; exact y0
        have y1' : w1 N = lo t := by rw [← E1.out]; exact y1
        rw [y0', y1'] at x1
        rw [y0'] at x2
        clear T hq1 hq2 hNR hRd y0 y1 y0' y1'
        go_wp2_with (first
          | (go_at_call 107; ((with_reducible refine (cmpLong_three (d * q') l (lo t) (hi t) hlt hl b3 b2 _).mono ?_); rintro e w1 ⟨rfl, hb1⟩; obtain ⟨os1, d1, rfl⟩ := ext_of_below hb1; clear hb1))
          | (go_at_call 117; ((with_reducible refine (less_words (lo t) l (w1 (d * q')) (w0 (d * q')) _).mono ?_); rintro e w1 ⟨rfl, hb1⟩; obtain ⟨os1, d1, rfl⟩ := ext_of_below hb1; clear hb1)))
        go_region
        all_goals
          go_wp2
          go_returns
          exact ⟨rfl, by (repeat' (first | (with_reducible first | exact Below.refl _ _ | assumption | refine Below.alloc ?_ ?_ _ | refine below_drewN ?_ _ | refine below_drew ?_ | refine below_ext ?_ ?_ _ _ | refine Below.setCell ?_ ?_ _) | (simp; done) | (simp; omega) | omega))⟩
end Go.Proofs.YtalahkincccffaaGreatDoor
namespace Go.Proofs.YtalahkincccffaaGreatDoor
open Go.RowKit Word
attribute [local go_sem] setCell_drewN cell?_ext frozen?_ext shape?_ext setCell_ext lt_1' ne_1' en_1' le_1' lt_2' ne_2' en_2' le_2' lt_3' ne_3' en_3' le_3' lt_4' ne_4' en_4' le_4' lt_5' ne_5' en_5' le_5' lt_6' ne_6' en_6' le_6' lt_7' ne_7' en_7' le_7' lt_8' ne_8' en_8' le_8' lt_9' ne_9' en_9' le_9' lt_10' ne_10' en_10' le_10' lt_11' ne_11' en_11' le_11' lt_12' ne_12' en_12' le_12'

theorem or_mod {a b s : Nat} (hb : b < 2 ^ s) (hs : s ≤ 64) : bits .or .u64 ((a * 2 ^ s % 18446744073709551616 : Nat) : Int) (b : Int) = ((a * 2 ^ s % 18446744073709551616 + b : Nat) : Int) := by
  have h2 : 2 ^ s ≤ 2 ^ 64 := Nat.pow_le_pow_right (by decide) hs
  have hb' : b < 18446744073709551616 := by omega
  have hd : 2 ^ s ∣ 18446744073709551616 := ⟨2 ^ (64 - s), by rw [← Nat.pow_add, show s + (64 - s) = 64 by omega]⟩
  rw [bits_or_u64_nat _ _ (Nat.mod_lt _ (by decide)) hb', nat_join s _ _ (by rw [Nat.mod_mod_of_dvd _ hd, Nat.mul_mod_left]) hb]
theorem or_mod' {a b s : Nat} (hb : b < 2 ^ s) (hs : s ≤ 64) : bits .or .u64 (b : Int) ((a * 2 ^ s % 18446744073709551616 : Nat) : Int) = ((a * 2 ^ s % 18446744073709551616 + b : Nat) : Int) := by
  have h2 : 2 ^ s ≤ 2 ^ 64 := Nat.pow_le_pow_right (by decide) hs
  have hb' : b < 18446744073709551616 := by omega
  have hd : 2 ^ s ∣ 18446744073709551616 := ⟨2 ^ (64 - s), by rw [← Nat.pow_add, show s + (64 - s) = 64 by omega]⟩
  rw [bits_or_u64_nat _ _ hb' (Nat.mod_lt _ (by decide)), Nat.or_comm, nat_join s _ _ (by rw [Nat.mod_mod_of_dvd _ hd, Nat.mul_mod_left]) hb]
theorem orI {a b s : Nat} (hb : b < 18446744073709551616) (hs : s ≤ 64) :
    bits .or .u64 (IntKind.u64.wrap ((a : Int) * 2 ^ s)) ((b : Int) / 2 ^ (64 - s)) = ((a * 2 ^ s % 18446744073709551616 + b / 2 ^ (64 - s) : Nat) : Int) := by
  rw [shl_mod, shr_eq]; exact or_mod (DivP.shr_lt hs hb) hs
theorem or_lt {a b s : Nat} (hb : b < 18446744073709551616) (hs : s ≤ 64) : a * 2 ^ s % 18446744073709551616 + b / 2 ^ (64 - s) < 18446744073709551616 := by
  have h1 := DivP.shr_lt hs hb
  have hd : 2 ^ s ∣ 18446744073709551616 := ⟨2 ^ (64 - s), by rw [← Nat.pow_add, show s + (64 - s) = 64 by omega]⟩
  have e64 : 2 ^ s * 2 ^ (64 - s) = 18446744073709551616 := by rw [← Nat.pow_add, show s + (64 - s) = 64 by omega]
  have h2 : a * 2 ^ s % 18446744073709551616 % 2 ^ s = 0 := by rw [Nat.mod_mod_of_dvd _ hd, Nat.mul_mod_left]
  have h3 : a * 2 ^ s % 18446744073709551616 < 18446744073709551616 := Nat.mod_lt _ (by decide)
  generalize a * 2 ^ s % 18446744073709551616 = c at *
  obtain ⟨k, hk⟩ := Nat.dvd_of_mod_eq_zero h2
  rw [hk, ← e64] at h3
  have h4 : k < 2 ^ (64 - s) := Nat.lt_of_mul_lt_mul_left h3
  have h5 : 2 ^ s * (k + 1) ≤ 2 ^ s * 2 ^ (64 - s) := Nat.mul_le_mul_left _ h4
  rw [Nat.mul_add, Nat.mul_one, ← hk, e64] at h5
  omega
set_option maxHeartbeats 4000000 in
theorem divPair_any (n d R : Nat) (hR0 : R = n % d) (hn : n < top4) (hd : d < top2) (hh : 0 < hi d) (w : World) :
    Calls Tryz.prog 110 #[L n, W d] w fun e w' => e = .returned (.tuple #[L (n / d), W R]) ∧ Below w.heap.size w w' := by
  have b1 := hi_lt hd
  have b0 := lo_lt d
  obtain ⟨l1, l2, l3, l4⟩ := bitLen_bounds hh b1
  obtain ⟨s, hs⟩ : ∃ s : Nat, s = 64 - Lib.bitLen (hi d) := ⟨_, rfl⟩
  have hs63 : s ≤ 63 := by omega
  have hs64 : s ≤ 64 := by omega
  have hsI : (64 - (Lib.bitLen (hi d) : Int)) = (s : Int) := by omega
  rw [show Lib.bitLen (hi d) - 1 = 63 - s by omega] at l3
  rw [show Lib.bitLen (hi d) = 64 - s by omega] at l4
  have HS := Lib.hid hsI
  clear hs hsI l1 l2
  -- the shifted divisor
  have e64 : 2 ^ (64 - s) * 2 ^ s = 18446744073709551616 := by rw [← Nat.pow_add, show 64 - s + s = 64 by omega]
  have e63 : 2 ^ (63 - s) * 2 ^ s = 9223372036854775808 := by rw [← Nat.pow_add, show 63 - s + s = 63 by omega]
  have hp : 0 < 2 ^ s := Nat.two_pow_pos s
  have hD1 : hi d * 2 ^ s + 2 ^ s ≤ 18446744073709551616 := by
    have : (hi d + 1) * 2 ^ s ≤ 2 ^ (64 - s) * 2 ^ s := Nat.mul_le_mul_right _ l4
    rw [Nat.add_mul, Nat.one_mul, e64] at this; exact this
  have hD2 : 9223372036854775808 ≤ hi d * 2 ^ s := by rw [← e63]; exact Nat.mul_le_mul_right _ l3
  have hsl := DivP.shr_lt hs64 b0
  have hsp := DivP.shl_split (x := lo d) hs64
  have hDe : d * 2 ^ s = hi d * 2 ^ s * 18446744073709551616 + lo d * 2 ^ s := by
    have h := hilo d
    have h2 : d * 2 ^ s = (hi d * 18446744073709551616 + lo d) * 2 ^ s := by rw [h]
    rw [h2, Nat.add_mul, Nat.mul_right_comm (hi d)]
  obtain ⟨D, hD⟩ : ∃ D, D = d * 2 ^ s := ⟨_, rfl⟩
  have hDw : D = (hi d * 2 ^ s + lo d / 2 ^ (64 - s)) * 18446744073709551616 + lo d * 2 ^ s % 18446744073709551616 := by rw [hD, hDe]; omega
  obtain ⟨dh, dl⟩ := of_words (h := hi d * 2 ^ s + lo d / 2 ^ (64 - s)) (l := lo d * 2 ^ s % 18446744073709551616) (Nat.mod_lt _ (by decide))
  rw [← hDw] at dh dl
  have A1 : bits .or .u64 (IntKind.u64.wrap ((hi d : Int) * 2 ^ s)) ((lo d : Int) / 2 ^ (64 - s)) = (hi D : Int) := by
    rw [orI b0 hs64, dh, Nat.mod_eq_of_lt (by omega)]
  have A2 : IntKind.u64.wrap ((lo d : Int) * 2 ^ s) = (lo D : Int) := by rw [shl_mod, dl]
  have hDB : D < top2 := by rw [hDw]; unfold top2; omega
  have hDh : 9223372036854775808 ≤ hi D := by rw [dh]; omega
  have HD := Lib.hid hD
  clear hD hDw dh dl hDe hsp hsl hD1 hD2 e63 l3 l4
  -- the shifted number's words
  have v0 := w0_lt n
  have v1 := w1_lt n
  have v2 := w2_lt n
  have v3 := w3_lt n
  have h5 := DivP.five hs64 (words4 hn)
  have y3 := DivP.shr_lt hs64 v3
  have y2 := DivP.shr_lt hs64 v2
  have C2 := orI (a := w2 n) v1 hs64
  have C1 := orI (a := w1 n) v0 hs64
  have B2 := orI (a := w3 n) v2 hs64
  have z3 : w3 n * 2 ^ s % 18446744073709551616 + w2 n / 2 ^ (64 - s) < 18446744073709551616 := by
    have := or_lt (a := w3 n) v2 hs64
    exact this
  have z2 : w2 n * 2 ^ s % 18446744073709551616 + w1 n / 2 ^ (64 - s) < 18446744073709551616 := or_lt (a := w2 n) v1 hs64
  have z1 : w1 n * 2 ^ s % 18446744073709551616 + w0 n / 2 ^ (64 - s) < 18446744073709551616 := or_lt (a := w1 n) v0 hs64
  obtain ⟨m2, hm2⟩ : ∃ m, m = w2 n * 2 ^ s % 18446744073709551616 + w1 n / 2 ^ (64 - s) := ⟨_, rfl⟩
  obtain ⟨m1, hm1⟩ : ∃ m, m = w1 n * 2 ^ s % 18446744073709551616 + w0 n / 2 ^ (64 - s) := ⟨_, rfl⟩
  obtain ⟨m0, hm0⟩ : ∃ m, m = w0 n * 2 ^ s % 18446744073709551616 := ⟨_, rfl⟩
  obtain ⟨x3, hx3⟩ : ∃ m, m = w3 n * 2 ^ s % 18446744073709551616 + w2 n / 2 ^ (64 - s) := ⟨_, rfl⟩
  obtain ⟨c3, hc3⟩ : ∃ m, m = w3 n / 2 ^ (64 - s) := ⟨_, rfl⟩
  rw [← hm2, ← hm1, ← hm0, ← hx3, ← hc3] at h5
  rw [← hm2] at C2 z2
  rw [← hm1] at C1 z1
  rw [← hx3] at B2 z3
  rw [← hc3] at y3
  have C0 : IntKind.u64.wrap ((w0 n : Int) * 2 ^ s) = (m0 : Int) := by rw [shl_mod, hm0]
  have B1 : (w3 n : Int) / 2 ^ (64 - s) = (c3 : Int) := by rw [shr_eq, hc3]
  have z0 : m0 < 18446744073709551616 := by rw [hm0]; exact Nat.mod_lt _ (by decide)
  clear hm2 hm1 hm0 hx3 hc3 y2
  obtain ⟨T0, hT0⟩ : ∃ T, T = c3 * 18446744073709551616 + x3 := ⟨_, rfl⟩
  obtain ⟨t0h, t0l⟩ := of_words (h := c3) (l := x3) z3
  rw [← hT0] at t0h t0l h5
  have k0 : T0 < D := by
    have hh1 := hilo D
    have : 2 ^ s ≤ 2 ^ 63 := Nat.pow_le_pow_right (by decide) hs63
    rw [hT0]; omega
  rw [← t0h] at B1
  rw [← t0l] at B2
  have hD0 : 0 < hi D := by omega
  have hDp : 0 < D := by omega
  obtain ⟨q2, g2⟩ : ∃ a, a = (T0 * 18446744073709551616 + m2) / D := ⟨_, rfl⟩
  obtain ⟨T1, u1⟩ : ∃ a, a = (T0 * 18446744073709551616 + m2) % D := ⟨_, rfl⟩
  have k1 : T1 < D := by rw [u1]; exact Nat.mod_lt _ hDp
  have j2 : q2 ≤ 18446744073709551615 := by rw [g2]; exact three_top k0 z2
  have r2 : T0 * 18446744073709551616 + m2 = q2 * D + T1 := by rw [g2, u1]; exact (Nat.div_add_mod' _ _).symm
  obtain ⟨q1, g1⟩ : ∃ a, a = (T1 * 18446744073709551616 + m1) / D := ⟨_, rfl⟩
  obtain ⟨T2, u2⟩ : ∃ a, a = (T1 * 18446744073709551616 + m1) % D := ⟨_, rfl⟩
  have k2 : T2 < D := by rw [u2]; exact Nat.mod_lt _ hDp
  have j1 : q1 ≤ 18446744073709551615 := by rw [g1]; exact three_top k1 z1
  have r1 : T1 * 18446744073709551616 + m1 = q1 * D + T2 := by rw [g1, u2]; exact (Nat.div_add_mod' _ _).symm
  obtain ⟨q0, g0⟩ : ∃ a, a = (T2 * 18446744073709551616 + m0) / D := ⟨_, rfl⟩
  obtain ⟨T3, u3⟩ : ∃ a, a = (T2 * 18446744073709551616 + m0) % D := ⟨_, rfl⟩
  have k3 : T3 < D := by rw [u3]; exact Nat.mod_lt _ hDp
  have j0 : q0 ≤ 18446744073709551615 := by rw [g0]; exact three_top k2 z0
  have r0 : T2 * 18446744073709551616 + m0 = q0 * D + T3 := by rw [g0, u3]; exact (Nat.div_add_mod' _ _).symm
  have key := DivP.chain K2 K3 h5 r2 r1 r0
  rw [HD.out] at key k3
  obtain ⟨fq, fr⟩ := DivM.fin hp key k3
  rw [← hR0] at fr
  obtain ⟨p1, p2⟩ := DivP.shr_words (V := T3) hs64
  have F1 : (hi T3 : Int) / 2 ^ s = (hi R : Int) := by rw [shr_eq, ← fr]; exact congrArg Nat.cast p1.symm
  have F2 : bits .or .u64 ((lo T3 : Int) / 2 ^ s) (IntKind.u64.wrap ((hi T3 : Int) * 2 ^ (64 - s))) = (lo R : Int) := by
    have hl3 := DivP.shr_lt (x := lo T3) (s := 64 - s) (by omega) (lo_lt T3)
    rw [show 64 - (64 - s) = s by omega] at hl3
    rw [shr_eq, shl_mod, or_mod' hl3 (by omega), ← fr]
    exact congrArg Nat.cast ((Nat.add_comm _ _).trans p2.symm)
  have hL : num4 q0 q1 q2 0 = n / d := by rw [← fq]; unfold num4; omega
  have HL : .agg #[.int .u64 (q0 : Int), .int .u64 (q1 : Int), .int .u64 (q2 : Int), .int .u64 0] = L (n / d) := by
    rw [← hL]; exact (L_num4 (a := q0) (b := q1) (c := q2) (d := 0) (by omega) (by omega) (by omega) (by decide)).symm
  have HL' := Lib.hid HL
  have h2' := Lib.hid g2; have h1' := Lib.hid g1; have h0' := Lib.hid g0
  have i1 := Lib.hid u1; have i2 := Lib.hid u2; have i3 := Lib.hid u3
  clear h5 key k3 fq fr p1 p2 hL HL g2 g1 g0 u1 u2 u3 r2 r1 r0 e64 hp hT0 t0h t0l y3 z3 j0 j1 j2 hR0 hDh hDp
  go_enter Tryz.func110, Tryz.ntmps110
  go_wp2_with (first
    | (go_at_call 113; (with_reducible refine (Tryz.bits_LeadingZeros64 (hi d) _ (by omega) (by omega)).mono ?_); rintro e w1 ⟨rfl, rfl⟩; rw [Int.toNat_natCast, HS.out])
    | (go_at_call 114; ((with_reducible refine (divThree_any T0 m2 D q2 T1 h2'.out i1.out k0 hDB z2 hD0 _).mono ?_); rintro e w1 ⟨rfl, hb1⟩; obtain ⟨os1, d1, rfl⟩ := ext_of_below hb1; clear hb1))
    | (go_at_call 114; ((with_reducible refine (divThree_any T1 m1 D q1 T2 h1'.out i2.out k1 hDB z1 hD0 _).mono ?_); rintro e w1 ⟨rfl, hb1⟩; obtain ⟨os1, d1, rfl⟩ := ext_of_below hb1; clear hb1))
    | (go_at_call 114; ((with_reducible refine (divThree_any T2 m0 D q0 T3 h0'.out i3.out k2 hDB z0 hD0 _).mono ?_); rintro e w1 ⟨rfl, hb1⟩; obtain ⟨os1, d1, rfl⟩ := ext_of_below hb1; clear hb1)))
  clear h2' h1' h0' i1 i2 i3 HD HS C2 C1 C0 B1 B2 A1 A2 v0 v1 v2 v3 z0 z1 z2
  go_region
  all_goals
    go_wp2
    go_returns
    exact ⟨by rw [← HL'.out], by (repeat' (first | (with_reducible first | exact Below.refl _ _ | assumption | refine Below.alloc ?_ ?_ _ | refine below_drewN ?_ _ | refine below_drew ?_ | refine below_ext ?_ ?_ _ _ | refine Below.setCell ?_ ?_ _) | (simp; done) | (simp; omega) | omega))⟩
end Go.Proofs.YtalahkincccffaaGreatDoor
