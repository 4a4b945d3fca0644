/-
  The contract of wide.divWord: a number of four words divided by one word.
-/
import Derived.Test.YtjkallelniggpaaDoorDivSix
import Derived.Test.YtjkallelniggpaaDoorWideC
namespace Go.Proofs.YtjkallelniggpaaDoor
open Go.RowKit Word
attribute [local go_sem] setCell_drewN cell?_ext frozen?_ext shape?_ext setCell_ext lt_1' ne_1' en_1' le_1' lt_2' ne_2' en_2' le_2' lt_3' ne_3' en_3' le_3' lt_4' ne_4' en_4' le_4' lt_5' ne_5' en_5' le_5' lt_6' ne_6' en_6' le_6' lt_7' ne_7' en_7' le_7' lt_8' ne_8' en_8' le_8' lt_9' ne_9' en_9' le_9' lt_10' ne_10' en_10' le_10' lt_11' ne_11' en_11' le_11' lt_12' ne_12' en_12' le_12'

theorem dr_lt (h l : Nat) {d : Nat} (hd : 0 < d) : dr h l d < d := Nat.mod_lt _ hd
theorem dq_lt {h l d : Nat} (hh : h < d) (hl : l < 18446744073709551616) : dq h l d < 18446744073709551616 := by
  unfold dq
  rw [Nat.div_lt_iff_lt_mul (by omega)]
  have : (h + 1) * 18446744073709551616 ≤ d * 18446744073709551616 := Nat.mul_le_mul_right _ hh
  rw [Nat.mul_comm]
  omega
theorem dqr (h l d : Nat) : h * 18446744073709551616 + l = dq h l d * d + dr h l d := (Nat.div_add_mod' _ _).symm
theorem div_words_aux {n d K K2 K3 a0 a1 a2 a3 q0 q1 q2 q3 r0 r1 r2 r3 : Nat} (hK2 : K2 = K * K) (hK3 : K3 = K * K * K) (hn : a0 + a1 * K + a2 * K2 + a3 * K3 = n)
    (h3 : a3 = q3 * d + r3) (h2 : r3 * K + a2 = q2 * d + r2) (h1 : r2 * K + a1 = q1 * d + r1) (h0 : r1 * K + a0 = q0 * d + r0) :
    n = (q0 + q1 * K + q2 * K2 + q3 * K3) * d + r0 := by
  subst hK2 hK3
  have e3 : a3 * (K * K * K) = q3 * d * (K * K * K) + r3 * K * (K * K) := by rw [h3, Nat.add_mul, Nat.mul_assoc r3, Nat.mul_assoc K K K]
  have e2 : (r3 * K + a2) * (K * K) = q2 * d * (K * K) + r2 * K * K := by rw [h2, Nat.add_mul, Nat.mul_assoc r2]
  have e1 : (r2 * K + a1) * K = q1 * d * K + r1 * K := by rw [h1, Nat.add_mul]
  rw [Nat.add_mul] at e2 e1
  have g : (q0 + q1 * K + q2 * (K * K) + q3 * (K * K * K)) * d = q0 * d + q1 * d * K + q2 * d * (K * K) + q3 * d * (K * K * K) := by
    rw [Nat.add_mul, Nat.add_mul, Nat.add_mul, Nat.mul_right_comm q1, Nat.mul_right_comm q2, Nat.mul_right_comm q3]
  rw [g, ← hn]
  omega
theorem quo_rem {n d a r : Nat} (h : n = a * d + r) (hr : r < d) : a = n / d ∧ r = n % d := by
  have hd : 0 < d := by omega
  subst h
  constructor
  · rw [Nat.mul_comm, Nat.mul_add_div hd, Nat.div_eq_of_lt hr, Nat.add_zero]
  · rw [Nat.mul_comm, Nat.mul_add_mod, Nat.mod_eq_of_lt hr]
theorem K2 : 340282366920938463463374607431768211456 = 18446744073709551616 * 18446744073709551616 := rfl
theorem K3 : 6277101735386680763835789423207666416102355444464034512896 = 18446744073709551616 * 18446744073709551616 * 18446744073709551616 := rfl
/-- what is left (ρ) and the quotient's words (κ), place by place -/
theorem places {n d : Nat} (hn : n < top4) (hd : 0 < d) : ∃ ρ κ : Int → Nat, ρ 3 = 0 ∧ (dr (ρ 3) (w3 n) d = ρ 2 ∧ dr (ρ 2) (w2 n) d = ρ 1 ∧ dr (ρ 1) (w1 n) d = ρ 0 ∧ dr (ρ 0) (w0 n) d = ρ (-1)) ∧
    (dq (ρ 3) (w3 n) d = κ 3 ∧ dq (ρ 2) (w2 n) d = κ 2 ∧ dq (ρ 1) (w1 n) d = κ 1 ∧ dq (ρ 0) (w0 n) d = κ 0) ∧ (∀ q, ρ q < d) ∧ (∀ q, κ q < 18446744073709551616) ∧
    num4 (κ 0) (κ 1) (κ 2) (κ 3) = n / d ∧ ρ (-1) = n % d := by
  have h3 := dqr 0 (w3 n) d
  have g3 := dq_lt hd (w3_lt n)
  have l3 := dr_lt 0 (w3 n) hd
  obtain ⟨r3, e3⟩ : ∃ a, dr 0 (w3 n) d = a := ⟨_, rfl⟩
  obtain ⟨k3, f3⟩ : ∃ a, dq 0 (w3 n) d = a := ⟨_, rfl⟩
  rw [e3, f3, Nat.zero_mul, Nat.zero_add] at h3
  rw [f3] at g3
  rw [e3] at l3
  have h2 := dqr r3 (w2 n) d
  have g2 := dq_lt l3 (w2_lt n)
  have l2 := dr_lt r3 (w2 n) hd
  obtain ⟨r2, e2⟩ : ∃ a, dr r3 (w2 n) d = a := ⟨_, rfl⟩
  obtain ⟨k2, f2⟩ : ∃ a, dq r3 (w2 n) d = a := ⟨_, rfl⟩
  rw [e2, f2] at h2
  rw [f2] at g2
  rw [e2] at l2
  have h1 := dqr r2 (w1 n) d
  have g1 := dq_lt l2 (w1_lt n)
  have l1 := dr_lt r2 (w1 n) hd
  obtain ⟨r1, e1⟩ : ∃ a, dr r2 (w1 n) d = a := ⟨_, rfl⟩
  obtain ⟨k1, f1⟩ : ∃ a, dq r2 (w1 n) d = a := ⟨_, rfl⟩
  rw [e1, f1] at h1
  rw [f1] at g1
  rw [e1] at l1
  have h0 := dqr r1 (w0 n) d
  have g0 := dq_lt l1 (w0_lt n)
  have l0 := dr_lt r1 (w0 n) hd
  obtain ⟨r0, e0⟩ : ∃ a, dr r1 (w0 n) d = a := ⟨_, rfl⟩
  obtain ⟨k0, f0⟩ : ∃ a, dq r1 (w0 n) d = a := ⟨_, rfl⟩
  rw [e0, f0] at h0
  rw [f0] at g0
  rw [e0] at l0
  have key := div_words_aux K2 K3 (words4 hn) h3 h2 h1 h0
  obtain ⟨x1, x2⟩ := quo_rem key l0
  refine ⟨fun q => if q = 3 then 0 else if q = 2 then r3 else if q = 1 then r2 else if q = 0 then r1 else r0, fun q => if q = 3 then k3 else if q = 2 then k2 else if q = 1 then k1 else k0, ?_, ⟨?_, ?_, ?_, ?_⟩, ⟨?_, ?_, ?_, ?_⟩, ?_, ?_, ?_, ?_⟩
  · simp
  · simpa using e3
  · simpa using e2
  · simpa using e1
  · simpa using e0
  · simpa using f3
  · simpa using f2
  · simpa using f1
  · simpa using f0
  · intro q; dsimp only; split
    · exact hd
    · split
      · exact l3
      · split
        · exact l2
        · split
          · exact l1
          · exact l0
  · intro q; dsimp only; split
    · exact g3
    · split
      · exact g2
      · split
        · exact g1
        · exact g0
  · simpa [num4] using x1
  · simpa using x2
def qrow (κ : Int → Nat) : Int → Array Value
  | 3 => #[.int .u64 0, .int .u64 0, .int .u64 0, .int .u64 0]
  | 2 => #[.int .u64 0, .int .u64 0, .int .u64 0, .int .u64 (κ 3 : Int)]
  | 1 => #[.int .u64 0, .int .u64 0, .int .u64 (κ 2 : Int), .int .u64 (κ 3 : Int)]
  | 0 => #[.int .u64 0, .int .u64 (κ 1 : Int), .int .u64 (κ 2 : Int), .int .u64 (κ 3 : Int)]
  | _ => #[.int .u64 (κ 0 : Int), .int .u64 (κ 1 : Int), .int .u64 (κ 2 : Int), .int .u64 (κ 3 : Int)]
theorem ret_div {v v' : Value} {a b : Nat} (h1 : v = v') (h2 : a = b) : Ending.returned (.tuple #[v, .int .u64 (a : Int)]) = .returned (.tuple #[v', .int .u64 (b : Int)]) := by rw [h1, h2]
set_option maxHeartbeats 4000000 in
theorem divWord_any (n d r : Nat) (hr0 : r = n % d) (hn : n < top4) (h0 : 0 < d) (hd : d < 18446744073709551616) (w : World) :
    Calls Tryd.prog 116 #[L n, .int .u64 d] w fun e w' => e = .returned (.tuple #[L (n / d), .int .u64 (r : Int)]) ∧ Below w.heap.size w w' := by
  obtain ⟨ρ, κ, hz, ⟨R3, R2, R1, R0⟩, ⟨P3, P2, P1, P0⟩, hb, hc, e1, e2⟩ := places hn h0
  rw [← hr0] at e2
  clear hr0
  have HL : .agg #[.int .u64 (κ 0 : Int), .int .u64 (κ 1 : Int), .int .u64 (κ 2 : Int), .int .u64 (κ 3 : Int)] = L (n / d) := by
    rw [← e1]; exact (L_num4 (hc 0) (hc 1) (hc 2) (hc 3)).symm
  have HB := Lib.hid hb
  have HL' := Lib.hid HL
  have E2 := Lib.hid e2
  have HZ := Lib.hid hz
  clear HL e1 e2 hb hc hz
  go_enter Tryd.func116, Tryd.ntmps116
  go_wp2
  go_loopw [7, 8] (fun c i wr => ∃ (q : Int) (m : Nat), -1 ≤ q ∧ q ≤ 3 ∧ i = .int .i64 q ∧ c = .int .u64 (ρ q : Int) ∧ wr = (((w.alloc (.cells #[.int .u64 (w0 n : Int), .int .u64 (w1 n : Int), .int .u64 (w2 n : Int), .int .u64 (w3 n : Int)] 146)).alloc (.cells #[.int .u64 0, .int .u64 0, .int .u64 0, .int .u64 0] 146)).alloc (.cells (qrow κ q) 146)).drewN m)
    (fun _ i _ => (intOf i + 1).toNat)
  case atStart => exact ⟨3, 0, by omega, by omega, rfl, by rw [HZ.out]; rfl, rfl⟩
  case round =>
    obtain ⟨q, m, hk1, hk2, rfl, rfl, rfl⟩ := hrel
    have h5 : q = 3 ∨ q = 2 ∨ q = 1 ∨ q = 0 ∨ q = -1 := by omega
    clear hk1 hk2
    rcases h5 with rfl | rfl | rfl | rfl | rfl
    · simp only [qrow]
      go_wp2_with (go_at_call 119; (with_reducible refine (div64 (ρ 3) (w3 n) d (HB.out 3) hd (w3_lt n) _).mono ?_); rintro e w1 ⟨rfl, m1, rfl⟩)
      go_roundw
      case rel => exact ⟨2, _, by omega, by omega, rfl, rfl, rfl⟩
      case measure => simp [intOf]
    · simp only [qrow]
      go_wp2_with (go_at_call 119; (with_reducible refine (div64 (ρ 2) (w2 n) d (HB.out 2) hd (w2_lt n) _).mono ?_); rintro e w1 ⟨rfl, m1, rfl⟩)
      go_roundw
      case rel => exact ⟨1, _, by omega, by omega, rfl, rfl, rfl⟩
      case measure => simp [intOf]
    · simp only [qrow]
      go_wp2_with (go_at_call 119; (with_reducible refine (div64 (ρ 1) (w1 n) d (HB.out 1) hd (w1_lt n) _).mono ?_); rintro e w1 ⟨rfl, m1, rfl⟩)
      go_roundw
      case rel => exact ⟨0, _, by omega, by omega, rfl, rfl, rfl⟩
      case measure => simp [intOf]
    · simp only [qrow]
      go_wp2_with (go_at_call 119; (with_reducible refine (div64 (ρ 0) (w0 n) d (HB.out 0) hd (w0_lt n) _).mono ?_); rintro e w1 ⟨rfl, m1, rfl⟩)
      go_roundw
      case rel => exact ⟨-1, _, by omega, by omega, rfl, rfl, rfl⟩
      case measure => simp [intOf]
    · simp only [qrow]
      go_wp2
      go_returns
      exact ⟨ret_div HL'.out E2.out, below_drewN (by (repeat' (first | (with_reducible exact Below.refl _ _) | (with_reducible assumption) | (with_reducible refine Below.alloc ?_ ?_ _) | (with_reducible refine below_drewN ?_ _) | (with_reducible refine below_drew ?_) | (with_reducible refine below_ext ?_ ?_ _ _) | (with_reducible refine Below.setCell ?_ ?_ _) | (simp; done) | (simp; omega) | omega))) _⟩
end Go.Proofs.YtjkallelniggpaaDoor
