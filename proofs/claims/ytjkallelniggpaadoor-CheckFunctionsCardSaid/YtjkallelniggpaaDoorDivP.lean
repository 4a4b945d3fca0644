/-
  Plain facts under a division of four words by two: numbers, no program.
-/
namespace Go.Proofs.YtjkallelniggpaaDoor.DivP
theorem shl_split {x s : Nat} (hs : s ≤ 64) : x * 2 ^ s = x / 2 ^ (64 - s) * 18446744073709551616 + x * 2 ^ s % 18446744073709551616 := by
  have e : 2 ^ (64 - s) * 2 ^ s = 18446744073709551616 := by rw [← Nat.pow_add, show 64 - s + s = 64 by omega]
  have h : x * 2 ^ s / 18446744073709551616 = x / 2 ^ (64 - s) := by
    rw [← e]; exact Nat.mul_div_mul_right _ _ (Nat.two_pow_pos s)
  rw [← h]
  exact (Nat.div_add_mod' _ _).symm
theorem shr_lt {x s : Nat} (hs : s ≤ 64) (hx : x < 18446744073709551616) : x / 2 ^ (64 - s) < 2 ^ s := by
  have e : 2 ^ (64 - s) * 2 ^ s = 18446744073709551616 := by rw [← Nat.pow_add, show 64 - s + s = 64 by omega]
  rw [Nat.div_lt_iff_lt_mul (Nat.two_pow_pos _), Nat.mul_comm, e]; exact hx
theorem dist {n a0 a1 a2 a3 K K2 K3 P : Nat} (hn : a0 + a1 * K + a2 * K2 + a3 * K3 = n) : n * P = a0 * P + a1 * P * K + a2 * P * K2 + a3 * P * K3 := by
  subst hn
  rw [Nat.add_mul, Nat.add_mul, Nat.add_mul, Nat.mul_right_comm a1, Nat.mul_right_comm a2, Nat.mul_right_comm a3]
/-- a number of four words, shifted, in five words -/
theorem five {n a0 a1 a2 a3 s : Nat} (hs : s ≤ 64)
    (hn : a0 + a1 * 18446744073709551616 + a2 * 340282366920938463463374607431768211456 + a3 * 6277101735386680763835789423207666416102355444464034512896 = n) :
    n * 2 ^ s = (a3 / 2 ^ (64 - s) * 18446744073709551616 + (a3 * 2 ^ s % 18446744073709551616 + a2 / 2 ^ (64 - s))) * 6277101735386680763835789423207666416102355444464034512896 +
      (a2 * 2 ^ s % 18446744073709551616 + a1 / 2 ^ (64 - s)) * 340282366920938463463374607431768211456 + (a1 * 2 ^ s % 18446744073709551616 + a0 / 2 ^ (64 - s)) * 18446744073709551616 + a0 * 2 ^ s % 18446744073709551616 := by
  have h := dist (P := 2 ^ s) hn
  have s0 := shl_split (x := a0) hs
  have s1 := shl_split (x := a1) hs
  have s2 := shl_split (x := a2) hs
  have s3 := shl_split (x := a3) hs
  revert h s0 s1 s2 s3
  generalize a0 * 2 ^ s % 18446744073709551616 = r0
  generalize a1 * 2 ^ s % 18446744073709551616 = r1
  generalize a2 * 2 ^ s % 18446744073709551616 = r2
  generalize a3 * 2 ^ s % 18446744073709551616 = r3
  generalize a0 / 2 ^ (64 - s) = c0
  generalize a1 / 2 ^ (64 - s) = c1
  generalize a2 / 2 ^ (64 - s) = c2
  generalize a3 / 2 ^ (64 - s) = c3
  generalize a0 * 2 ^ s = p0
  generalize a1 * 2 ^ s = p1
  generalize a2 * 2 ^ s = p2
  generalize a3 * 2 ^ s = p3
  generalize n * 2 ^ s = p
  intro h s0 s1 s2 s3
  clear hn
  omega
theorem chain {N D K K2 K3 T0 T1 T2 T3 m2 m1 m0 q2 q1 q0 : Nat} (hK2 : K2 = K * K) (hK3 : K3 = K * K * K) (hn : N = T0 * K3 + m2 * K2 + m1 * K + m0)
    (h2 : T0 * K + m2 = q2 * D + T1) (h1 : T1 * K + m1 = q1 * D + T2) (h0 : T2 * K + m0 = q0 * D + T3) : N = (q0 + q1 * K + q2 * K2) * D + T3 := by
  subst hK2 hK3
  have e2 : (T0 * K + m2) * (K * K) = q2 * D * (K * K) + T1 * K * K := by rw [h2, Nat.add_mul, Nat.mul_assoc T1]
  have e1 : (T1 * K + m1) * K = q1 * D * K + T2 * K := by rw [h1, Nat.add_mul]
  have e3 : T0 * (K * K * K) = T0 * K * (K * K) := by rw [Nat.mul_assoc K, Nat.mul_assoc T0]
  have g : (q0 + q1 * K + q2 * (K * K)) * D = q0 * D + q1 * D * K + q2 * D * (K * K) := by
    rw [Nat.add_mul, Nat.add_mul, Nat.mul_right_comm q1, Nat.mul_right_comm q2]
  rw [Nat.add_mul] at e2 e1
  rw [g, hn, e3]
  omega
/-- the words of a number of two words divided by a power of two -/
theorem shr_words {V s : Nat} (hs : s ≤ 64) :
    V / 2 ^ s / 18446744073709551616 = V / 18446744073709551616 / 2 ^ s ∧
    V / 2 ^ s % 18446744073709551616 = V % 18446744073709551616 / 2 ^ s + V / 18446744073709551616 * 2 ^ (64 - s) % 18446744073709551616 := by
  have e : 2 ^ s * 2 ^ (64 - s) = 18446744073709551616 := by rw [← Nat.pow_add, show s + (64 - s) = 64 by omega]
  have hp : 0 < 2 ^ s := Nat.two_pow_pos s
  have h1 : V / 2 ^ s = V / 18446744073709551616 * 2 ^ (64 - s) + V % 18446744073709551616 / 2 ^ s := by
    have h := Nat.div_add_mod' V 18446744073709551616
    have h3 : V = V % 18446744073709551616 + 2 ^ s * (V / 18446744073709551616 * 2 ^ (64 - s)) := by
      rw [Nat.mul_left_comm, e]; omega
    have h4 : V / 2 ^ s = (V % 18446744073709551616 + 2 ^ s * (V / 18446744073709551616 * 2 ^ (64 - s))) / 2 ^ s := by rw [← h3]
    rw [h4, Nat.add_mul_div_left _ _ hp]; omega
  have h2 : V % 18446744073709551616 / 2 ^ s < 2 ^ (64 - s) := by
    rw [Nat.div_lt_iff_lt_mul hp, Nat.mul_comm, e]; exact Nat.mod_lt _ (by decide)
  constructor
  · rw [Nat.div_div_eq_div_mul, Nat.div_div_eq_div_mul, Nat.mul_comm]
  · have h5 := shl_split (x := V / 18446744073709551616) (s := 64 - s) (by omega)
    rw [show 64 - (64 - s) = s by omega] at h5
    rw [h1]
    have h6 : V / 18446744073709551616 * 2 ^ (64 - s) % 18446744073709551616 % 2 ^ (64 - s) = 0 := by
      have hd : 2 ^ (64 - s) ∣ 18446744073709551616 := ⟨2 ^ s, by rw [Nat.mul_comm, e]⟩
      rw [Nat.mod_mod_of_dvd _ hd, Nat.mul_mod_left]
    have h7 : V / 18446744073709551616 * 2 ^ (64 - s) % 18446744073709551616 + 2 ^ (64 - s) ≤ 18446744073709551616 := by
      have h8 : V / 18446744073709551616 * 2 ^ (64 - s) % 18446744073709551616 < 18446744073709551616 := Nat.mod_lt _ (by decide)
      generalize V / 18446744073709551616 * 2 ^ (64 - s) % 18446744073709551616 = a at *
      obtain ⟨b, hb⟩ := Nat.dvd_of_mod_eq_zero h6
      rw [hb, ← e, Nat.mul_comm (2 ^ s)] at h8
      have h9 : b < 2 ^ s := Nat.lt_of_mul_lt_mul_left h8
      have h10 : 2 ^ (64 - s) * (b + 1) ≤ 2 ^ (64 - s) * 2 ^ s := Nat.mul_le_mul_left _ h9
      rw [Nat.mul_add, Nat.mul_one, ← hb, Nat.mul_comm (2 ^ (64 - s)) (2 ^ s), e] at h10
      exact h10
    generalize V / 18446744073709551616 * 2 ^ (64 - s) = a at *
    generalize V % 18446744073709551616 / 2 ^ s = b at *
    generalize 2 ^ (64 - s) = c at *
    omega
end Go.Proofs.YtjkallelniggpaaDoor.DivP
