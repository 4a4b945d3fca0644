/-
  Plain facts under a division of two words by one: numbers, no program.
-/
namespace Go.Proofs.YtjkallelniggpaaDoor.DivM
theorem fin {N Q y V P : Nat} (hP : 0 < P) (h : N * P = Q * (y * P) + V) (hV : V < y * P) : Q = N / y ∧ V / P = N % y := by
  have h1 : Q * y * P ≤ N * P := by rw [h, ← Nat.mul_assoc]; omega
  have h2 : Q * y ≤ N := Nat.le_of_mul_le_mul_right h1 hP
  obtain ⟨v, hv⟩ : ∃ v, N = Q * y + v := ⟨N - Q * y, by omega⟩
  have h3 : V = v * P := by
    have : N * P = Q * y * P + v * P := by rw [hv, Nat.add_mul]
    rw [← Nat.mul_assoc] at h
    omega
  have h4 : v < y := by
    rw [h3] at hV
    exact Nat.lt_of_mul_lt_mul_right hV
  have hy : 0 < y := by omega
  rw [h3, Nat.mul_div_cancel _ hP, hv]
  constructor
  · rw [Nat.mul_comm, Nat.mul_add_div hy, Nat.div_eq_of_lt h4]; omega
  · rw [Nat.mul_comm, Nat.mul_add_mod, Nat.mod_eq_of_lt h4]
/-- what s bits of shift do to the two words h, l and the divisor y -/
theorem norm {h l y s : Nat} (hs : s ≤ 63) (hy1 : 2 ^ (63 - s) ≤ y) (hy2 : y < 2 ^ (64 - s)) (hh : h < y) (hl : l < 18446744073709551616) :
    9223372036854775808 ≤ y * 2 ^ s ∧ y * 2 ^ s < 18446744073709551616 ∧ h * 2 ^ s < 18446744073709551616 ∧ l / 2 ^ (64 - s) < 2 ^ s ∧
    h * 2 ^ s + l / 2 ^ (64 - s) < y * 2 ^ s ∧ (h * 18446744073709551616 + l) * 2 ^ s = (h * 2 ^ s + l / 2 ^ (64 - s)) * 18446744073709551616 + l * 2 ^ s % 18446744073709551616 := by
  have e64 : 2 ^ (64 - s) * 2 ^ s = 18446744073709551616 := by rw [← Nat.pow_add, show 64 - s + s = 64 by omega]
  have e63 : 2 ^ (63 - s) * 2 ^ s = 9223372036854775808 := by rw [← Nat.pow_add, show 63 - s + s = 63 by omega]
  have hp : 0 < 2 ^ s := Nat.two_pow_pos s
  have hp2 : 0 < 2 ^ (64 - s) := Nat.two_pow_pos _
  have a1 : 9223372036854775808 ≤ y * 2 ^ s := by rw [← e63]; exact Nat.mul_le_mul_right _ hy1
  have a2 : y * 2 ^ s < 18446744073709551616 := by rw [← e64]; exact Nat.mul_lt_mul_of_pos_right hy2 hp
  have a3 : (h + 1) * 2 ^ s ≤ y * 2 ^ s := Nat.mul_le_mul_right _ hh
  rw [Nat.add_mul, Nat.one_mul] at a3
  have a4 : l / 2 ^ (64 - s) < 2 ^ s := by
    rw [Nat.div_lt_iff_lt_mul hp2, Nat.mul_comm, e64]; exact hl
  refine ⟨a1, a2, by omega, a4, by omega, ?_⟩
  have a5 : l * 2 ^ s = l / 2 ^ (64 - s) * 18446744073709551616 + l % 2 ^ (64 - s) * 2 ^ s := by
    have := Nat.div_add_mod l (2 ^ (64 - s))
    calc l * 2 ^ s = (2 ^ (64 - s) * (l / 2 ^ (64 - s)) + l % 2 ^ (64 - s)) * 2 ^ s := by rw [this]
      _ = _ := by rw [Nat.add_mul, Nat.mul_right_comm, e64, Nat.mul_comm 18446744073709551616]
  have a6 : l % 2 ^ (64 - s) * 2 ^ s < 18446744073709551616 := by
    rw [← e64]; exact Nat.mul_lt_mul_of_pos_right (Nat.mod_lt _ hp2) hp
  have a7 : l * 2 ^ s % 18446744073709551616 = l % 2 ^ (64 - s) * 2 ^ s := by rw [a5]; omega
  rw [a7, Nat.add_mul, Nat.add_mul, a5, Nat.mul_right_comm h]
  omega
/-- two halves of a quotient -/
theorem halvesK {X z1 z0 Y q u q0 v K : Nat} (h1 : X * K + z1 = q * Y + u) (h2 : u * K + z0 = q0 * Y + v) :
    X * K * K + (z1 * K + z0) = (q * K + q0) * Y + v := by
  have e1 : (X * K + z1) * K = (q * Y + u) * K := by rw [h1]
  have e2 : (q * K + q0) * Y = q * Y * K + q0 * Y := by rw [Nat.add_mul, Nat.mul_right_comm q]
  rw [Nat.add_mul, Nat.add_mul] at e1
  rw [e2]
  omega
theorem halves {X z1 z0 Y q u q0 v : Nat} (h1 : X * 4294967296 + z1 = q * Y + u) (h2 : u * 4294967296 + z0 = q0 * Y + v) :
    X * 18446744073709551616 + (z1 * 4294967296 + z0) = (q * 4294967296 + q0) * Y + v := by
  have h := halvesK h1 h2
  rw [Nat.mul_assoc X, show 4294967296 * 4294967296 = 18446744073709551616 from rfl] at h
  exact h
/-- a difference modulo the word is the true one where that is a word -/
theorem wrap_rest {a p z u : Nat} (h : a + z = p + u) (hu : u < 18446744073709551616) : ((((a % 18446744073709551616 : Nat) : Int) + (z : Int) - ((p % 18446744073709551616 : Nat) : Int)) % 18446744073709551616) = (u : Int) := by omega
theorem quo_le {X z Y : Nat} (hz : z < 4294967296) (hX : X < Y) : (X * 4294967296 + z) / Y < 4294967296 := by
  rw [Nat.div_lt_iff_lt_mul (by omega)]
  have : (X + 1) * 4294967296 ≤ Y * 4294967296 := Nat.mul_le_mul_right _ hX
  rw [Nat.mul_comm]
  omega
end Go.Proofs.YtjkallelniggpaaDoor.DivM
