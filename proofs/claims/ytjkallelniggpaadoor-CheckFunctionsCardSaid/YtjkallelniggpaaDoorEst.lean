/-
  Plain facts about the estimated digit of a long division: no program stands in this text.
-/
namespace Go.Proofs.YtjkallelniggpaaDoor.Est

/-- q * y1 + r = x; q isn't below the true digit of (x * B + z) / (y1 * B + y0), and above it by little. -/
structure Ok (B x z y1 y0 q r : Nat) : Prop where
  eq : q * y1 + r = x
  lo : (x * B + z) / (y1 * B + y0) ≤ q
  hi : q ≤ B + 1

theorem mul_split (q y1 y0 B : Nat) : q * (y1 * B + y0) = q * y1 * B + q * y0 := by
  rw [Nat.mul_add, Nat.mul_assoc]

theorem start {B x z y1 y0 : Nat} (hx : x < y1 * B + y0) (hy0 : y0 < B) (hB : B ≤ 2 * y1) (hz : z < B) : Ok B x z y1 y0 (x / y1) (x % y1) := by
  have h1 : 0 < y1 := by omega
  have hq : x / y1 ≤ B + 1 := by
    rw [← Nat.lt_succ_iff, Nat.div_lt_iff_lt_mul h1]
    have : (B + 1 + 1) * y1 = y1 * B + 2 * y1 := by rw [Nat.mul_comm, Nat.mul_add, Nat.mul_add]; omega
    show x < (B + 1 + 1) * y1
    omega
  refine ⟨by rw [Nat.mul_comm]; exact Nat.div_add_mod x y1, ?_, hq⟩
  have hpos : 0 < y1 * B + y0 := by omega
  rw [← Nat.lt_succ_iff, Nat.div_lt_iff_lt_mul hpos]
  have h2 : x < (x / y1 + 1) * y1 := by
    have := Nat.lt_div_mul_add h1 (a := x); rw [Nat.add_mul, Nat.one_mul]; exact this
  have h3 : (x + 1) * B ≤ (x / y1 + 1) * y1 * B := Nat.mul_le_mul_right _ h2
  have h4 : (x / y1).succ * (y1 * B + y0) = (x / y1 + 1) * y1 * B + (x / y1 + 1) * y0 := mul_split _ _ _ _
  rw [h4]
  rw [Nat.add_mul, Nat.one_mul] at h3
  omega

theorem test {B x z y1 y0 q r : Nat} (h : Ok B x z y1 y0 q r) : r * B + z < q * y0 ↔ x * B + z < q * (y1 * B + y0) := by
  rw [mul_split, ← h.eq, Nat.add_mul]
  omega

theorem lt_of_test {B x z y1 y0 q : Nat} (h : x * B + z < q * (y1 * B + y0)) : (x * B + z) / (y1 * B + y0) < q := by
  have hpos : 0 < y1 * B + y0 := by
    rcases Nat.eq_zero_or_pos (y1 * B + y0) with h0 | h0
    · rw [h0, Nat.mul_zero] at h; omega
    · exact h0
  rwa [Nat.div_lt_iff_lt_mul hpos]

theorem big {B x z y1 y0 q : Nat} (hx : x < y1 * B + y0) (hz : z < B) (hq : B ≤ q) : x * B + z < q * (y1 * B + y0) := by
  have h1 : (x + 1) * B ≤ (y1 * B + y0) * B := Nat.mul_le_mul_right _ hx
  have h2 : B * (y1 * B + y0) ≤ q * (y1 * B + y0) := Nat.mul_le_mul_right _ hq
  rw [Nat.mul_comm] at h2
  rw [Nat.add_mul, Nat.one_mul] at h1
  omega

theorem step {B x z y1 y0 q r : Nat} (h : Ok B x z y1 y0 q r) (ht : x * B + z < q * (y1 * B + y0)) : 1 ≤ q ∧ Ok B x z y1 y0 (q - 1) (r + y1) ∧ q - 1 ≤ B := by
  have h1 : _ + 1 ≤ q := lt_of_test ht
  have h2 := h.hi
  have h3 : 1 ≤ q := Nat.le_trans (Nat.le_add_left 1 _) h1
  refine ⟨h3, ⟨?_, Nat.le_sub_of_add_le h1, by omega⟩, by omega⟩
  have := h.eq
  obtain ⟨k, rfl⟩ : ∃ k, q = k + 1 := ⟨q - 1, by omega⟩
  rw [Nat.add_mul, Nat.one_mul] at this
  simp only [Nat.add_sub_cancel]
  omega

theorem done {B x z y1 y0 q r : Nat} (h : Ok B x z y1 y0 q r) (hp : 0 < y1 * B + y0) (ht : ¬ x * B + z < q * (y1 * B + y0)) : q = (x * B + z) / (y1 * B + y0) := by
  have h1 := h.lo
  have h2 : q ≤ (x * B + z) / (y1 * B + y0) := (Nat.le_div_iff_mul_le hp).2 (by omega)
  omega

theorem over {B x z y1 y0 q r : Nat} (h : Ok B x z y1 y0 q r) (hy0 : y0 < B) (hr : B ≤ r) (hq : q ≤ B) : ¬ x * B + z < q * (y1 * B + y0) := by
  rw [← test h]
  have h1 : q * y0 ≤ B * y0 := Nat.mul_le_mul_right _ hq
  have h2 : B * y0 ≤ B * B := Nat.mul_le_mul_left _ (by omega)
  have h3 : B * B ≤ r * B := Nat.mul_le_mul_right _ hr
  omega
end Go.Proofs.YtjkallelniggpaaDoor.Est
