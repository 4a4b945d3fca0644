/-
  Plain facts about the words of a difference, and about the two halves of four words: no program stands in this text.
-/
import Derived.Test.YtjkallelniggpaaDoorWord
namespace Go.Proofs.YtjkallelniggpaaDoor.Word

/-- the borrow into word k of a difference -/
def bor (a b : Nat) : Nat → Nat
  | 0 => 0
  | 1 => difHi (w0 a) (w0 b) 0
  | 2 => difHi (w1 a) (w1 b) (difHi (w0 a) (w0 b) 0)
  | 3 => difHi (w2 a) (w2 b) (difHi (w1 a) (w1 b) (difHi (w0 a) (w0 b) 0))
  | _ => difHi (w3 a) (w3 b) (difHi (w2 a) (w2 b) (difHi (w1 a) (w1 b) (difHi (w0 a) (w0 b) 0)))
theorem bor_le (a b k : Nat) : bor a b k ≤ 1 := by
  unfold bor; split
  · omega
  · exact difHi_le _ _ _
  · exact difHi_le _ _ _
  · exact difHi_le _ _ _
  · exact difHi_le _ _ _
theorem difEq {x y c : Nat} (hx : x < 18446744073709551616) (hy : y < 18446744073709551616) (hc : c ≤ 1) : x + difHi x y c * 18446744073709551616 = difLo x y c + y + c := by
  unfold difLo difHi
  split <;> omega
theorem dif_all {a b : Nat} (ha : a < top4) (hb : b < top4) (h : b ≤ a) :
    w0 (a - b) = difLo (w0 a) (w0 b) 0 ∧ w1 (a - b) = difLo (w1 a) (w1 b) (bor a b 1) ∧ w2 (a - b) = difLo (w2 a) (w2 b) (bor a b 2) ∧ w3 (a - b) = difLo (w3 a) (w3 b) (bor a b 3) := by
  have e0 := difEq (w0_lt a) (w0_lt b) (Nat.zero_le 1)
  have e1 := difEq (w1_lt a) (w1_lt b) (bor_le a b 1)
  have e2 := difEq (w2_lt a) (w2_lt b) (bor_le a b 2)
  have e3 := difEq (w3_lt a) (w3_lt b) (bor_le a b 3)
  have c1 : difHi (w0 a) (w0 b) 0 = bor a b 1 := rfl
  have c2 : difHi (w1 a) (w1 b) (bor a b 1) = bor a b 2 := rfl
  have c3 : difHi (w2 a) (w2 b) (bor a b 2) = bor a b 3 := rfl
  have c4 : difHi (w3 a) (w3 b) (bor a b 3) = bor a b 4 := rfl
  rw [c1] at e0
  rw [c2] at e1
  rw [c3] at e2
  rw [c4] at e3
  have l0 := difLo_lt (w0 a) (w0 b) 0
  have l1 := difLo_lt (w1 a) (w1 b) (bor a b 1)
  have l2 := difLo_lt (w2 a) (w2 b) (bor a b 2)
  have l3 := difLo_lt (w3 a) (w3 b) (bor a b 3)
  have b4 := bor_le a b 4
  have wa := words4 ha
  have wb := words4 hb
  have key := of_words4 l0 l1 l2 l3
  clear c1 c2 c3 c4
  generalize bor a b 1 = c1 at *
  generalize bor a b 2 = c2 at *
  generalize bor a b 3 = c3 at *
  generalize bor a b 4 = c4 at *
  generalize difLo (w0 a) (w0 b) 0 = s0 at *
  generalize difLo (w1 a) (w1 b) c1 = s1 at *
  generalize difLo (w2 a) (w2 b) c2 = s2 at *
  generalize difLo (w3 a) (w3 b) c3 = s3 at *
  obtain ⟨k0, k1, k2, k3, k4⟩ := key
  have hs : a - b = s0 + s1 * 18446744073709551616 + s2 * 340282366920938463463374607431768211456 + s3 * 6277101735386680763835789423207666416102355444464034512896 := by
    clear k0 k1 k2 k3
    unfold top4 at *
    omega
  rw [hs]
  exact ⟨k0, k1, k2, k3⟩
theorem halves {n : Nat} (h : n < top4) : hi (n / 340282366920938463463374607431768211456) = w3 n ∧ lo (n / 340282366920938463463374607431768211456) = w2 n ∧ hi (n % 340282366920938463463374607431768211456) = w1 n ∧ lo (n % 340282366920938463463374607431768211456) = w0 n ∧ n / 340282366920938463463374607431768211456 < top2 ∧ n % 340282366920938463463374607431768211456 < top2 := by
  have h1 := words4 h
  have l0 := w0_lt n
  have l1 := w1_lt n
  have l2 := w2_lt n
  have l3 := w3_lt n
  generalize w0 n = a at *
  generalize w1 n = b at *
  generalize w2 n = c at *
  generalize w3 n = d at *
  obtain ⟨X, hX⟩ : ∃ X, X = c + d * 18446744073709551616 := ⟨_, rfl⟩
  obtain ⟨Y, hY⟩ : ∃ Y, Y = a + b * 18446744073709551616 := ⟨_, rfl⟩
  have e1 : n / 340282366920938463463374607431768211456 = X := by omega
  have e2 : n % 340282366920938463463374607431768211456 = Y := by omega
  rw [e1, e2]
  unfold hi lo top2
  clear e1 e2 h1 h
  omega
end Go.Proofs.YtjkallelniggpaaDoor.Word
