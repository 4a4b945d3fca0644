/-
  The contracts of wide.Digits and wide.Trim.
-/
import Derived.Test.YtjkallelniggpaaDoorRound
import Derived.Test.YtjkallelniggpaaDoorNum
namespace Go.Proofs.YtjkallelniggpaaDoor
open Go.RowKit Word
attribute [local go_sem] setCell_drewN cell?_ext frozen?_ext shape?_ext setCell_ext lt_1' ne_1' en_1' le_1' lt_2' ne_2' en_2' le_2' lt_3' ne_3' en_3' le_3' lt_4' ne_4' en_4' le_4' lt_5' ne_5' en_5' le_5' lt_6' ne_6' en_6' le_6' lt_7' ne_7' en_7' le_7' lt_8' ne_8' en_8' le_8' lt_9' ne_9' en_9' le_9' lt_10' ne_10' en_10' le_10' lt_11' ne_11' en_11' le_11' lt_12' ne_12' en_12' le_12'

theorem ext_drew3 (w : World) (a b c : Array Obj) (i j k : Nat) : ext (ext (ext w a i).drew b j) c k = ext w (a ++ b ++ c) k := by
  have : (ext w a i).drew = ext w a (i + 1) := rfl
  rw [this]; exact ext_ext3 _ _ _ _ _ _ _
/-- how many decimal digits, at least one -/
def nd (a : Nat) : Nat := max 1 (Num.dg a).length
theorem nd_is {a k : Nat} (hk : 1 ≤ k) (h1 : k = 1 ∨ 10 ^ (k - 1) ≤ a) (h2 : a < 10 ^ k) : nd a = k := by
  unfold nd
  have e1 : (Num.dg a).length ≤ k := Num.dg_len_le.2 h2
  rcases h1 with h1 | h1
  · omega
  · have := Num.dg_len_lt.2 h1
    omega
theorem top_lt : top2 < 10 ^ 39 := by unfold top2; decide
theorem div_ten (n q r : Nat) (hq : q = n / 10) (hr : r = n % 10) (hn : n < top4) (w : World) :
    Calls Tryd.prog 116 #[L n, .int .u64 10] w fun e w' => e = .returned (.tuple #[L q, .int .u64 (r : Int)]) ∧ Below w.heap.size w w' := by
  subst hq
  exact divWord_any n 10 r hr hn (by omega) (by omega) w
theorem two_words {q : Nat} (h : q < top2) : w1 q = hi q ∧ w0 q = lo q := by
  unfold w1 w0 hi lo top2 at *; omega
theorem word_ne {b : Nat} (h : 0 < b) : ((hi b : Int) == 0) = false ∨ (((hi b : Int) == 0) = true ∧ ((lo b : Int) == 0) = false) := by
  have h := hilo b
  by_cases h1 : hi b = 0
  · exact .inr ⟨by rw [h1]; rfl, beq_eq_false_iff_ne.2 (by omega)⟩
  · exact .inl (beq_eq_false_iff_ne.2 (by omega))
end Go.Proofs.YtjkallelniggpaaDoor
