/-
  The document's decimals: Shift of any number, Form, make.
  The document's decimals: make, Fit.
  The document's decimals: units, sums of signed sizes, the order.
  The document's decimals: Neg, Abs, Add, Sub, Mul, Make, the order.
  The document's decimals: what is not in form; Neg, Abs, Sub, Cmp.
-/
import Derived.Test.YtjkallelniggpaaGreatDoorBd
import Derived.Test.YtjkallelniggpaaGreatDoorDecOne
import Derived.Test.YtjkallelniggpaaGreatDoorDecTwo
namespace Go.Proofs.YtjkallelniggpaaGreatDoor
open Go.RowKit Num Word
attribute [local go_sem] setCell_drewN cell?_ext frozen?_ext shape?_ext setCell_ext lt_1' ne_1' en_1' le_1' lt_2' ne_2' en_2' le_2' lt_3' ne_3' en_3' le_3' lt_4' ne_4' en_4' le_4' lt_5' ne_5' en_5' le_5' lt_6' ne_6' en_6' le_6' lt_7' ne_7' en_7' le_7' lt_8' ne_8' en_8' le_8' lt_9' ne_9' en_9' le_9' lt_10' ne_10' en_10' le_10' lt_11' ne_11' en_11' le_11' lt_12' ne_12' en_12' le_12'

theorem len34 (c : Nat) : (dg c).length ≤ 34 ↔ c < 10 ^ 34 := dg_len_le
theorem len_zero (c : Nat) : (dg c).length = 0 ↔ c = 0 := by
  rcases Nat.eq_zero_or_pos c with h | h
  · subst h; rw [dg_zero]; simp
  · rw [dg_pos h]; simp; omega
end Go.Proofs.YtjkallelniggpaaGreatDoor
namespace Go.Proofs.YtjkallelniggpaaGreatDoor
open Go.RowKit Num Word
attribute [local go_sem] setCell_drewN cell?_ext frozen?_ext shape?_ext setCell_ext lt_1' ne_1' en_1' le_1' lt_2' ne_2' en_2' le_2' lt_3' ne_3' en_3' le_3' lt_4' ne_4' en_4' le_4' lt_5' ne_5' en_5' le_5' lt_6' ne_6' en_6' le_6' lt_7' ne_7' en_7' le_7' lt_8' ne_8' en_8' le_8' lt_9' ne_9' en_9' le_9' lt_10' ne_10' en_10' le_10' lt_11' ne_11' en_11' le_11' lt_12' ne_12' en_12' le_12'

theorem dg_tail (n : Nat) : (dg n).drop 1 = dg (n / 10) := by
  have := dg_drop n 1
  rwa [Nat.pow_one] at this
theorem dg_len_pos {n : Nat} (h : 0 < n) : 0 < (dg n).length := by rw [dg_pos h]; simp
theorem dg_len_two {n : Nat} (h : 10 ≤ n) : 1 < (dg n).length := dg_len_lt.2 (by rwa [Nat.pow_one])
theorem shift_len {n k m : Nat} (h : (dg n).length ≤ m) : (dg (n * 10 ^ k)).length ≤ m + k := dg_len_le.2 (by
  rw [Nat.pow_add]
  exact Nat.mul_lt_mul_of_pos_right (dg_len_le.1 h) (Nat.pow_pos (by decide)))
end Go.Proofs.YtjkallelniggpaaGreatDoor
namespace Go.Proofs.YtjkallelniggpaaGreatDoor
open Go.RowKit Num Word
attribute [local go_sem] setCell_drewN cell?_ext frozen?_ext shape?_ext setCell_ext lt_1' ne_1' en_1' le_1' lt_2' ne_2' en_2' le_2' lt_3' ne_3' en_3' le_3' lt_4' ne_4' en_4' le_4' lt_5' ne_5' en_5' le_5' lt_6' ne_6' en_6' le_6' lt_7' ne_7' en_7' le_7' lt_8' ne_8' en_8' le_8' lt_9' ne_9' en_9' le_9' lt_10' ne_10' en_10' le_10' lt_11' ne_11' en_11' le_11' lt_12' ne_12' en_12' le_12'

theorem uni_lt {c S : Nat} (hc : c < 10 ^ 34) : Fit.uni c S < 10 ^ 52 := by
  have h1 : 10 ^ (18 - S) ≤ 10 ^ 18 := Nat.pow_le_pow_right (by decide) (by omega)
  have h2 : c * 10 ^ (18 - S) ≤ c * 10 ^ 18 := Nat.mul_le_mul_left _ h1
  have h3 : c * 10 ^ 18 < 10 ^ 34 * 10 ^ 18 := Nat.mul_lt_mul_of_pos_right hc (Fit.pp _)
  have h4 : 10 ^ 34 * 10 ^ 18 = 10 ^ 52 := rfl
  unfold Fit.uni
  omega
theorem len_lt {x : Nat} (h : x < 10 ^ 60) : (dg x).length ≤ 60 := dg_len_le.2 h
end Go.Proofs.YtjkallelniggpaaGreatDoor
namespace Go.Proofs.YtjkallelniggpaaGreatDoor
open Go.RowKit Num Word
attribute [local go_sem] setCell_drewN cell?_ext frozen?_ext shape?_ext setCell_ext lt_1' ne_1' en_1' le_1' lt_2' ne_2' en_2' le_2' lt_3' ne_3' en_3' le_3' lt_4' ne_4' en_4' le_4' lt_5' ne_5' en_5' le_5' lt_6' ne_6' en_6' le_6' lt_7' ne_7' en_7' le_7' lt_8' ne_8' en_8' le_8' lt_9' ne_9' en_9' le_9' lt_10' ne_10' en_10' le_10' lt_11' ne_11' en_11' le_11' lt_12' ne_12' en_12' le_12'

theorem p10_len18 : (dg (10 ^ 18)).length ≤ 19 := dg_len_le.2 (by decide)
theorem sum_lt {an bn : Bool} {a b : Nat} (ha : a < 10 ^ 52) (hb : b < 10 ^ 52) : (Fit.sumN an a bn b).2 < 10 ^ 60 := by
  have h : 10 ^ 52 + 10 ^ 52 < 10 ^ 60 := by decide
  unfold Fit.sumN
  split
  · show a + b < _; omega
  · split
    · show a - b < _; omega
    · show b - a < _; omega
end Go.Proofs.YtjkallelniggpaaGreatDoor
namespace Go.Proofs.YtjkallelniggpaaGreatDoor
open Go.RowKit Num Word
attribute [local go_sem] setCell_drewN cell?_ext frozen?_ext shape?_ext setCell_ext lt_1' ne_1' en_1' le_1' lt_2' ne_2' en_2' le_2' lt_3' ne_3' en_3' le_3' lt_4' ne_4' en_4' le_4' lt_5' ne_5' en_5' le_5' lt_6' ne_6' en_6' le_6' lt_7' ne_7' en_7' le_7' lt_8' ne_8' en_8' le_8' lt_9' ne_9' en_9' le_9' lt_10' ne_10' en_10' le_10' lt_11' ne_11' en_11' le_11' lt_12' ne_12' en_12' le_12'

/-- the document's order is the program's -/
theorem ord_same {na nb : Bool} {x y : Nat} (h : ¬ na = nb → 0 < x + y) :
    ordV na x nb y = if (Fit.sumN na x (!nb) y).2 = 0 then 0 else if (Fit.sumN na x (!nb) y).1 = true then -1 else 1 := by
  have key : ∀ (p : Bool × Nat) (r : Int), ordV na x nb y = r → Fit.sumN na x (!nb) y = p → r = (if p.2 = 0 then 0 else if p.1 = true then -1 else 1) → ordV na x nb y = if (Fit.sumN na x (!nb) y).2 = 0 then 0 else if (Fit.sumN na x (!nb) y).1 = true then -1 else 1 := by
    intro p r h1 h2 h3
    rw [h1, h2, h3]
  cases na <;> cases nb
  · rcases Nat.lt_trichotomy x y with hlt | rfl | hlt
    · exact key (true, y - x) (-1) (by unfold ordV cmpv; rw [if_pos rfl, if_neg (by decide), if_pos hlt]) (by unfold Fit.sumN; rw [if_neg (by decide), if_neg (by omega)]; rfl) (by rw [if_neg (by show ¬ y - x = 0; omega), if_pos rfl])
    · exact key (false, x - x) 0 (by unfold ordV cmpv; rw [if_pos rfl, if_neg (by decide), if_neg (by omega), if_neg (by omega)]) (by unfold Fit.sumN; rw [if_neg (by decide), if_pos (by omega)]) (by rw [if_pos (by show x - x = 0; omega)])
    · exact key (false, x - y) 1 (by unfold ordV cmpv; rw [if_pos rfl, if_neg (by decide), if_neg (by omega), if_pos hlt]) (by unfold Fit.sumN; rw [if_neg (by decide), if_pos (by omega)]) (by rw [if_neg (by show ¬ x - y = 0; omega), if_neg (fun h => nomatch h)])
  · have h0 := h (by decide)
    exact key (false, x + y) 1 (by unfold ordV; rw [if_neg (by decide), if_neg (by decide)]) (by unfold Fit.sumN; rw [if_pos (by decide)]) (by rw [if_neg (by show ¬ x + y = 0; omega), if_neg (fun h => nomatch h)])
  · have h0 := h (by decide)
    exact key (true, x + y) (-1) (by unfold ordV; rw [if_neg (by decide), if_pos rfl]) (by unfold Fit.sumN; rw [if_pos (by decide)]) (by rw [if_neg (by show ¬ x + y = 0; omega), if_pos rfl])
  · rcases Nat.lt_trichotomy x y with hlt | rfl | hlt
    · exact key (false, y - x) 1 (by unfold ordV cmpv; rw [if_pos rfl, if_pos rfl, if_pos hlt]; rfl) (by unfold Fit.sumN; rw [if_neg (by decide), if_neg (by omega)]; rfl) (by rw [if_neg (by show ¬ y - x = 0; omega), if_neg (fun h => nomatch h)])
    · exact key (true, x - x) 0 (by unfold ordV cmpv; rw [if_pos rfl, if_pos rfl, if_neg (by omega), if_neg (by omega)]; rfl) (by unfold Fit.sumN; rw [if_neg (by decide), if_pos (by omega)]) (by rw [if_pos (by show x - x = 0; omega)])
    · exact key (true, x - y) (-1) (by unfold ordV cmpv; rw [if_pos rfl, if_pos rfl, if_neg (by omega), if_pos hlt]) (by unfold Fit.sumN; rw [if_neg (by decide), if_pos (by omega)]) (by rw [if_neg (by show ¬ x - y = 0; omega), if_pos rfl])
end Go.Proofs.YtjkallelniggpaaGreatDoor
