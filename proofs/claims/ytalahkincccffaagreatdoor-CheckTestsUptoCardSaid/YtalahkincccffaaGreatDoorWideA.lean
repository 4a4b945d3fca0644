/-
  Contracts of the small functions of package wide: long, addLong, cmpLong, less, power, and the sums of P1.1.
-/
import Derived.Test.YtalahkincccffaaGreatDoorBb
namespace Go.Proofs.YtalahkincccffaaGreatDoor
open Go.RowKit Word

attribute [local go_sem] setCell_drewN cell?_ext frozen?_ext shape?_ext setCell_ext lt_1' ne_1' en_1' le_1' lt_2' ne_2' en_2' le_2' lt_3' ne_3' en_3' le_3' lt_4' ne_4' en_4' le_4' lt_5' ne_5' en_5' le_5' lt_6' ne_6' en_6' le_6' lt_7' ne_7' en_7' le_7' lt_8' ne_8' en_8' le_8' lt_9' ne_9' en_9' le_9' lt_10' ne_10' en_10' le_10' lt_11' ne_11' en_11' le_11' lt_12' ne_12' en_12' le_12'

theorem long_any (n : Nat) (hn : n < top2) (w : World) :
    Calls Tryz.prog 108 #[W n] w fun e w' => e = .returned (L n) ∧ Below w.heap.size w w' := by
  obtain ⟨h0, h1, h2, h3⟩ := long_words hn
  have HL : L n = .agg #[.int .u64 (lo n : Int), .int .u64 (hi n : Int), .int .u64 0, .int .u64 0] := by simp only [L, h0, h1, h2, h3]; rfl
  rw [HL]
  clear h0 h1 h2 h3 HL
  go_enter Tryz.func108, Tryz.ntmps108
  go_wp2
  go_returns
  exact ⟨rfl, by go_grown⟩
def row (a b : Nat) : Nat → Array Value
  | 0 => #[.int .u64 0, .int .u64 0, .int .u64 0, .int .u64 0]
  | 1 => #[.int .u64 (sumLo (w0 a) (w0 b) (car a b 0)), .int .u64 0, .int .u64 0, .int .u64 0]
  | 2 => #[.int .u64 (sumLo (w0 a) (w0 b) (car a b 0)), .int .u64 (sumLo (w1 a) (w1 b) (car a b 1)), .int .u64 0, .int .u64 0]
  | 3 => #[.int .u64 (sumLo (w0 a) (w0 b) (car a b 0)), .int .u64 (sumLo (w1 a) (w1 b) (car a b 1)), .int .u64 (sumLo (w2 a) (w2 b) (car a b 2)), .int .u64 0]
  | _ => #[.int .u64 (sumLo (w0 a) (w0 b) (car a b 0)), .int .u64 (sumLo (w1 a) (w1 b) (car a b 1)), .int .u64 (sumLo (w2 a) (w2 b) (car a b 2)), .int .u64 (sumLo (w3 a) (w3 b) (car a b 3))]
theorem sum_L {a b : Nat} (ha : a < top4) (hb : b < top4) (hab : a + b < top4) :
    L (a + b) = .agg #[.int .u64 (sumLo (w0 a) (w0 b) (car a b 0)), .int .u64 (sumLo (w1 a) (w1 b) (car a b 1)), .int .u64 (sumLo (w2 a) (w2 b) (car a b 2)), .int .u64 (sumLo (w3 a) (w3 b) (car a b 3))] := by
  obtain ⟨h0, h1, h2, h3⟩ := sum_all ha hb hab
  simp only [L, h0, h1, h2, h3]; rfl
set_option maxHeartbeats 2000000 in
theorem addLong_any (a b : Nat) (ha : a < top4) (hb : b < top4) (hab : a + b < top4) (w : World) :
    Calls Tryz.prog 118 #[L a, L b] w fun e w' => e = .returned (L (a + b)) ∧ Below w.heap.size w w' := by
  go_enter Tryz.func118, Tryz.ntmps118
  go_wp2
  go_loopw [6, 8] (fun c i wr => ∃ k n : Nat, k ≤ 4 ∧ i = .int .i64 k ∧ c = .int .u64 (car a b k) ∧ wr = ((((w.alloc (.cells #[.int .u64 (w0 a : Int), .int .u64 (w1 a : Int), .int .u64 (w2 a : Int), .int .u64 (w3 a : Int)] 124)).alloc (.cells #[.int .u64 (w0 b : Int), .int .u64 (w1 b : Int), .int .u64 (w2 b : Int), .int .u64 (w3 b : Int)] 124)).alloc (.cells #[.int .u64 0, .int .u64 0, .int .u64 0, .int .u64 0] 124)).alloc (.cells (row a b k) 124)).drewN n)
    (fun _ i _ => 4 - (intOf i).toNat)
  case atStart => exact ⟨0, 0, by omega, rfl, rfl, rfl⟩
  case round =>
    obtain ⟨k, n, hk, rfl, rfl, rfl⟩ := hrel
    have h5 : k = 0 ∨ k = 1 ∨ k = 2 ∨ k = 3 ∨ k = 4 := by omega
    clear hk
    rcases h5 with rfl | rfl | rfl | rfl | rfl
    · simp only [row]
      go_wp2_with fail
      go_region_with (simp only [add64 _ _ _ (car_le _ _ _)])
      all_goals
        go_wp2
        go_roundw
        case rel => exact ⟨1, _, by omega, rfl, rfl, rfl⟩
        case measure => simp [intOf]
    · simp only [row]
      go_wp2_with fail
      go_region_with (simp only [add64 _ _ _ (car_le _ _ _)])
      all_goals
        go_wp2
        go_roundw
        case rel => exact ⟨2, _, by omega, rfl, rfl, rfl⟩
        case measure => simp [intOf]
    · simp only [row]
      go_wp2_with fail
      go_region_with (simp only [add64 _ _ _ (car_le _ _ _)])
      all_goals
        go_wp2
        go_roundw
        case rel => exact ⟨3, _, by omega, rfl, rfl, rfl⟩
        case measure => simp [intOf]
    · simp only [row]
      go_wp2_with fail
      go_region_with (simp only [add64 _ _ _ (car_le _ _ _)])
      all_goals
        go_wp2
        go_roundw
        case rel => exact ⟨4, _, by omega, rfl, rfl, rfl⟩
        case measure => simp [intOf]
    · simp only [row]
      go_wp2
      go_returns
      exact ⟨by rw [sum_L ha hb hab], below_drewN (by go_grown) _⟩
end Go.Proofs.YtalahkincccffaaGreatDoor

