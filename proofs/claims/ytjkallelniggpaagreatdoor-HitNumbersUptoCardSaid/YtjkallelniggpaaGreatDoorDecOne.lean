/-
  Contracts of the small functions of package dec: long, low, addLong, subLong.
  The contract of package dec's cmpLong.
  Contracts of package dec: isZero, fits, raised, split, push, settle.
  Contracts of package dec: settle, fit.
  Plain facts about decimals in form: no program stands in this text.
  Contracts of package dec: Form, fit.
  The contract of package dec's fit.
-/
import Derived.Test.YtjkallelniggpaaGreatDoorWideB
import Derived.Test.YtjkallelniggpaaGreatDoorBa
import Derived.Test.YtjkallelniggpaaGreatDoorRound
import Derived.Test.YtjkallelniggpaaGreatDoorBc
namespace Go.Proofs.YtjkallelniggpaaGreatDoor
open Go.RowKit Word
attribute [local go_sem] setCell_drewN cell?_ext frozen?_ext shape?_ext setCell_ext lt_1' ne_1' en_1' le_1' lt_2' ne_2' en_2' le_2' lt_3' ne_3' en_3' le_3' lt_4' ne_4' en_4' le_4' lt_5' ne_5' en_5' le_5' lt_6' ne_6' en_6' le_6' lt_7' ne_7' en_7' le_7' lt_8' ne_8' en_8' le_8' lt_9' ne_9' en_9' le_9' lt_10' ne_10' en_10' le_10' lt_11' ne_11' en_11' le_11' lt_12' ne_12' en_12' le_12'

/-- a decimal as a value -/
abbrev D (neg : Bool) (c : Nat) (s : Int) : Value := .agg #[.bool neg, .int .u64 (hi c : Int), .int .u64 (lo c : Int), .int .i64 s]

theorem dlong_any (n : Nat) (hn : n < top2) (w : World) :
    Calls Tryz.prog 40 #[W n] w fun e w' => e = .returned (L n) ∧ Below w.heap.size w w' := by
  obtain ⟨h0, h1, h2, h3⟩ := long_words hn
  have HL : L n = .agg #[.int .u64 (lo n : Int), .int .u64 (hi n : Int), .int .u64 0, .int .u64 0] := by simp only [L, h0, h1, h2, h3]; rfl
  rw [HL]
  clear h0 h1 h2 h3 HL
  go_enter Tryz.func40, Tryz.ntmps40
  go_wp2
  go_returns
  exact ⟨rfl, by go_grown⟩
theorem dlow_any (n m : Nat) (hn : n < top4) (hm : m = n % 340282366920938463463374607431768211456) (w : World) :
    Calls Tryz.prog 42 #[L n] w fun e w' => e = .returned (W m) ∧ Below w.heap.size w w' := by
  obtain ⟨_, _, h1, h0, _, _⟩ := halves hn
  have HW : W m = .agg #[.int .u64 (w1 n : Int), .int .u64 (w0 n : Int)] := by rw [hm]; simp only [W, h0, h1]
  rw [HW]
  clear h0 h1 HW
  go_enter Tryz.func42, Tryz.ntmps42
  go_wp2
  go_returns
  exact ⟨rfl, by go_grown⟩
set_option maxHeartbeats 2000000 in
theorem daddLong_any (a b : Nat) (ha : a < top4) (hb : b < top4) (hab : a + b < top4) (w : World) :
    Calls Tryz.prog 94 #[L a, L b] w fun e w' => e = .returned (L (a + b)) ∧ Below w.heap.size w w' := by
  go_enter Tryz.func94, Tryz.ntmps94
  go_wp2
  go_loopw [6, 8] (fun c i wr => ∃ k n : Nat, k ≤ 4 ∧ i = .int .i64 k ∧ c = .int .u64 (car a b k) ∧ wr = ((((w.alloc (.cells #[.int .u64 (w0 a : Int), .int .u64 (w1 a : Int), .int .u64 (w2 a : Int), .int .u64 (w3 a : Int)] 58)).alloc (.cells #[.int .u64 (w0 b : Int), .int .u64 (w1 b : Int), .int .u64 (w2 b : Int), .int .u64 (w3 b : Int)] 58)).alloc (.cells #[.int .u64 0, .int .u64 0, .int .u64 0, .int .u64 0] 58)).alloc (.cells (row a b k) 58)).drewN n)
    (fun _ i _ => 4 - (intOf i).toNat)
  case atStart => exact ⟨0, 0, by omega, rfl, rfl, rfl⟩
  case round =>
    obtain ⟨k, n, hk, rfl, rfl, rfl⟩ := hrel
    have h5 : k = 0 ∨ k = 1 ∨ k = 2 ∨ k = 3 ∨ k = 4 := by omega
    clear hk
    rcases h5 with rfl | rfl | rfl | rfl | rfl
    · simp only [row]
      go_wp2_with fail
      go_region_with (simp only [add64 _ _ _ (car_le _ _ _)])
      all_goals
        go_wp2
        go_roundw
        case rel => exact ⟨1, _, by omega, rfl, rfl, rfl⟩
        case measure => simp [intOf]
    · simp only [row]
      go_wp2_with fail
      go_region_with (simp only [add64 _ _ _ (car_le _ _ _)])
      all_goals
        go_wp2
        go_roundw
        case rel => exact ⟨2, _, by omega, rfl, rfl, rfl⟩
        case measure => simp [intOf]
    · simp only [row]
      go_wp2_with fail
      go_region_with (simp only [add64 _ _ _ (car_le _ _ _)])
      all_goals
        go_wp2
        go_roundw
        case rel => exact ⟨3, _, by omega, rfl, rfl, rfl⟩
        case measure => simp [intOf]
    · simp only [row]
      go_wp2_with fail
      go_region_with (simp only [add64 _ _ _ (car_le _ _ _)])
      all_goals
        go_wp2
        go_roundw
        case rel => exact ⟨4, _, by omega, rfl, rfl, rfl⟩
        case measure => simp [intOf]
    · simp only [row]
      go_wp2
      go_returns
      exact ⟨by rw [sum_L ha hb hab], below_drewN (by go_grown) _⟩
/-- the words that the first k rounds have laid -/
def rowF (df : Nat → Nat) : Nat → Array Value
  | 0 => #[.int .u64 0, .int .u64 0, .int .u64 0, .int .u64 0]
  | 1 => #[.int .u64 (df 0 : Int), .int .u64 0, .int .u64 0, .int .u64 0]
  | 2 => #[.int .u64 (df 0 : Int), .int .u64 (df 1 : Int), .int .u64 0, .int .u64 0]
  | 3 => #[.int .u64 (df 0 : Int), .int .u64 (df 1 : Int), .int .u64 (df 2 : Int), .int .u64 0]
  | _ => #[.int .u64 (df 0 : Int), .int .u64 (df 1 : Int), .int .u64 (df 2 : Int), .int .u64 (df 3 : Int)]
set_option maxHeartbeats 2000000 in
theorem dsub_core (av bv df cf : Nat → Nat) (hz : cf 0 = 0)
    (h0 : ∀ w, (callFunc 107 #[.int .u64 (av 0 : Int), .int .u64 (bv 0 : Int), .int .u64 (cf 0 : Int)]).run Tryz.prog w = .ok (.value (.tuple #[.int .u64 (df 0 : Int), .int .u64 (cf 1 : Int)])) w)
    (h1 : ∀ w, (callFunc 107 #[.int .u64 (av 1 : Int), .int .u64 (bv 1 : Int), .int .u64 (cf 1 : Int)]).run Tryz.prog w = .ok (.value (.tuple #[.int .u64 (df 1 : Int), .int .u64 (cf 2 : Int)])) w)
    (h2 : ∀ w, (callFunc 107 #[.int .u64 (av 2 : Int), .int .u64 (bv 2 : Int), .int .u64 (cf 2 : Int)]).run Tryz.prog w = .ok (.value (.tuple #[.int .u64 (df 2 : Int), .int .u64 (cf 3 : Int)])) w)
    (h3 : ∀ w, (callFunc 107 #[.int .u64 (av 3 : Int), .int .u64 (bv 3 : Int), .int .u64 (cf 3 : Int)]).run Tryz.prog w = .ok (.value (.tuple #[.int .u64 (df 3 : Int), .int .u64 (cf 4 : Int)])) w) (w : World) :
    Calls Tryz.prog 95 #[.agg #[.int .u64 (av 0 : Int), .int .u64 (av 1 : Int), .int .u64 (av 2 : Int), .int .u64 (av 3 : Int)], .agg #[.int .u64 (bv 0 : Int), .int .u64 (bv 1 : Int), .int .u64 (bv 2 : Int), .int .u64 (bv 3 : Int)]] w
      fun e w' => e = .returned (.agg #[.int .u64 (df 0 : Int), .int .u64 (df 1 : Int), .int .u64 (df 2 : Int), .int .u64 (df 3 : Int)]) ∧ Below w.heap.size w w' := by
  have hZ := Lib.hid hz
  clear hz
  go_enter Tryz.func95, Tryz.ntmps95
  go_wp2
  go_loopw [6, 8] (fun c i wr => ∃ k n : Nat, k ≤ 4 ∧ i = .int .i64 k ∧ c = .int .u64 (cf k) ∧ wr = ((((w.alloc (.cells #[.int .u64 (av 0 : Int), .int .u64 (av 1 : Int), .int .u64 (av 2 : Int), .int .u64 (av 3 : Int)] 58)).alloc (.cells #[.int .u64 (bv 0 : Int), .int .u64 (bv 1 : Int), .int .u64 (bv 2 : Int), .int .u64 (bv 3 : Int)] 58)).alloc (.cells #[.int .u64 0, .int .u64 0, .int .u64 0, .int .u64 0] 58)).alloc (.cells (rowF df k) 58)).drewN n)
    (fun _ i _ => 4 - (intOf i).toNat)
  case atStart => exact ⟨0, 0, by omega, rfl, by rw [hZ.out]; rfl, rfl⟩
  case round =>
    obtain ⟨k, n, hk, rfl, rfl, rfl⟩ := hrel
    have h5 : k = 0 ∨ k = 1 ∨ k = 2 ∨ k = 3 ∨ k = 4 := by omega
    clear hk
    rcases h5 with rfl | rfl | rfl | rfl | rfl
    · simp only [rowF]
      go_wp2_with fail
      go_region_with (simp only [h0])
      all_goals
        go_wp2
        go_roundw
        case rel => exact ⟨1, _, by omega, rfl, rfl, rfl⟩
        case measure => simp [intOf]
    · simp only [rowF]
      go_wp2_with fail
      go_region_with (simp only [h1])
      all_goals
        go_wp2
        go_roundw
        case rel => exact ⟨2, _, by omega, rfl, rfl, rfl⟩
        case measure => simp [intOf]
    · simp only [rowF]
      go_wp2_with fail
      go_region_with (simp only [h2])
      all_goals
        go_wp2
        go_roundw
        case rel => exact ⟨3, _, by omega, rfl, rfl, rfl⟩
        case measure => simp [intOf]
    · simp only [rowF]
      go_wp2_with fail
      go_region_with (simp only [h3])
      all_goals
        go_wp2
        go_roundw
        case rel => exact ⟨4, _, by omega, rfl, rfl, rfl⟩
        case measure => simp [intOf]
    · simp only [rowF]
      go_wp2
      go_returns
      exact ⟨rfl, below_drewN (by go_grown) _⟩
theorem dsubLong_any (a b : Nat) (ha : a < top4) (hb : b < top4) (hab : b ≤ a) (w : World) :
    Calls Tryz.prog 95 #[L a, L b] w fun e w' => e = .returned (L (a - b)) ∧ Below w.heap.size w w' := by
  obtain ⟨e0, e1, e2, e3⟩ := dif_all ha hb hab
  have k1 := bor_le a b 1
  have k2 := bor_le a b 2
  have k3 := bor_le a b 3
  have s0 := fun w => sub64_0 (w0 a) (w0 b) w
  have s1 := fun w => sub64 (w1 a) (w1 b) (bor a b 1) k1 w
  have s2 := fun w => sub64 (w2 a) (w2 b) (bor a b 2) k2 w
  have s3 := fun w => sub64 (w3 a) (w3 b) (bor a b 3) k3 w
  rw [← e0, show difHi (w0 a) (w0 b) 0 = bor a b 1 by simp only [bor]] at s0
  rw [← e1, show difHi (w1 a) (w1 b) (bor a b 1) = bor a b 2 by simp only [bor]] at s1
  rw [← e2, show difHi (w2 a) (w2 b) (bor a b 2) = bor a b 3 by simp only [bor]] at s2
  rw [← e3, show difHi (w3 a) (w3 b) (bor a b 3) = bor a b 4 by simp only [bor]] at s3
  clear e0 e1 e2 e3 k1 k2 k3
  unfold L
  generalize bor a b 1 = c1 at *
  generalize bor a b 2 = c2 at *
  generalize bor a b 3 = c3 at *
  generalize bor a b 4 = c4 at *
  generalize w0 (a - b) = d0 at *
  generalize w1 (a - b) = d1 at *
  generalize w2 (a - b) = d2 at *
  generalize w3 (a - b) = d3 at *
  generalize w0 a = a0 at *
  generalize w1 a = a1 at *
  generalize w2 a = a2 at *
  generalize w3 a = a3 at *
  generalize w0 b = b0 at *
  generalize w1 b = b1 at *
  generalize w2 b = b2 at *
  generalize w3 b = b3 at *
  have f0 := dsub_core (fun k => match k with | 0 => a0 | 1 => a1 | 2 => a2 | _ => a3) (fun k => match k with | 0 => b0 | 1 => b1 | 2 => b2 | _ => b3) (fun k => match k with | 0 => d0 | 1 => d1 | 2 => d2 | _ => d3) (fun k => match k with | 0 => 0 | 1 => c1 | 2 => c2 | 3 => c3 | _ => c4) rfl s0 s1 s2 s3 w
  exact f0
end Go.Proofs.YtjkallelniggpaaGreatDoor
namespace Go.Proofs.YtjkallelniggpaaGreatDoor
open Go.RowKit Word
attribute [local go_sem] setCell_drewN cell?_ext frozen?_ext shape?_ext setCell_ext lt_1' ne_1' en_1' le_1' lt_2' ne_2' en_2' le_2' lt_3' ne_3' en_3' le_3' lt_4' ne_4' en_4' le_4' lt_5' ne_5' en_5' le_5' lt_6' ne_6' en_6' le_6' lt_7' ne_7' en_7' le_7' lt_8' ne_8' en_8' le_8' lt_9' ne_9' en_9' le_9' lt_10' ne_10' en_10' le_10' lt_11' ne_11' en_11' le_11' lt_12' ne_12' en_12' le_12'

theorem dcmp_halves {a b : Nat} (h : a / 340282366920938463463374607431768211456 = b / 340282366920938463463374607431768211456) : cmpv (a % 340282366920938463463374607431768211456) (b % 340282366920938463463374607431768211456) = cmpv a b := by
  unfold cmpv
  by_cases h1 : a < b
  · rw [if_pos h1, if_pos (by omega)]
  · rw [if_neg h1, if_neg (by omega)]
    by_cases h2 : b < a
    · rw [if_pos h2, if_pos (by omega)]
    · rw [if_neg h2, if_neg (by omega)]
theorem dcmp_high {a b : Nat} (h : a / 340282366920938463463374607431768211456 ≠ b / 340282366920938463463374607431768211456) : cmpv (a / 340282366920938463463374607431768211456) (b / 340282366920938463463374607431768211456) = cmpv a b ∧ cmpv a b ≠ 0 := by
  unfold cmpv
  by_cases h1 : a < b
  · rw [if_pos h1, if_pos (by omega)]; exact ⟨rfl, by decide⟩
  · rw [if_neg h1, if_neg (by omega), if_pos (by omega), if_pos (by omega)]; exact ⟨rfl, by decide⟩
theorem dcmpLong_any (a b : Nat) (ha : a < top4) (hb : b < top4) (w : World) :
    Calls Tryz.prog 21 #[L a, L b] w fun e w' => e = .returned (.int .i64 (cmpv a b)) ∧ Below w.heap.size w w' := by
  obtain ⟨a3, a2, a1, a0, al, al2⟩ := halves ha
  obtain ⟨b3, b2, b1, b0, bl, bl2⟩ := halves hb
  have h1 := fun w => cmp_any (a / 340282366920938463463374607431768211456) (b / 340282366920938463463374607431768211456) al bl w
  simp only [W, a3, a2, b3, b2] at h1
  have h2 := fun w => cmp_any (a % 340282366920938463463374607431768211456) (b % 340282366920938463463374607431768211456) al2 bl2 w
  have h3 := fun w => dlow_any a _ ha rfl w
  have h4 := fun w => dlow_any b _ hb rfl w
  obtain ⟨x, hx⟩ : ∃ x, x = a % 340282366920938463463374607431768211456 := ⟨_, rfl⟩
  obtain ⟨y, hy⟩ : ∃ y, y = b % 340282366920938463463374607431768211456 := ⟨_, rfl⟩
  by_cases h : a / 340282366920938463463374607431768211456 = b / 340282366920938463463374607431768211456
  · rw [dcmp_halves h, ← hx, ← hy] at h2
    rw [h, cmpv_eq] at h1
    rw [← hx] at h3
    rw [← hy] at h4
    have H1 := Lib.hid h1; have H2 := Lib.hid h2; have H3 := Lib.hid h3; have H4 := Lib.hid h4
    clear h1 h2 h3 h4 hx hy h a3 a2 a1 a0 al al2 b3 b2 b1 b0 bl bl2
    go_enter Tryz.func21, Tryz.ntmps21
    go_wp2_with (first
      | (go_at_call 41; ((with_reducible refine (H1.out _).mono ?_); rintro e w1 ⟨rfl, hb1⟩; obtain ⟨osA, dA, rfl⟩ := ext_of_below hb1; clear hb1)))
    go_region_held3 (fun w' => w'.cell? ⟨w.heap.size, 0, none⟩ = some (.int .u64 (w0 a : Int)) ∧ w'.cell? ⟨w.heap.size, 1, none⟩ = some (.int .u64 (w1 a : Int)) ∧ w'.cell? ⟨w.heap.size, 2, none⟩ = some (.int .u64 (w2 a : Int)) ∧ w'.cell? ⟨w.heap.size, 3, none⟩ = some (.int .u64 (w3 a : Int)) ∧ w'.cell? ⟨w.heap.size + 1, 0, none⟩ = some (.int .u64 (w0 b : Int)) ∧ w'.cell? ⟨w.heap.size + 1, 1, none⟩ = some (.int .u64 (w1 b : Int)) ∧ w'.cell? ⟨w.heap.size + 1, 2, none⟩ = some (.int .u64 (w2 b : Int)) ∧ w'.cell? ⟨w.heap.size + 1, 3, none⟩ = some (.int .u64 (w3 b : Int))) (first | (simp [go_sem]; done) | go_keep) (first
      | (go_at_call 42; ((with_reducible refine (H3.out _).mono ?_); rintro e w1 ⟨rfl, hb1⟩; obtain ⟨osB, dB, rfl⟩ := ext_of_below hb1; clear hb1))
      | (go_at_call 42; ((with_reducible refine (H4.out _).mono ?_); rintro e w1 ⟨rfl, hb1⟩; obtain ⟨osC, dC, rfl⟩ := ext_of_below hb1; clear hb1))
      | (go_at_call 41; ((with_reducible refine (H2.out _).mono ?_); rintro e w1 ⟨rfl, hb1⟩; obtain ⟨osD, dD, rfl⟩ := ext_of_below hb1; clear hb1)))
    all_goals
      go_wp2
      go_ret
      exact ⟨rfl, by (repeat' (first | (with_reducible exact Below.refl _ _) | (with_reducible assumption) | (with_reducible refine Below.alloc ?_ ?_ _) | (with_reducible refine below_drewN ?_ _) | (with_reducible refine below_drew ?_) | (with_reducible refine below_ext ?_ ?_ _ _) | (with_reducible refine Below.setCell ?_ ?_ _) | (simp; done) | (simp; omega) | omega))⟩
  · obtain ⟨e1, e2⟩ := dcmp_high h
    rw [e1] at h1
    have H1 := Lib.hid h1
    clear h1 h2 h3 h4 hx hy h a3 a2 a1 a0 al al2 b3 b2 b1 b0 bl bl2 e1
    go_enter Tryz.func21, Tryz.ntmps21
    go_wp2_with (first
      | (go_at_call 41; ((with_reducible refine (H1.out _).mono ?_); rintro e w1 ⟨rfl, hb1⟩; obtain ⟨osA, dA, rfl⟩ := ext_of_below hb1; clear hb1)))
    go_ret
    exact ⟨rfl, by (repeat' (first | (with_reducible exact Below.refl _ _) | (with_reducible assumption) | (with_reducible refine Below.alloc ?_ ?_ _) | (with_reducible refine below_drewN ?_ _) | (with_reducible refine below_drew ?_) | (with_reducible refine below_ext ?_ ?_ _ _) | (with_reducible refine Below.setCell ?_ ?_ _) | (simp; done) | (simp; omega) | omega))⟩
end Go.Proofs.YtjkallelniggpaaGreatDoor
namespace Go.Proofs.YtjkallelniggpaaGreatDoor
open Go.RowKit Word
attribute [local go_sem] setCell_drewN cell?_ext frozen?_ext shape?_ext setCell_ext lt_1' ne_1' en_1' le_1' lt_2' ne_2' en_2' le_2' lt_3' ne_3' en_3' le_3' lt_4' ne_4' en_4' le_4' lt_5' ne_5' en_5' le_5' lt_6' ne_6' en_6' le_6' lt_7' ne_7' en_7' le_7' lt_8' ne_8' en_8' le_8' lt_9' ne_9' en_9' le_9' lt_10' ne_10' en_10' le_10' lt_11' ne_11' en_11' le_11' lt_12' ne_12' en_12' le_12'

theorem near_isN (n t : Nat) : NearIs n t (Fit.near n t) := by
  unfold NearIs Fit.near
  by_cases h1 : t < n % t + n % t
  · rw [if_pos h1]; exact .inl ⟨h1, rfl⟩
  · rw [if_neg h1]
    by_cases h2 : n % t + n % t = t
    · rw [if_pos h2]
      by_cases h3 : n / t % 2 = 1
      · rw [if_pos h3]; exact .inr (.inl ⟨h2, h3, rfl⟩)
      · rw [if_neg h3]; exact .inr (.inr (.inl ⟨h2, by omega, rfl⟩))
    · rw [if_neg h2]; exact .inr (.inr (.inr ⟨by omega, rfl⟩))
theorem isZero_any (neg : Bool) (c : Nat) (s : Int) (w : World) :
    Calls Tryz.prog 38 #[D neg c s] w fun e w' => e = .returned (.bool (decide (c = 0))) ∧ Below w.heap.size w w' := by
  by_cases h : c = 0
  · rw [decide_eq_true h]
    subst h
    show Calls Tryz.prog 38 #[.agg #[.bool neg, .int .u64 0, .int .u64 0, .int .i64 s]] w _
    go_enter Tryz.func38, Tryz.ntmps38
    go_wp2
    go_ret
    exact ⟨rfl, by (repeat' (first | (with_reducible exact Below.refl _ _) | (with_reducible assumption) | (with_reducible refine Below.alloc ?_ ?_ _) | (with_reducible refine below_drewN ?_ _) | (with_reducible refine below_drew ?_) | (with_reducible refine below_ext ?_ ?_ _ _) | (with_reducible refine Below.setCell ?_ ?_ _) | (simp; done) | (simp; omega) | omega))⟩
  · rw [decide_eq_false h]
    rcases word_ne (b := c) (by omega) with z | ⟨z, z'⟩
    all_goals
      clear h
      go_enter Tryz.func38, Tryz.ntmps38
      go_wp2
      go_ret
      exact ⟨rfl, by (repeat' (first | (with_reducible exact Below.refl _ _) | (with_reducible assumption) | (with_reducible refine Below.alloc ?_ ?_ _) | (with_reducible refine below_drewN ?_ _) | (with_reducible refine below_drew ?_) | (with_reducible refine below_ext ?_ ?_ _ _) | (with_reducible refine Below.setCell ?_ ?_ _) | (simp; done) | (simp; omega) | omega))⟩
theorem ten34 : p10 34 < top2 := p10_lt (by omega)
theorem ten_34 (w : World) (ht : Tens w) : Calls Tryz.prog 43 #[.int .i64 34] w fun e w' => e = .returned (.tuple #[W (p10 34), .int .i64 0]) ∧ Below w.heap.size w w' := ten_ok 34 (by omega) w ht
theorem fits_any (c : Nat) (hc : c < top2) (w : World) (ht : Tens w) :
    Calls Tryz.prog 37 #[W c] w fun e w' => e = .returned (.bool (decide (c < 10 ^ 34))) ∧ Below w.heap.size w w' := by
  have HT := Lib.hid (fun w' (hb : Below w.heap.size w w') => ht.below hb)
  have h34 := ten34
  have hz : decide (cmpv c (p10 34) < 0) = decide (c < 10 ^ 34) := by
    have : p10 34 = 10 ^ 34 := rfl
    rw [this]
    unfold cmpv
    by_cases h : c < 10 ^ 34
    · rw [if_pos h, decide_eq_true h]; rfl
    · rw [if_neg h, decide_eq_false h]; split <;> rfl
  obtain ⟨z, hz2⟩ : ∃ z, z = cmpv c (p10 34) := ⟨_, rfl⟩
  have h1 := fun w => cmp_any c (p10 34) hc h34 w
  rw [← hz2] at hz h1
  have H1 := Lib.hid h1
  rw [← hz]
  clear ht hz hz2 h1 hc h34
  go_enter Tryz.func37, Tryz.ntmps37
  go_wp2_with (first
    | (go_at_call 43; ((with_reducible refine (ten_34 _ (HT.out _ (by (repeat' (first | (with_reducible exact Below.refl _ _) | (with_reducible assumption) | (with_reducible refine Below.alloc ?_ ?_ _) | (with_reducible refine below_drewN ?_ _) | (with_reducible refine below_drew ?_) | (with_reducible refine below_ext ?_ ?_ _ _) | (with_reducible refine Below.setCell ?_ ?_ _) | (simp; done) | (simp; omega) | omega))))).mono ?_); rintro e w1 ⟨rfl, hb1⟩; obtain ⟨osA, dA, rfl⟩ := ext_of_below hb1; clear hb1))
    | (go_at_call 41; ((with_reducible refine (H1.out _).mono ?_); rintro e w1 ⟨rfl, hb1⟩; obtain ⟨osB, dB, rfl⟩ := ext_of_below hb1; clear hb1)))
  go_ret
  exact ⟨rfl, by (repeat' (first | (with_reducible exact Below.refl _ _) | (with_reducible assumption) | (with_reducible refine Below.alloc ?_ ?_ _) | (with_reducible refine below_drewN ?_ _) | (with_reducible refine below_drew ?_) | (with_reducible refine below_ext ?_ ?_ _ _) | (with_reducible refine Below.setCell ?_ ?_ _) | (simp; done) | (simp; omega) | omega))⟩
theorem raised_any (neg : Bool) (c s m : Nat) (hc : c < top2) (hs : s ≤ m) (hm : m ≤ s + 38) (w : World) (ht : Tens w) :
    Calls Tryz.prog 22 #[D neg c (s : Int), .int .i64 (m : Int)] w fun e w' => e = .returned (L (c * 10 ^ (m - s))) ∧ Below w.heap.size w w' := by
  have HT := Lib.hid (fun w' (hb : Below w.heap.size w w') => ht.below hb)
  obtain ⟨k, rfl⟩ : ∃ k, m = s + k := ⟨m - s, by omega⟩
  rw [Nat.add_sub_cancel_left]
  have hk : k ≤ 38 := by omega
  have H1 := Lib.hid (fun w => mul_any c (p10 k) hc (p10_lt hk) w)
  have E1 : ((s + k : Nat) : Int) - (s : Int) = (k : Int) := by omega
  obtain ⟨m, hm2⟩ : ∃ m : Int, m = ((s + k : Nat) : Int) := ⟨_, rfl⟩
  have hmb : -1000 ≤ m ∧ m - s = (k : Int) := by omega
  obtain ⟨_, E1⟩ := hmb
  clear ht hm hs hc
  rw [← hm2]
  clear hm2
  have hw : IntKind.i64.wrap (m - (s : Int)) = (k : Int) := by rw [E1]; exact IntWalk.i64_in _ (by omega)
  go_enter Tryz.func22, Tryz.ntmps22
  go_wp2_with (first
    | (go_at_call 43; ((with_reducible refine (ten_ok k hk _ (HT.out _ (by (repeat' (first | (with_reducible exact Below.refl _ _) | (with_reducible assumption) | (with_reducible refine Below.alloc ?_ ?_ _) | (with_reducible refine below_drewN ?_ _) | (with_reducible refine below_drew ?_) | (with_reducible refine below_ext ?_ ?_ _ _) | (with_reducible refine Below.setCell ?_ ?_ _) | (simp; done) | (simp; omega) | omega))))).mono ?_); rintro e w1 ⟨rfl, hb1⟩; obtain ⟨osA, dA, rfl⟩ := ext_of_below hb1; clear hb1))
    | (go_at_call 44; ((with_reducible refine (H1.out _).mono ?_); rintro e w1 ⟨rfl, hb1⟩; obtain ⟨osB, dB, rfl⟩ := ext_of_below hb1; clear hb1)))
  go_returns
  exact ⟨rfl, by (repeat' (first | (with_reducible exact Below.refl _ _) | (with_reducible assumption) | (with_reducible refine Below.alloc ?_ ?_ _) | (with_reducible refine below_drewN ?_ _) | (with_reducible refine below_drew ?_) | (with_reducible refine below_ext ?_ ?_ _ _) | (with_reducible refine Below.setCell ?_ ?_ _) | (simp; done) | (simp; omega) | omega))⟩
theorem split_any (n k q r : Nat) (hn : n < top4) (hk : k ≤ 38) (hq : q = n / p10 k) (hr : r = n % p10 k) (w : World) (ht : Tens w) :
    Calls Tryz.prog 39 #[L n, .int .i64 (k : Int)] w fun e w' => e = .returned (.tuple #[L q, W r]) ∧ Below w.heap.size w w' := by
  have HT := Lib.hid (fun w' (hb : Below w.heap.size w w') => ht.below hb)
  have H1 := Lib.hid (fun w => div_q n (p10 k) q r hq hr hn (p10_pos k) (p10_lt hk) w)
  clear ht hn hq hr
  go_enter Tryz.func39, Tryz.ntmps39
  go_wp2_with (first
    | (go_at_call 43; ((with_reducible refine (ten_ok k hk _ (HT.out _ (by (repeat' (first | (with_reducible exact Below.refl _ _) | (with_reducible assumption) | (with_reducible refine Below.alloc ?_ ?_ _) | (with_reducible refine below_drewN ?_ _) | (with_reducible refine below_drew ?_) | (with_reducible refine below_ext ?_ ?_ _ _) | (with_reducible refine Below.setCell ?_ ?_ _) | (simp; done) | (simp; omega) | omega))))).mono ?_); rintro e w1 ⟨rfl, hb1⟩; obtain ⟨osA, dA, rfl⟩ := ext_of_below hb1; clear hb1))
    | (go_at_call 62; ((with_reducible refine (H1.out _).mono ?_); rintro e w1 ⟨rfl, hb1⟩; obtain ⟨osB, dB, rfl⟩ := ext_of_below hb1; clear hb1)))
  go_region
  all_goals
    go_wp2
    go_returns
    exact ⟨rfl, by (repeat' (first | (with_reducible exact Below.refl _ _) | (with_reducible assumption) | (with_reducible refine Below.alloc ?_ ?_ _) | (with_reducible refine below_drewN ?_ _) | (with_reducible refine below_drew ?_) | (with_reducible refine below_ext ?_ ?_ _ _) | (with_reducible refine Below.setCell ?_ ?_ _) | (simp; done) | (simp; omega) | omega))⟩
end Go.Proofs.YtjkallelniggpaaGreatDoor
namespace Go.Proofs.YtjkallelniggpaaGreatDoor
open Go.RowKit Word
attribute [local go_sem] setCell_drewN cell?_ext frozen?_ext shape?_ext setCell_ext lt_1' ne_1' en_1' le_1' lt_2' ne_2' en_2' le_2' lt_3' ne_3' en_3' le_3' lt_4' ne_4' en_4' le_4' lt_5' ne_5' en_5' le_5' lt_6' ne_6' en_6' le_6' lt_7' ne_7' en_7' le_7' lt_8' ne_8' en_8' le_8' lt_9' ne_9' en_9' le_9' lt_10' ne_10' en_10' le_10' lt_11' ne_11' en_11' le_11' lt_12' ne_12' en_12' le_12'

/-- coef / 10^s in form, as a value -/
abbrev DS (neg : Bool) (c s : Nat) : Value := D (neg && decide (0 < (Fit.strip c s).1)) (Fit.strip c s).1 ((Fit.strip c s).2 : Int)
theorem settle_zero (neg : Bool) (s : Nat) (w : World) :
    Calls Tryz.prog 106 #[.bool neg, W 0, .int .i64 (s : Int)] w fun e w' => e = .returned (DS neg 0 s) ∧ Below w.heap.size w w' := by
  unfold DS
  rw [Fit.strip_zero]
  have HW : W 0 = .agg #[.int .u64 0, .int .u64 0] := rfl
  have HD : D (neg && decide (0 < (0, 0).1)) (0, 0).1 (((0, 0).2 : Nat) : Int) = .agg #[.bool false, .int .u64 0, .int .u64 0, .int .i64 0] := by cases neg <;> rfl
  rw [HW, HD]
  clear HW HD
  go_enter Tryz.func106, Tryz.ntmps106
  go_wp2_with fail
  go_returns
  exact ⟨rfl, by (repeat' (first | (with_reducible exact Below.refl _ _) | (with_reducible assumption) | (with_reducible refine Below.alloc ?_ ?_ _) | (with_reducible refine below_drewN ?_ _) | (with_reducible refine below_drew ?_) | (with_reducible refine below_ext ?_ ?_ _ _) | (with_reducible refine Below.setCell ?_ ?_ _) | (simp; done) | (simp; omega) | omega))⟩
set_option maxHeartbeats 2000000 in
theorem settle_pos (neg : Bool) (c s : Nat) (h0 : 0 < c) (hc : c < top2) (hs : s ≤ 18) (w : World) (ht : Tens w) :
    Calls Tryz.prog 106 #[.bool neg, W c, .int .i64 (s : Int)] w fun e w' => e = .returned (DS neg c s) ∧ Below w.heap.size w w' := by
  obtain ⟨t, z, hz, htm⟩ := trimmed c h0
  have hz38 := trim_le hc hz htm
  have hst := Fit.strip_trim hz htm s
  have hpos := Fit.strip_pos h0 s
  unfold DS
  rw [decide_eq_true hpos, Bool.and_true, hst]
  show Calls Tryz.prog 106 #[.bool neg, W c, .int .i64 (s : Int)] w fun e w' => e = .returned (D neg (c / 10 ^ min z s) ((s - min z s : Nat) : Int)) ∧ Below w.heap.size w w'
  obtain ⟨d, hd⟩ : ∃ d, d = min z s := ⟨_, rfl⟩
  obtain ⟨q, hq⟩ : ∃ q, q = c / p10 d := ⟨_, rfl⟩
  obtain ⟨r, hr⟩ : ∃ r, r = c % p10 d := ⟨_, rfl⟩
  obtain ⟨s2, hs2⟩ : ∃ x, x = s - d := ⟨_, rfl⟩
  have hq2 : c / 10 ^ min z s = q := by rw [hq, ← hd]; rfl
  rw [hq2, ← hd, ← hs2]
  have hd38 : d ≤ 38 := by omega
  have hc4 : c < top4 := by unfold top2 top4 at *; omega
  have hqc : q ≤ c := by rw [hq]; exact Nat.div_le_self _ _
  have hq4 : q < top4 := by omega
  have hq0 : q = q % 340282366920938463463374607431768211456 := (Nat.mod_eq_of_lt (by unfold top2 at hc; omega)).symm
  have E1 : min (z : Int) (s : Int) = (d : Int) := by omega
  have E2 : IntKind.i64.wrap ((s : Int) - (d : Int)) = (s2 : Int) := by rw [show (s : Int) - (d : Int) = (s2 : Int) by omega]; exact IntWalk.i64_in _ (by omega)
  have HT := Lib.hid (fun w' (hb : Below w.heap.size w w') => ht.below hb)
  have H1 := Lib.hid (fun w => trim_any c t z hc hz htm hz38 w)
  have H2 := Lib.hid (fun w => dlong_any c hc w)
  have H3 := Lib.hid (fun w ht => split_any c d q r hc4 hd38 hq hr w ht)
  have H4 := Lib.hid (fun w => dlow_any q q hq4 hq0 w)
  have hnz := word_ne h0
  clear ht hst hpos hz htm hq hr hq2 hd hs2 hq0
  rcases hnz with nz | ⟨nz, nz'⟩
  all_goals
    go_enter Tryz.func106, Tryz.ntmps106
    go_wp2_with (first
      | (go_at_call 113; ((with_reducible refine (H1.out _).mono ?_); rintro e w1 ⟨rfl, hb1⟩; obtain ⟨osA, dA, rfl⟩ := ext_of_below hb1; clear hb1))
      | (go_at_call 40; ((with_reducible refine (H2.out _).mono ?_); rintro e w1 ⟨rfl, hb1⟩; obtain ⟨osB, dB, rfl⟩ := ext_of_below hb1; clear hb1))
      | (go_at_call 39; ((with_reducible refine (H3.out _ (HT.out _ (by (repeat' (first | (with_reducible exact Below.refl _ _) | (with_reducible assumption) | (with_reducible refine Below.alloc ?_ ?_ _) | (with_reducible refine below_drewN ?_ _) | (with_reducible refine below_drew ?_) | (with_reducible refine below_ext ?_ ?_ _ _) | (with_reducible refine Below.setCell ?_ ?_ _) | (simp; done) | (simp; omega) | omega))))).mono ?_); rintro e w1 ⟨rfl, hb1⟩; obtain ⟨osC, dC, rfl⟩ := ext_of_below hb1; clear hb1))
      | (go_at_call 42; ((with_reducible refine (H4.out _).mono ?_); rintro e w1 ⟨rfl, hb1⟩; obtain ⟨osD, dD, rfl⟩ := ext_of_below hb1; clear hb1)))
    go_returns
    exact ⟨rfl, by (repeat' (first | (with_reducible exact Below.refl _ _) | (with_reducible assumption) | (with_reducible refine Below.alloc ?_ ?_ _) | (with_reducible refine below_drewN ?_ _) | (with_reducible refine below_drew ?_) | (with_reducible refine below_ext ?_ ?_ _ _) | (with_reducible refine Below.setCell ?_ ?_ _) | (simp; done) | (simp; omega) | omega))⟩
theorem settle_any (neg : Bool) (c s : Nat) (hc : c < top2) (hs : s ≤ 18) (w : World) (ht : Tens w) :
    Calls Tryz.prog 106 #[.bool neg, W c, .int .i64 (s : Int)] w fun e w' => e = .returned (DS neg c s) ∧ Below w.heap.size w w' := by
  rcases Nat.eq_zero_or_pos c with h | h
  · subst h; exact settle_zero neg s w
  · exact settle_pos neg c s h hc hs w ht
/-- the fitted number as a value, and the error -/
def fitC : Option (Nat × Nat) → Nat
  | some x => x.1
  | none => 0
def fitZ : Option (Nat × Nat) → Int
  | some x => (x.2 : Int)
  | none => 0
def fitE : Option (Nat × Nat) → Int
  | some _ => 0
  | none => 3
abbrev FV (neg : Bool) (x : Option (Nat × Nat)) : Value := D (neg && decide (0 < fitC x)) (fitC x) (fitZ x)
end Go.Proofs.YtjkallelniggpaaGreatDoor
namespace Go.Proofs.YtjkallelniggpaaGreatDoor
open Go.RowKit Word

/-- is it in form? -/
def formB (neg : Bool) (c : Nat) (s : Int) : Bool := decide (c < 10 ^ 34 ∧ 0 ≤ s ∧ s ≤ 18 ∧ (s = 0 → neg = true → c ≠ 0) ∧ (s ≠ 0 → c % 10 ≠ 0))
theorem form_open {neg : Bool} {c : Nat} {s : Int} (h : formB neg c s = true) : ∃ S : Nat, s = (S : Int) ∧ S ≤ 18 ∧ c < 10 ^ 34 ∧ (S = 0 → neg = true → c ≠ 0) ∧ (S ≠ 0 → c % 10 ≠ 0) := by
  unfold formB at h
  obtain ⟨h1, h2, h3, h4, h5⟩ := of_decide_eq_true h
  exact ⟨s.toNat, by omega, by omega, h1, fun h => h4 (by omega), fun h => h5 (by omega)⟩
theorem form_mk {neg : Bool} {c S : Nat} (h1 : S ≤ 18) (h2 : c < 10 ^ 34) (h3 : S = 0 → neg = true → c ≠ 0) (h4 : S ≠ 0 → c % 10 ≠ 0) : formB neg c (S : Int) = true := by
  unfold formB
  exact decide_eq_true ⟨h2, by omega, by omega, fun h => h3 (by omega), fun h => h4 (by omega)⟩
theorem form_sign {neg : Bool} {c S : Nat} (h3 : S = 0 → neg = true → c ≠ 0) (h4 : S ≠ 0 → c % 10 ≠ 0) : (neg && decide (0 < c)) = neg := by
  cases neg with
  | false => rfl
  | true =>
    have : 0 < c := by
      rcases Nat.eq_zero_or_pos S with h | h
      · have := h3 h rfl; omega
      · have := h4 (by omega); omega
    rw [decide_eq_true this]; rfl
theorem form_strip {c S : Nat} (h4 : S ≠ 0 → c % 10 ≠ 0) : Fit.strip c S = (c, S) := by
  rcases Nat.eq_zero_or_pos S with h | h
  · subst h; rfl
  · exact Fit.strip_stop (h4 (by omega))
theorem DS_form {neg : Bool} {c S : Nat} (h3 : S = 0 → neg = true → c ≠ 0) (h4 : S ≠ 0 → c % 10 ≠ 0) : DS neg c S = D neg c (S : Int) := by
  unfold DS
  rw [form_strip h4, form_sign h3 h4]
theorem lt34_top2 {c : Nat} (h : c < 10 ^ 34) : c < top2 := Nat.lt_trans h (by decide)
theorem strip_form {c : Nat} (hc : c < 10 ^ 34) : ∀ s, s ≤ 18 → (Fit.strip c s).1 < 10 ^ 34 ∧ (Fit.strip c s).2 ≤ 18 ∧ ((Fit.strip c s).2 ≠ 0 → (Fit.strip c s).1 % 10 ≠ 0) := by
  intro s
  induction s generalizing c with
  | zero => intro _; exact ⟨hc, by show 0 ≤ 18; omega, fun h => absurd rfl h⟩
  | succ s ih =>
    intro hs
    unfold Fit.strip
    split
    · exact ih (Nat.lt_of_le_of_lt (Nat.div_le_self _ _) hc) (by omega)
    · rename_i h
      exact ⟨hc, hs, fun _ => h⟩
/-- what is fitted is in form -/
theorem fit_form {n t c s : Nat} : ∀ {k : Nat}, k ≤ 19 → Fit.fit n t k = some (c, s) → c < 10 ^ 34 ∧ s ≤ 18 ∧ (s ≠ 0 → c % 10 ≠ 0)
  | 0, _, h => by cases h
  | k + 1, hk, h => by
    rw [Fit.fit_succ] at h
    split at h
    · rename_i h1
      have h2 := strip_form h1 k (by omega)
      rw [Option.some.inj h] at h2
      exact h2
    · exact fit_form (by omega) h
end Go.Proofs.YtjkallelniggpaaGreatDoor
namespace Go.Proofs.YtjkallelniggpaaGreatDoor
open Go.RowKit Word
attribute [local go_sem] setCell_drewN cell?_ext frozen?_ext shape?_ext setCell_ext lt_1' ne_1' en_1' le_1' lt_2' ne_2' en_2' le_2' lt_3' ne_3' en_3' le_3' lt_4' ne_4' en_4' le_4' lt_5' ne_5' en_5' le_5' lt_6' ne_6' en_6' le_6' lt_7' ne_7' en_7' le_7' lt_8' ne_8' en_8' le_8' lt_9' ne_9' en_9' le_9' lt_10' ne_10' en_10' le_10' lt_11' ne_11' en_11' le_11' lt_12' ne_12' en_12' le_12'

theorem mod_p1 (c : Nat) : c % p10 1 = c % 10 := by unfold p10; rw [Nat.pow_one]
theorem form_out {neg : Bool} {c : Nat} {s : Int} (h : s < 0 ∨ 18 < s ∨ ¬ c < 10 ^ 34) : formB neg c s = false := by
  unfold formB
  refine decide_eq_false fun ⟨h1, h2, h3, _, _⟩ => ?_
  rcases h with h | h | h
  · omega
  · omega
  · exact h h1
theorem form_none {neg : Bool} {c : Nat} (h : c < 10 ^ 34) : formB neg c 0 = (!neg || !decide (c = 0)) := by
  unfold formB
  cases neg with
  | false => exact decide_eq_true (And.intro h (And.intro (by decide) (And.intro (by decide) (And.intro (fun _ h => nomatch h) (fun h => absurd rfl h)))))
  | true =>
    by_cases h0 : c = 0
    · rw [decide_eq_true h0]; exact decide_eq_false fun ⟨_, _, _, h4, _⟩ => h4 rfl rfl h0
    · rw [decide_eq_false h0]; exact decide_eq_true ⟨h, by decide, by decide, fun _ _ => h0, fun h => absurd rfl h⟩
theorem form_some {neg : Bool} {c : Nat} {s : Int} (h : c < 10 ^ 34) (h1 : ¬ s < 0) (h2 : ¬ 18 < s) (h3 : s ≠ 0) : formB neg c s = !decide (c % 10 = 0) := by
  unfold formB
  by_cases h0 : c % 10 = 0
  · rw [decide_eq_true h0]; exact decide_eq_false fun ⟨_, _, _, _, h5⟩ => h5 h3 h0
  · rw [decide_eq_false h0]; exact decide_eq_true ⟨h, by omega, by omega, fun h => absurd h h3, fun _ => h0⟩
theorem split_one (c q r : Nat) (hc : c < top4) (hq : q = c / p10 1) (hr : r = c % 10) (w : World) (ht : Tens w) :
    Calls Tryz.prog 39 #[L c, .int .i64 1] w fun e w' => e = .returned (.tuple #[L q, W r]) ∧ Below w.heap.size w w' :=
  split_any c 1 q r hc (by omega) hq (by rw [mod_p1]; exact hr) w ht
set_option maxHeartbeats 4000000 in
theorem form_any (neg : Bool) (c : Nat) (s : Int) (hc : c < top2) (w : World) (ht : Tens w) :
    Calls Tryz.prog 20 #[D neg c s] w fun e w' => e = .returned (.bool (formB neg c s)) ∧ Below w.heap.size w w' := by
  have HT := Lib.hid (fun w' (hb : Below w.heap.size w w') => ht.below hb)
  clear ht
  by_cases h1 : s < 0
  · rw [form_out (.inl h1)]
    go_enter Tryz.func20, Tryz.ntmps20
    go_wp2
    go_ret
    exact ⟨rfl, by (repeat' (first | (with_reducible exact Below.refl _ _) | (with_reducible assumption) | (with_reducible refine Below.alloc ?_ ?_ _) | (with_reducible refine below_drewN ?_ _) | (with_reducible refine below_drew ?_) | (with_reducible refine below_ext ?_ ?_ _ _) | (with_reducible refine Below.setCell ?_ ?_ _) | (simp; done) | (simp; omega) | omega))⟩
  by_cases h2 : 18 < s
  · rw [form_out (.inr (.inl h2))]
    go_enter Tryz.func20, Tryz.ntmps20
    go_wp2
    go_ret
    exact ⟨rfl, by (repeat' (first | (with_reducible exact Below.refl _ _) | (with_reducible assumption) | (with_reducible refine Below.alloc ?_ ?_ _) | (with_reducible refine below_drewN ?_ _) | (with_reducible refine below_drew ?_) | (with_reducible refine below_ext ?_ ?_ _ _) | (with_reducible refine Below.setCell ?_ ?_ _) | (simp; done) | (simp; omega) | omega))⟩
  have h1f := fun w ht => fits_any c hc w ht
  by_cases h3 : c < 10 ^ 34
  · rw [decide_eq_true h3] at h1f
    have H1 := Lib.hid h1f
    by_cases h4 : s = 0
    · subst h4
      rw [form_none h3]
      have h5 := fun w => isZero_any neg c 0 w
      obtain ⟨z, hz⟩ : ∃ z, z = decide (c = 0) := ⟨_, rfl⟩
      rw [← hz] at h5 ⊢
      have H2 := Lib.hid h5
      clear h5 hz h3 hc h1f h1 h2
      cases neg with
      | false =>
        go_enter Tryz.func20, Tryz.ntmps20
        go_wp2_with (first
          | (go_at_call 37; ((with_reducible refine (H1.out _ (HT.out _ (by (repeat' (first | (with_reducible exact Below.refl _ _) | (with_reducible assumption) | (with_reducible refine Below.alloc ?_ ?_ _) | (with_reducible refine below_drewN ?_ _) | (with_reducible refine below_drew ?_) | (with_reducible refine below_ext ?_ ?_ _ _) | (with_reducible refine Below.setCell ?_ ?_ _) | (simp; done) | (simp; omega) | omega))))).mono ?_); rintro e w1 ⟨rfl, hb1⟩; obtain ⟨osA, dA, rfl⟩ := ext_of_below hb1; clear hb1))
          | (go_at_call 38; ((with_reducible refine (H2.out _).mono ?_); rintro e w1 ⟨rfl, hb1⟩; obtain ⟨osB, dB, rfl⟩ := ext_of_below hb1; clear hb1)))
        go_ret
        exact ⟨rfl, by (repeat' (first | (with_reducible exact Below.refl _ _) | (with_reducible assumption) | (with_reducible refine Below.alloc ?_ ?_ _) | (with_reducible refine below_drewN ?_ _) | (with_reducible refine below_drew ?_) | (with_reducible refine below_ext ?_ ?_ _ _) | (with_reducible refine Below.setCell ?_ ?_ _) | (simp; done) | (simp; omega) | omega))⟩
      | true =>
        go_enter Tryz.func20, Tryz.ntmps20
        go_wp2_with (first
          | (go_at_call 37; ((with_reducible refine (H1.out _ (HT.out _ (by (repeat' (first | (with_reducible exact Below.refl _ _) | (with_reducible assumption) | (with_reducible refine Below.alloc ?_ ?_ _) | (with_reducible refine below_drewN ?_ _) | (with_reducible refine below_drew ?_) | (with_reducible refine below_ext ?_ ?_ _ _) | (with_reducible refine Below.setCell ?_ ?_ _) | (simp; done) | (simp; omega) | omega))))).mono ?_); rintro e w1 ⟨rfl, hb1⟩; obtain ⟨osA, dA, rfl⟩ := ext_of_below hb1; clear hb1))
          | (go_at_call 38; ((with_reducible refine (H2.out _).mono ?_); rintro e w1 ⟨rfl, hb1⟩; obtain ⟨osB, dB, rfl⟩ := ext_of_below hb1; clear hb1)))
        go_ret
        exact ⟨rfl, by (repeat' (first | (with_reducible exact Below.refl _ _) | (with_reducible assumption) | (with_reducible refine Below.alloc ?_ ?_ _) | (with_reducible refine below_drewN ?_ _) | (with_reducible refine below_drew ?_) | (with_reducible refine below_ext ?_ ?_ _ _) | (with_reducible refine Below.setCell ?_ ?_ _) | (simp; done) | (simp; omega) | omega))⟩
    · have hc4 : c < top4 := by unfold top2 top4 at *; omega
      rw [form_some h3 h1 h2 h4]
      obtain ⟨r, hr⟩ : ∃ r, r = c % 10 := ⟨_, rfl⟩
      obtain ⟨q, hq⟩ : ∃ q, q = c / p10 1 := ⟨_, rfl⟩
      rw [← hr]
      have h5 := fun w => dlong_any c hc w
      have h6 := fun w ht => split_one c q r hc4 hq hr w ht
      have H2 := Lib.hid h5
      clear hr hq hc hc4 h5 h3 h1f
      by_cases h7 : r = 0
      · subst h7
        have e0 : W 0 = .agg #[.int .u64 0, .int .u64 0] := rfl
        rw [e0] at h6
        have H3 := Lib.hid h6
        clear h6 e0
        go_enter Tryz.func20, Tryz.ntmps20
        go_wp2_with (first
          | (go_at_call 37; ((with_reducible refine (H1.out _ (HT.out _ (by (repeat' (first | (with_reducible exact Below.refl _ _) | (with_reducible assumption) | (with_reducible refine Below.alloc ?_ ?_ _) | (with_reducible refine below_drewN ?_ _) | (with_reducible refine below_drew ?_) | (with_reducible refine below_ext ?_ ?_ _ _) | (with_reducible refine Below.setCell ?_ ?_ _) | (simp; done) | (simp; omega) | omega))))).mono ?_); rintro e w1 ⟨rfl, hb1⟩; obtain ⟨osA, dA, rfl⟩ := ext_of_below hb1; clear hb1))
          | (go_at_call 40; ((with_reducible refine (H2.out _).mono ?_); rintro e w1 ⟨rfl, hb1⟩; obtain ⟨osB, dB, rfl⟩ := ext_of_below hb1; clear hb1))
          | (go_at_call 39; ((with_reducible refine (H3.out _ (HT.out _ (by (repeat' (first | (with_reducible exact Below.refl _ _) | (with_reducible assumption) | (with_reducible refine Below.alloc ?_ ?_ _) | (with_reducible refine below_drewN ?_ _) | (with_reducible refine below_drew ?_) | (with_reducible refine below_ext ?_ ?_ _ _) | (with_reducible refine Below.setCell ?_ ?_ _) | (simp; done) | (simp; omega) | omega))))).mono ?_); rintro e w1 ⟨rfl, hb1⟩; obtain ⟨osC, dC, rfl⟩ := ext_of_below hb1; clear hb1)))
        go_ret
        exact ⟨rfl, by (repeat' (first | (with_reducible exact Below.refl _ _) | (with_reducible assumption) | (with_reducible refine Below.alloc ?_ ?_ _) | (with_reducible refine below_drewN ?_ _) | (with_reducible refine below_drew ?_) | (with_reducible refine below_ext ?_ ?_ _ _) | (with_reducible refine Below.setCell ?_ ?_ _) | (simp; done) | (simp; omega) | omega))⟩
      · rw [decide_eq_false h7]
        have H3 := Lib.hid h6
        have hnz := word_ne (b := r) (by omega)
        clear h6 h7
        rcases hnz with nz | ⟨nz, nz'⟩
        all_goals
          go_enter Tryz.func20, Tryz.ntmps20
          go_wp2_with (first
            | (go_at_call 37; ((with_reducible refine (H1.out _ (HT.out _ (by (repeat' (first | (with_reducible exact Below.refl _ _) | (with_reducible assumption) | (with_reducible refine Below.alloc ?_ ?_ _) | (with_reducible refine below_drewN ?_ _) | (with_reducible refine below_drew ?_) | (with_reducible refine below_ext ?_ ?_ _ _) | (with_reducible refine Below.setCell ?_ ?_ _) | (simp; done) | (simp; omega) | omega))))).mono ?_); rintro e w1 ⟨rfl, hb1⟩; obtain ⟨osA, dA, rfl⟩ := ext_of_below hb1; clear hb1))
            | (go_at_call 40; ((with_reducible refine (H2.out _).mono ?_); rintro e w1 ⟨rfl, hb1⟩; obtain ⟨osB, dB, rfl⟩ := ext_of_below hb1; clear hb1))
            | (go_at_call 39; ((with_reducible refine (H3.out _ (HT.out _ (by (repeat' (first | (with_reducible exact Below.refl _ _) | (with_reducible assumption) | (with_reducible refine Below.alloc ?_ ?_ _) | (with_reducible refine below_drewN ?_ _) | (with_reducible refine below_drew ?_) | (with_reducible refine below_ext ?_ ?_ _ _) | (with_reducible refine Below.setCell ?_ ?_ _) | (simp; done) | (simp; omega) | omega))))).mono ?_); rintro e w1 ⟨rfl, hb1⟩; obtain ⟨osC, dC, rfl⟩ := ext_of_below hb1; clear hb1)))
          go_ret
          exact ⟨rfl, by (repeat' (first | (with_reducible exact Below.refl _ _) | (with_reducible assumption) | (with_reducible refine Below.alloc ?_ ?_ _) | (with_reducible refine below_drewN ?_ _) | (with_reducible refine below_drew ?_) | (with_reducible refine below_ext ?_ ?_ _ _) | (with_reducible refine Below.setCell ?_ ?_ _) | (simp; done) | (simp; omega) | omega))⟩
  · rw [form_out (.inr (.inr h3))]
    rw [decide_eq_false h3] at h1f
    have H1 := Lib.hid h1f
    clear h1f h3 hc
    go_enter Tryz.func20, Tryz.ntmps20
    go_wp2_with (first
      | (go_at_call 37; ((with_reducible refine (H1.out _ (HT.out _ (by (repeat' (first | (with_reducible exact Below.refl _ _) | (with_reducible assumption) | (with_reducible refine Below.alloc ?_ ?_ _) | (with_reducible refine below_drewN ?_ _) | (with_reducible refine below_drew ?_) | (with_reducible refine below_ext ?_ ?_ _ _) | (with_reducible refine Below.setCell ?_ ?_ _) | (simp; done) | (simp; omega) | omega))))).mono ?_); rintro e w1 ⟨rfl, hb1⟩; obtain ⟨osA, dA, rfl⟩ := ext_of_below hb1; clear hb1)))
    go_ret
    exact ⟨rfl, by (repeat' (first | (with_reducible exact Below.refl _ _) | (with_reducible assumption) | (with_reducible refine Below.alloc ?_ ?_ _) | (with_reducible refine below_drewN ?_ _) | (with_reducible refine below_drew ?_) | (with_reducible refine below_ext ?_ ?_ _ _) | (with_reducible refine Below.setCell ?_ ?_ _) | (simp; done) | (simp; omega) | omega))⟩
end Go.Proofs.YtjkallelniggpaaGreatDoor
namespace Go.Proofs.YtjkallelniggpaaGreatDoor
open Go.RowKit Word
attribute [local go_sem] setCell_drewN cell?_ext frozen?_ext shape?_ext setCell_ext lt_1' ne_1' en_1' le_1' lt_2' ne_2' en_2' le_2' lt_3' ne_3' en_3' le_3' lt_4' ne_4' en_4' le_4' lt_5' ne_5' en_5' le_5' lt_6' ne_6' en_6' le_6' lt_7' ne_7' en_7' le_7' lt_8' ne_8' en_8' le_8' lt_9' ne_9' en_9' le_9' lt_10' ne_10' en_10' le_10' lt_11' ne_11' en_11' le_11' lt_12' ne_12' en_12' le_12'

theorem fitS_some {x : Option (Nat × Nat)} {c s : Nat} (h : x = some (c, s)) : fitC x = c ∧ fitZ x = (s : Int) ∧ fitE x = 0 := by subst h; exact ⟨rfl, rfl, rfl⟩
theorem FV_some {neg : Bool} {x : Option (Nat × Nat)} {m s : Nat} (h : x = some (Fit.strip m s)) : FV neg x = DS neg m s ∧ fitE x = 0 := by subst h; exact ⟨rfl, rfl⟩
theorem FV_none (neg : Bool) : FV neg none = .agg #[.bool false, .int .u64 0, .int .u64 0, .int .i64 0] := by
  cases neg <;> rfl
set_option maxRecDepth 100000 in
set_option maxHeartbeats 8000000 in
theorem dfit_any (neg : Bool) (n sc : Nat) (F : Option (Nat × Nat)) (hF : F = Fit.fit n (10 ^ sc) 19) (hn : n < top4) (hsc : sc ≤ 76) (w : World) (ht : Tens w) :
    Calls Tryz.prog 93 #[.bool neg, L n, .int .i64 (sc : Int)] w fun e w' => e = .returned (.tuple #[FV neg F, .int .i64 (fitE F)]) ∧ Below w.heap.size w w' := by
  have HT := Lib.hid (fun w' (hb : Below w.heap.size w w') => ht.below hb)
  rw [← Fit.fit_own] at hF
  have HF := Lib.hid hF
  obtain ⟨m, hm⟩ : ∃ m, m = min sc 18 := ⟨_, rfl⟩
  have hm1 : m ≤ 18 := by omega
  have hm2 : m ≤ sc := by omega
  have E1 : min sc 18 = m := hm.symm
  rw [E1] at HF
  clear ht hF hm
  go_enter Tryz.func93, Tryz.ntmps93
  go_wp2_with fail
  go_loopw [8] (fun s wr => ∃ k : Int, -1 ≤ k ∧ k ≤ m ∧ s = .int .i64 k ∧ Hid (F = Fit.fit n (10 ^ sc) (k + 1).toNat) ∧ Below ((w.alloc (.cells #[.int .u64 (w0 n : Int), .int .u64 (w1 n : Int), .int .u64 (w2 n : Int), .int .u64 (w3 n : Int)] 58)).alloc (.cells #[.bool false, .int .u64 0, .int .u64 0, .int .i64 0] 32)).heap.size ((w.alloc (.cells #[.int .u64 (w0 n : Int), .int .u64 (w1 n : Int), .int .u64 (w2 n : Int), .int .u64 (w3 n : Int)] 58)).alloc (.cells #[.bool false, .int .u64 0, .int .u64 0, .int .i64 0] 32)) wr)
    (fun s _ => (intOf s + 1).toNat)
  case atStart => exact ⟨m, by omega, by omega, by first | rfl | (congr 1; omega), Lib.hid (by rw [show ((m : Int) + 1).toNat = m + 1 by omega]; exact HF.out), Below.refl _ _⟩
  case round =>
    clear HF
    obtain ⟨k, hk1, hk2, rfl, HF, hbw⟩ := hrel
    obtain ⟨osX, dX, rfl⟩ := ext_of_below hbw
    clear hbw
    by_cases hk : k < 0
    · have hF := HF.out
      rw [show (k + 1).toNat = 0 by omega] at hF
      have hF2 : F = none := hF
      have EV := Lib.hid (show FV neg F = .agg #[.bool false, .int .u64 0, .int .u64 0, .int .i64 0] ∧ fitE F = 3 by rw [hF2]; exact ⟨FV_none neg, rfl⟩)
      clear hF hF2 HF
      go_wp2_with fail
      go_returns
      exact ⟨by rw [EV.out.1, EV.out.2], by (repeat' (first | (with_reducible exact Below.refl _ _) | (with_reducible assumption) | (with_reducible refine Below.alloc ?_ ?_ _) | (with_reducible refine below_drewN ?_ _) | (with_reducible refine below_drew ?_) | (with_reducible refine below_ext ?_ ?_ _ _) | (with_reducible refine Below.setCell ?_ ?_ _) | (simp; done) | (simp; omega) | omega))⟩
    · obtain ⟨K, rfl⟩ : ∃ K : Nat, k = (K : Int) := ⟨k.toNat, by omega⟩
      have hF := HF.out
      rw [show ((K : Int) + 1).toNat = K + 1 by omega, Fit.fit_succ, Fit.near_ten n K sc (by omega)] at hF
      obtain ⟨j, hj⟩ : ∃ j, j = sc - K := ⟨_, rfl⟩
      rw [← hj] at hF
      obtain ⟨mm, hmm⟩ : ∃ x, x = Fit.near n (10 ^ j) := ⟨_, rfl⟩
      have hnear : NearIs n (p10 j) mm := by rw [hmm]; exact near_isN n (10 ^ j)
      rw [← hmm] at hF
      have hj76 : j ≤ 76 := by omega
      have h1 := fun w ht => round_ok n j mm hnear hj76 hn w ht
      have E2 : (sc : Int) - (K : Int) = (j : Int) := by omega
      have E3 : IntKind.i64.wrap ((sc : Int) - (K : Int)) = (j : Int) := by rw [E2]; exact IntWalk.i64_in _ (by omega)
      have hK18 : K ≤ 18 := by omega
      clear hj hmm hnear HF
      by_cases h34 : mm < 10 ^ 34
      · rw [if_pos h34] at hF
        have EV := Lib.hid (FV_some (neg := neg) hF)
        have ht2 := lt34_top2 h34
        rw [show nw mm = mm from if_pos ht2, show ne mm = 0 from if_pos ht2] at h1
        have h2 := fun w ht => fits_any mm ht2 w ht
        rw [decide_eq_true h34] at h2
        have H1 := Lib.hid h1; have H2 := Lib.hid h2
        have H3 := Lib.hid (fun w ht => settle_any neg mm K ht2 hK18 w ht)
        clear h1 h2 hF h34 ht2
        go_wp2_with (first
          | (go_at_call 105; ((with_reducible refine (H1.out _ (HT.out _ (by (repeat' (first | (with_reducible exact Below.refl _ _) | (with_reducible assumption) | (with_reducible refine Below.alloc ?_ ?_ _) | (with_reducible refine below_drewN ?_ _) | (with_reducible refine below_drew ?_) | (with_reducible refine below_ext ?_ ?_ _ _) | (with_reducible refine Below.setCell ?_ ?_ _) | (simp; done) | (simp; omega) | omega))))).mono ?_); rintro e w1 ⟨rfl, hb1⟩; obtain ⟨osA, dA, rfl⟩ := ext_of_below hb1; clear hb1))
          | (go_at_call 37; ((with_reducible refine (H2.out _ (HT.out _ (by (repeat' (first | (with_reducible exact Below.refl _ _) | (with_reducible assumption) | (with_reducible refine Below.alloc ?_ ?_ _) | (with_reducible refine below_drewN ?_ _) | (with_reducible refine below_drew ?_) | (with_reducible refine below_ext ?_ ?_ _ _) | (with_reducible refine Below.setCell ?_ ?_ _) | (simp; done) | (simp; omega) | omega))))).mono ?_); rintro e w1 ⟨rfl, hb1⟩; obtain ⟨osB, dB, rfl⟩ := ext_of_below hb1; clear hb1))
          | (go_at_call 106; ((with_reducible refine (H3.out _ (HT.out _ (by (repeat' (first | (with_reducible exact Below.refl _ _) | (with_reducible assumption) | (with_reducible refine Below.alloc ?_ ?_ _) | (with_reducible refine below_drewN ?_ _) | (with_reducible refine below_drew ?_) | (with_reducible refine below_ext ?_ ?_ _ _) | (with_reducible refine Below.setCell ?_ ?_ _) | (simp; done) | (simp; omega) | omega))))).mono ?_); rintro e w1 ⟨rfl, hb1⟩; obtain ⟨osC, dC, rfl⟩ := ext_of_below hb1; clear hb1)))
        go_returns
        exact ⟨by rw [EV.out.1, EV.out.2], by (repeat' (first | (with_reducible exact Below.refl _ _) | (with_reducible assumption) | (with_reducible refine Below.alloc ?_ ?_ _) | (with_reducible refine below_drewN ?_ _) | (with_reducible refine below_drew ?_) | (with_reducible refine below_ext ?_ ?_ _ _) | (with_reducible refine Below.setCell ?_ ?_ _) | (simp; done) | (simp; omega) | omega))⟩
      · rw [if_neg h34] at hF
        have HF := Lib.hid (show F = Fit.fit n (10 ^ sc) (((K : Int) - 1) + 1).toNat by rw [show ((K : Int) - 1 + 1).toNat = K by omega]; exact hF)
        by_cases ht2 : mm < top2
        · rw [show nw mm = mm from if_pos ht2, show ne mm = 0 from if_pos ht2] at h1
          have h2 := fun w ht => fits_any mm ht2 w ht
          rw [decide_eq_false h34] at h2
          have H1 := Lib.hid h1; have H2 := Lib.hid h2
          clear h1 h2 hF h34 ht2
          go_wp2_with (first
            | (go_at_call 105; ((with_reducible refine (H1.out _ (HT.out _ (by (repeat' (first | (with_reducible exact Below.refl _ _) | (with_reducible assumption) | (with_reducible refine Below.alloc ?_ ?_ _) | (with_reducible refine below_drewN ?_ _) | (with_reducible refine below_drew ?_) | (with_reducible refine below_ext ?_ ?_ _ _) | (with_reducible refine Below.setCell ?_ ?_ _) | (simp; done) | (simp; omega) | omega))))).mono ?_); rintro e w1 ⟨rfl, hb1⟩; obtain ⟨osA, dA, rfl⟩ := ext_of_below hb1; clear hb1))
            | (go_at_call 37; ((with_reducible refine (H2.out _ (HT.out _ (by (repeat' (first | (with_reducible exact Below.refl _ _) | (with_reducible assumption) | (with_reducible refine Below.alloc ?_ ?_ _) | (with_reducible refine below_drewN ?_ _) | (with_reducible refine below_drew ?_) | (with_reducible refine below_ext ?_ ?_ _ _) | (with_reducible refine Below.setCell ?_ ?_ _) | (simp; done) | (simp; omega) | omega))))).mono ?_); rintro e w1 ⟨rfl, hb1⟩; obtain ⟨osB, dB, rfl⟩ := ext_of_below hb1; clear hb1)))
          go_roundw
          case rel => exact ⟨(K : Int) - 1, by omega, by omega, by go_num, HF, by (repeat' (first | (with_reducible exact Below.refl _ _) | (with_reducible assumption) | (with_reducible refine Below.alloc ?_ ?_ _) | (with_reducible refine below_drewN ?_ _) | (with_reducible refine below_drew ?_) | (with_reducible refine below_ext ?_ ?_ _ _) | (with_reducible refine Below.setCell ?_ ?_ _) | (simp; done) | (simp; omega) | omega))⟩
          case measure => simp [intOf] <;> omega
        · rw [show nw mm = 0 from if_neg ht2, show ne mm = 3 from if_neg ht2] at h1
          have H1 := Lib.hid h1
          clear h1 hF h34 ht2
          go_wp2_with (first
            | (go_at_call 105; ((with_reducible refine (H1.out _ (HT.out _ (by (repeat' (first | (with_reducible exact Below.refl _ _) | (with_reducible assumption) | (with_reducible refine Below.alloc ?_ ?_ _) | (with_reducible refine below_drewN ?_ _) | (with_reducible refine below_drew ?_) | (with_reducible refine below_ext ?_ ?_ _ _) | (with_reducible refine Below.setCell ?_ ?_ _) | (simp; done) | (simp; omega) | omega))))).mono ?_); rintro e w1 ⟨rfl, hb1⟩; obtain ⟨osA, dA, rfl⟩ := ext_of_below hb1; clear hb1)))
          go_roundw
          case rel => exact ⟨(K : Int) - 1, by omega, by omega, by go_num, HF, by (repeat' (first | (with_reducible exact Below.refl _ _) | (with_reducible assumption) | (with_reducible refine Below.alloc ?_ ?_ _) | (with_reducible refine below_drewN ?_ _) | (with_reducible refine below_drew ?_) | (with_reducible refine below_ext ?_ ?_ _ _) | (with_reducible refine Below.setCell ?_ ?_ _) | (simp; done) | (simp; omega) | omega))⟩
          case measure => simp [intOf] <;> omega
end Go.Proofs.YtjkallelniggpaaGreatDoor
