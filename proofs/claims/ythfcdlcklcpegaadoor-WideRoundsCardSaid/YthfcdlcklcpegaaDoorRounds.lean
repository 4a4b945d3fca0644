/-
  The law WideRounds.
-/
import Derived.Test.YthfcdlcklcpegaaDoorRefO
import Derived.Test.YthfcdlcklcpegaaDoorKnown
import Derived.Test.YthfcdlcklcpegaaDoorLong
namespace Go.Proofs.YthfcdlcklcpegaaDoor
open Go.RowKit Num Word
attribute [local go_sem] setCell_drewN cell?_ext frozen?_ext shape?_ext setCell_ext lt_1' ne_1' en_1' le_1' lt_2' ne_2' en_2' le_2' lt_3' ne_3' en_3' le_3' lt_4' ne_4' en_4' le_4' lt_5' ne_5' en_5' le_5' lt_6' ne_6' en_6' le_6' lt_7' ne_7' en_7' le_7' lt_8' ne_8' en_8' le_8' lt_9' ne_9' en_9' le_9' lt_10' ne_10' en_10' le_10' lt_11' ne_11' en_11' le_11' lt_12' ne_12' en_12' le_12'
attribute [local go_sem] lt_13' ne_13' en_13' le_13' lt_14' ne_14' en_14' le_14' lt_15' ne_15' en_15' le_15' lt_16' ne_16' en_16' le_16'

theorem below_one (W : World) : Below W.heap.size W (W.alloc (.cells #[.int .i64 1] 3)) := by (repeat' (first | (with_reducible exact Below.refl _ _) | (with_reducible assumption) | (with_reducible refine Below.alloc ?_ ?_ _) | (with_reducible refine below_drewN ?_ _) | (with_reducible refine below_drew ?_) | (with_reducible refine below_ext ?_ ?_ _ _) | (with_reducible refine Below.setCell ?_ ?_ _) | (simp; done) | (simp; omega) | omega))
theorem near_ex (n t : Nat) : ∃ m, NearIs n t m ∧ m ≤ n + 1 := by
  have hle := Nat.div_le_self n t
  unfold NearIs
  by_cases h1 : t < n % t + n % t
  · exact ⟨n / t + 1, .inl ⟨h1, rfl⟩, by omega⟩
  by_cases h2 : n % t + n % t = t
  · by_cases h3 : n / t % 2 = 1
    · exact ⟨n / t + 1, .inr (.inl ⟨h2, h3, rfl⟩), by omega⟩
    · exact ⟨n / t, .inr (.inr (.inl ⟨h2, by omega, rfl⟩)), by omega⟩
  · exact ⟨n / t, .inr (.inr (.inr ⟨by omega, rfl⟩)), by omega⟩
theorem p10_len (k : Nat) (hk : k ≤ 76) : (dg (10 ^ k)).length ≤ 1000 := Nat.le_trans (dg_len_le (k := 77).2 (Nat.pow_lt_pow_right (by decide) (by omega))) (by decide)
set_option maxRecDepth 100000 in
set_option maxHeartbeats 16000000 in
theorem docRound_any (n k m : Nat) (hm : NearIs n (10 ^ k) m) (hmn : m ≤ n + 1) (hk : k ≤ 76) (hn : n < top4) (w : World) :
    Calls Tryd.prog 27 #[L n, .int .i64 (k : Int)] w fun e w' => e = .returned (.tuple #[W (nw m), .int .i64 (ne m)]) ∧ Below w.heap.size w w' := by
  have H1 := Lib.hid (ofLong_any n (by unfold top4 at hn; exact hn))
  have h2 := fun va => rshift_any va 1 k (by decide) (by omega) (by rw [dg_one]; decide)
  rw [Nat.one_mul] at h2
  have H3 := Lib.hid (fun va vb => rnear_any va vb n (10 ^ k) m (Nat.pow_pos (by decide)) hm (by have := len4 hn; omega) (p10_len k hk))
  have hml : (dg m).length ≤ 100000 := Nat.le_trans (dg_len_mono hmn) (by
    have : (dg (n + 1)).length ≤ 79 := dg_len_le.2 (Nat.lt_of_le_of_lt hn (by decide))
    omega)
  have H4 := Lib.hid (fun v => told_any v m hml)
  have H2 := Lib.hid h2
  have hk0 : ¬ (k : Int) < 0 := by omega
  have hk2 : ¬ (76 : Int) < (k : Int) := by omega
  clear h2 hm hmn hn hml
  go_enter Tryd.func27, Tryd.ntmps27
  have hk0 : ¬ (k : Int) < 0 := by omega
  have hk2 : ¬ (76 : Int) < (k : Int) := by omega
  go_wp2_with (first
    | (go_at_call 46; ((with_reducible refine (H1.out _).mono ?_); rintro e w1 ⟨v1, rfl, r1, b1⟩))
    | (go_at_call 47; ((with_reducible refine (H2.out _ _ (lit_one w1).rd).mono ?_); rintro e w2 ⟨v2, rfl, r2, b2⟩))
    | (go_at_call 53; ((with_reducible refine (H3.out _ _ _ ((r1.rd.later (below_one w1)).later b2) r2.rd).mono ?_); rintro e w3 ⟨v3, rfl, r3, b3⟩))
    | (go_at_call 33; ((with_reducible refine (H4.out _ _ r3.rd).mono ?_); rintro e w4 ⟨rfl, b4⟩; clear r1 r2 r3; obtain ⟨os1, d1, rfl⟩ := ext_of_below b1; clear b1; obtain ⟨os2, d2, rfl⟩ := ext_of_below b2; clear b2; obtain ⟨os3, d3, rfl⟩ := ext_of_below b3; clear b3; obtain ⟨os4, d4, rfl⟩ := ext_of_below b4; clear b4)))
  go_returns
  exact ⟨rfl, by (repeat' (first | (with_reducible exact Below.refl _ _) | (with_reducible assumption) | (with_reducible refine Below.alloc ?_ ?_ _) | (with_reducible refine below_drewN ?_ _) | (with_reducible refine below_drew ?_) | (with_reducible refine below_ext ?_ ?_ _ _) | (with_reducible refine Below.setCell ?_ ?_ _) | (simp; done) | (simp; omega) | omega))⟩
set_option maxHeartbeats 4000000 in
theorem docRound_arg (n : Nat) (k : Int) (hk : k < 0 ∨ (¬ k < 0 ∧ 76 < k)) (w : World) :
    Calls Tryd.prog 27 #[L n, .int .i64 k] w fun e w' => e = .returned (.tuple #[.agg #[.int .u64 0, .int .u64 0], .int .i64 1]) ∧ Below w.heap.size w w' := by
  rcases hk with hk | ⟨h0, hk⟩
  all_goals
    go_enter Tryd.func27, Tryd.ntmps27
    go_wp2
    go_returns
    exact ⟨rfl, by (repeat' (first | (with_reducible exact Below.refl _ _) | (with_reducible assumption) | (with_reducible refine Below.alloc ?_ ?_ _) | (with_reducible refine below_drewN ?_ _) | (with_reducible refine below_drew ?_) | (with_reducible refine below_ext ?_ ?_ _ _) | (with_reducible refine Below.setCell ?_ ?_ _) | (simp; done) | (simp; omega) | omega))⟩
set_option maxHeartbeats 4000000 in
theorem round_arg (n : Nat) (k : Int) (hk : k < 0 ∨ (¬ k < 0 ∧ 76 < k)) (w : World) :
    Calls Tryd.prog 28 #[L n, .int .i64 k] w fun e w' => e = .returned (.tuple #[.agg #[.int .u64 0, .int .u64 0], .int .i64 1]) ∧ Below w.heap.size w w' := by
  rcases hk with hk | ⟨h0, hk⟩
  all_goals
    go_enter Tryd.func28, Tryd.ntmps28
    go_wp2
    go_returns
    exact ⟨rfl, by (repeat' (first | (with_reducible exact Below.refl _ _) | (with_reducible assumption) | (with_reducible refine Below.alloc ?_ ?_ _) | (with_reducible refine below_drewN ?_ _) | (with_reducible refine below_drew ?_) | (with_reducible refine below_ext ?_ ?_ _ _) | (with_reducible refine Below.setCell ?_ ?_ _) | (simp; done) | (simp; omega) | omega))⟩
set_option maxRecDepth 100000 in
set_option maxHeartbeats 16000000 in
theorem rounds_walk (n : Nat) (k : Int) (x y : Nat) (m : Int) (w : World) (ht : Tens w)
    (h1 : ∀ w, Calls Tryd.prog 27 #[L n, .int .i64 k] w fun e w' => e = .returned (.tuple #[.agg #[.int .u64 (x : Int), .int .u64 (y : Int)], .int .i64 m]) ∧ Below w.heap.size w w')
    (h2 : ∀ w, Tens w → Calls Tryd.prog 28 #[L n, .int .i64 k] w fun e w' => e = .returned (.tuple #[.agg #[.int .u64 (x : Int), .int .u64 (y : Int)], .int .i64 m]) ∧ Below w.heap.size w w') :
    Calls Tryd.prog 6 #[L n, .int .i64 k] w fun e w' => e = .returned (.bool true) ∧ Below w.heap.size w w' := by
  have hHT := Lib.hid (fun w' (hb : Below w.heap.size w w') => ht.below hb)
  have H1 := Lib.hid h1; have H2 := Lib.hid h2
  clear h1 h2 ht
  go_enter Tryd.func6, Tryd.ntmps6
  go_wp2_with (first
    | (go_at_call 8; ((with_reducible refine (known_any _ (hHT.out _ (by (repeat' (first | (with_reducible exact Below.refl _ _) | (with_reducible assumption) | (with_reducible refine Below.alloc ?_ ?_ _) | (with_reducible refine below_drewN ?_ _) | (with_reducible refine below_drew ?_) | (with_reducible refine below_ext ?_ ?_ _ _) | (with_reducible refine Below.setCell ?_ ?_ _) | (simp; done) | (simp; omega) | omega))))).mono ?_); rintro e w1 ⟨rfl, hb1⟩; obtain ⟨osA, dA, rfl⟩ := ext_of_below hb1; clear hb1))
    | (go_at_call 27; ((with_reducible refine (H1.out _).mono ?_); rintro e w1 ⟨rfl, hb1⟩; obtain ⟨osB, dB, rfl⟩ := ext_of_below hb1; clear hb1))
    | (go_at_call 28; ((with_reducible refine (H2.out _ (hHT.out _ (by (repeat' (first | (with_reducible exact Below.refl _ _) | (with_reducible assumption) | (with_reducible refine Below.alloc ?_ ?_ _) | (with_reducible refine below_drewN ?_ _) | (with_reducible refine below_drew ?_) | (with_reducible refine below_ext ?_ ?_ _ _) | (with_reducible refine Below.setCell ?_ ?_ _) | (simp; done) | (simp; omega) | omega))))).mono ?_); rintro e w1 ⟨rfl, hb1⟩; obtain ⟨osC, dC, rfl⟩ := ext_of_below hb1; clear hb1)))
  go_ret
  exact ⟨rfl, by (repeat' (first | (with_reducible exact Below.refl _ _) | (with_reducible assumption) | (with_reducible refine Below.alloc ?_ ?_ _) | (with_reducible refine below_drewN ?_ _) | (with_reducible refine below_drew ?_) | (with_reducible refine below_ext ?_ ?_ _ _) | (with_reducible refine Below.setCell ?_ ?_ _) | (simp; done) | (simp; omega) | omega))⟩
theorem rounds_law (n : Nat) (k : Int) (hn : n < top4) (_wk : (Lit.int .i64 k).wf = true) (w : World) (ht : Tens w) :
    Calls Tryd.prog 6 #[L n, .int .i64 k] w fun e w' => e = .returned (.bool true) ∧ Below w.heap.size w w' := by
  by_cases hk : 0 ≤ k ∧ k ≤ 76
  · obtain ⟨j, rfl⟩ : ∃ j : Nat, k = (j : Int) := ⟨k.toNat, by omega⟩
    obtain ⟨m, hm, hmn⟩ := near_ex n (10 ^ j)
    exact rounds_walk n _ (hi (nw m)) (lo (nw m)) (ne m) w ht (docRound_any n j m hm hmn (by omega) hn) (fun w h => round_ok n j m hm (by omega) hn w h)
  · exact rounds_walk n k 0 0 1 w ht (docRound_arg n k (by omega)) (fun w _ => round_arg n k (by omega) w)
end Go.Proofs.YthfcdlcklcpegaaDoor
