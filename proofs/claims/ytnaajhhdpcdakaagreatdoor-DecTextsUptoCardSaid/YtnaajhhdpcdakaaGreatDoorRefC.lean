/-
  The document's digits of words.
-/
import Derived.Test.YtnaajhhdpcdakaaGreatDoorRefB
namespace Go.Proofs.YtnaajhhdpcdakaaGreatDoor
open Go.RowKit Num
attribute [local go_sem] setCell_drewN cell?_ext frozen?_ext shape?_ext setCell_ext lt_1' ne_1' en_1' le_1' lt_2' ne_2' en_2' le_2' lt_3' ne_3' en_3' le_3' lt_4' ne_4' en_4' le_4' lt_5' ne_5' en_5' le_5' lt_6' ne_6' en_6' le_6' lt_7' ne_7' en_7' le_7' lt_8' ne_8' en_8' le_8' lt_9' ne_9' en_9' le_9' lt_10' ne_10' en_10' le_10' lt_11' ne_11' en_11' le_11' lt_12' ne_12' en_12' le_12'

/-- the slice v reads, in w, as the words of this number -/
def Ws (w : World) (v : Value) (n N : Nat) : Prop := ∃ g cap, v = .slice (some ⟨g, 0, none⟩) n cap ∧ g < w.heap.size ∧ ∀ j, j < n → w.cell? ⟨g, j, none⟩ = some (.int .u64 ((N / 2 ^ (64 * j) % 18446744073709551616 : Nat) : Int))
theorem bit_at (N i k : Nat) (hk : k < 64) : N / 2 ^ (64 * i) % 18446744073709551616 / 2 ^ k % 2 = N / 2 ^ (64 * i + k) % 2 := by
  have e : (18446744073709551616 : Nat) = 2 ^ k * 2 ^ (64 - k) := by rw [← Nat.pow_add, show k + (64 - k) = 64 by omega]
  rw [e, Nat.mod_mul_right_div_self, Nat.pow_add, ← Nat.div_div_eq_div_mul]
  have h2 : 2 ^ (64 - k) = 2 * 2 ^ (63 - k) := by rw [← Nat.pow_succ']; congr 1; omega
  rw [h2, Nat.mod_mul_right_mod]
theorem bit_step (N p : Nat) : N / 2 ^ p = 2 * (N / 2 ^ (p + 1)) + N / 2 ^ p % 2 := by
  rw [Nat.pow_succ, ← Nat.div_div_eq_div_mul]; omega
theorem and_one (a : Nat) (ha : a < 18446744073709551616) : bits .and .u64 (a : Int) 1 = ((a % 2 : Nat) : Int) := by
  have h := bits_and_u64_nat a 1 ha (by omega)
  rw [Nat.and_one_is_mod] at h
  exact h
set_option maxRecDepth 100000 in
set_option maxHeartbeats 4000000 in
theorem words_any (v : Value) (n N : Nat) (hn : n ≤ 4) (hN : N < 2 ^ (64 * n)) (w : World) (hr : Ws w v n N) :
    Calls Tryz.prog 74 #[v] w fun e w' => ∃ v', e = .returned v' ∧ RdP (fun g => w.heap.size ≤ g) w' v' (dg N) ∧ Below w.heap.size w w' := by
  obtain ⟨g, cap, rfl, hg, hx⟩ := hr
  have HX := Lib.hid hx
  clear hx
  go_enter Tryz.func74, Tryz.ntmps74
  go_wp2
  go_loopw [3, 4] (fun d i wr => ∃ (j : Nat) (z : Int), i = .int .i64 z ∧ z = (j : Int) - 1 ∧ j ≤ n ∧ Hid (RdP (fun g => w.heap.size ≤ g) wr d (dg (N / 2 ^ (64 * j)))) ∧ Hid (Below w.heap.size w wr)) (fun _ i _ => (intOf i + 1).toNat)
  case atStart => exact ⟨n, _, rfl, rfl, Nat.le_refl _, Lib.hid (by rw [Nat.div_eq_of_lt hN, dg_zero]; exact RdP.nil w), Lib.hid (by (repeat' (first | (with_reducible exact Below.refl _ _) | (with_reducible assumption) | (with_reducible refine Below.alloc ?_ ?_ _) | (with_reducible refine below_drewN ?_ _) | (with_reducible refine below_drew ?_) | (with_reducible refine below_ext ?_ ?_ _ _) | (with_reducible refine Below.setCell ?_ ?_ _) | (simp; done) | (simp; omega) | omega)))⟩
  case round =>
    obtain ⟨j, z, rfl, hz, hj, hd, hbel⟩ := hrel
    by_cases h0 : j = 0
    · subst h0
      have hzn : ¬ (0 : Int) ≤ z := by omega
      have hd2 := hd.out
      rw [Nat.mul_zero, Nat.pow_zero, Nat.div_one] at hd2
      have HD := Lib.hid hd2
      clear hz hd2 hd
      go_wp2
      go_ret
      exact ⟨_, rfl, HD.out, hbel.out⟩
    obtain ⟨q, rfl⟩ : ∃ q, j = q + 1 := ⟨j - 1, by omega⟩
    obtain rfl : z = (q : Int) := by omega
    have hq : q < n := by omega
    have hqi : (q : Int) < n := by omega
    clear hz h0
    go_wp2
    go_loopw [3, 5] (fun d i wr2 => ∃ (m : Nat) (z : Int), i = .int .i64 z ∧ z = (m : Int) - 1 ∧ m ≤ 64 ∧ Hid (RdP (fun g => w.heap.size ≤ g) wr2 d (dg (N / 2 ^ (64 * q + m)))) ∧ Hid (Below w.heap.size w wr2)) (fun _ i _ => (intOf i + 1).toNat)
    case atStart => exact ⟨64, _, rfl, rfl, Nat.le_refl _, Lib.hid hd.out, hbel⟩
    case round =>
      obtain ⟨m, z, rfl, hz, hm, hd2, hbel2⟩ := hrel
      by_cases h0 : m = 0
      · subst h0
        have hzn : ¬ (0 : Int) ≤ z := by omega
        clear hz hd hbel
        go_wp2
        go_roundw
        case rel => exact ⟨q, _, rfl, rfl, by omega, hd2, hbel2⟩
        case measure => simp only [intOf]; omega
      obtain ⟨k, rfl⟩ : ∃ k, m = k + 1 := ⟨m - 1, by omega⟩
      obtain rfl : z = (k : Int) := by omega
      have hk : k < 64 := by omega
      have hki : (k : Int) < 64 := by omega
      have hcell : _ = _ := (hbel2.out.cell (p := ⟨g, q, none⟩) hg).trans (HX.out q hq)
      have hbit := bit_at N q k hk
      have hst := bit_step N (64 * q + k)
      obtain ⟨x, hxx⟩ : ∃ x, x = N / 2 ^ (64 * q) % 18446744073709551616 := ⟨_, rfl⟩
      rw [← hxx] at hcell hbit
      have hxl : x < 18446744073709551616 := by omega
      obtain ⟨b, hbb⟩ : ∃ b, b = x / 2 ^ k % 2 := ⟨_, rfl⟩
      have hb1 : b ≤ 1 := by omega
      have E1 : bits .and .u64 ((x : Int) / 2 ^ k) 1 = (b : Int) := by
        have h := and_one (x / 2 ^ k) (Nat.lt_of_le_of_lt (Nat.div_le_self _ _) hxl)
        rw [← hbb] at h
        rw [← h, Int.natCast_ediv, Int.natCast_pow]; rfl
      have W1 : wrap64 (b : Int) = (b : Int) := by unfold wrap64; omega
      rw [← hbb] at hbit
      rw [← hbit] at hst
      have hlen : (dg (N / 2 ^ (64 * q + (k + 1)))).length ≤ 100 := dg_len_le.2 (Nat.lt_of_le_of_lt (Nat.div_le_self _ _) (Nat.lt_of_lt_of_le hN (Nat.le_trans (Nat.pow_le_pow_right (by decide) (show 64 * n ≤ 256 by omega)) (by decide))))
      have htw := twice_any _ (dg (N / 2 ^ (64 * q + (k + 1)))) b hb1 (dig_dg _) (by omega) wr hd2.out.rd
      rw [twL_dg _ _ hb1, show 64 * q + (k + 1) = 64 * q + k + 1 by omega, ← hst] at htw
      have HT := Lib.hid htw
      clear hz h0 hd hbel hxx hbb htw hst hlen hd2 hbit
      go_wp2_with (go_at_call 92; ((with_reducible refine (HT.out).mono ?_); rintro e w' ⟨v', rfl, hrd, hb2⟩))
      go_roundw
      case rel => exact ⟨k, _, rfl, by omega, by omega, Lib.hid (hrd.weak fun g _ h => Nat.le_trans hbel2.out.size h), Lib.hid (hbel2.out.trans ⟨hb2.os, hb2.tape, hb2.output, hb2.size, fun k hk => hb2.block k (Nat.lt_of_lt_of_le hk hbel2.out.size)⟩)⟩
      case measure => simp only [intOf]; omega
end Go.Proofs.YtnaajhhdpcdakaaGreatDoor
