/-
  The contract of wide.divPair: four words divided by two, of which the higher one isn't nought.
-/
import Derived.Test.YtjkallelniggpaaDoorDivThree
import Derived.Test.YtjkallelniggpaaDoorDivP
import Derived.BigRegion
namespace Go.Proofs.YtjkallelniggpaaDoor
open Go.RowKit Word
attribute [local go_sem] setCell_drewN cell?_ext frozen?_ext shape?_ext setCell_ext lt_1' ne_1' en_1' le_1' lt_2' ne_2' en_2' le_2' lt_3' ne_3' en_3' le_3' lt_4' ne_4' en_4' le_4' lt_5' ne_5' en_5' le_5' lt_6' ne_6' en_6' le_6' lt_7' ne_7' en_7' le_7' lt_8' ne_8' en_8' le_8' lt_9' ne_9' en_9' le_9' lt_10' ne_10' en_10' le_10' lt_11' ne_11' en_11' le_11' lt_12' ne_12' en_12' le_12'

theorem or_mod {a b s : Nat} (hb : b < 2 ^ s) (hs : s ≤ 64) : bits .or .u64 ((a * 2 ^ s % 18446744073709551616 : Nat) : Int) (b : Int) = ((a * 2 ^ s % 18446744073709551616 + b : Nat) : Int) := by
  have h2 : 2 ^ s ≤ 2 ^ 64 := Nat.pow_le_pow_right (by decide) hs
  have hb' : b < 18446744073709551616 := by omega
  have hd : 2 ^ s ∣ 18446744073709551616 := ⟨2 ^ (64 - s), by rw [← Nat.pow_add, show s + (64 - s) = 64 by omega]⟩
  rw [bits_or_u64_nat _ _ (Nat.mod_lt _ (by decide)) hb', nat_join s _ _ (by rw [Nat.mod_mod_of_dvd _ hd, Nat.mul_mod_left]) hb]
theorem or_mod' {a b s : Nat} (hb : b < 2 ^ s) (hs : s ≤ 64) : bits .or .u64 (b : Int) ((a * 2 ^ s % 18446744073709551616 : Nat) : Int) = ((a * 2 ^ s % 18446744073709551616 + b : Nat) : Int) := by
  have h2 : 2 ^ s ≤ 2 ^ 64 := Nat.pow_le_pow_right (by decide) hs
  have hb' : b < 18446744073709551616 := by omega
  have hd : 2 ^ s ∣ 18446744073709551616 := ⟨2 ^ (64 - s), by rw [← Nat.pow_add, show s + (64 - s) = 64 by omega]⟩
  rw [bits_or_u64_nat _ _ hb' (Nat.mod_lt _ (by decide)), Nat.or_comm, nat_join s _ _ (by rw [Nat.mod_mod_of_dvd _ hd, Nat.mul_mod_left]) hb]
theorem orI {a b s : Nat} (hb : b < 18446744073709551616) (hs : s ≤ 64) :
    bits .or .u64 (IntKind.u64.wrap ((a : Int) * 2 ^ s)) ((b : Int) / 2 ^ (64 - s)) = ((a * 2 ^ s % 18446744073709551616 + b / 2 ^ (64 - s) : Nat) : Int) := by
  rw [shl_mod, shr_eq]; exact or_mod (DivP.shr_lt hs hb) hs
theorem or_lt {a b s : Nat} (hb : b < 18446744073709551616) (hs : s ≤ 64) : a * 2 ^ s % 18446744073709551616 + b / 2 ^ (64 - s) < 18446744073709551616 := by
  have h1 := DivP.shr_lt hs hb
  have hd : 2 ^ s ∣ 18446744073709551616 := ⟨2 ^ (64 - s), by rw [← Nat.pow_add, show s + (64 - s) = 64 by omega]⟩
  have e64 : 2 ^ s * 2 ^ (64 - s) = 18446744073709551616 := by rw [← Nat.pow_add, show s + (64 - s) = 64 by omega]
  have h2 : a * 2 ^ s % 18446744073709551616 % 2 ^ s = 0 := by rw [Nat.mod_mod_of_dvd _ hd, Nat.mul_mod_left]
  have h3 : a * 2 ^ s % 18446744073709551616 < 18446744073709551616 := Nat.mod_lt _ (by decide)
  generalize a * 2 ^ s % 18446744073709551616 = c at *
  obtain ⟨k, hk⟩ := Nat.dvd_of_mod_eq_zero h2
  rw [hk, ← e64] at h3
  have h4 : k < 2 ^ (64 - s) := Nat.lt_of_mul_lt_mul_left h3
  have h5 : 2 ^ s * (k + 1) ≤ 2 ^ s * 2 ^ (64 - s) := Nat.mul_le_mul_left _ h4
  rw [Nat.mul_add, Nat.mul_one, ← hk, e64] at h5
  omega
set_option maxHeartbeats 4000000 in
theorem divPair_any (n d R : Nat) (hR0 : R = n % d) (hn : n < top4) (hd : d < top2) (hh : 0 < hi d) (w : World) :
    Calls Tryd.prog 117 #[L n, W d] w fun e w' => e = .returned (.tuple #[L (n / d), W R]) ∧ Below w.heap.size w w' := by
  have b1 := hi_lt hd
  have b0 := lo_lt d
  obtain ⟨l1, l2, l3, l4⟩ := bitLen_bounds hh b1
  obtain ⟨s, hs⟩ : ∃ s : Nat, s = 64 - Lib.bitLen (hi d) := ⟨_, rfl⟩
  have hs63 : s ≤ 63 := by omega
  have hs64 : s ≤ 64 := by omega
  have hsI : (64 - (Lib.bitLen (hi d) : Int)) = (s : Int) := by omega
  rw [show Lib.bitLen (hi d) - 1 = 63 - s by omega] at l3
  rw [show Lib.bitLen (hi d) = 64 - s by omega] at l4
  have HS := Lib.hid hsI
  clear hs hsI l1 l2
  -- the shifted divisor
  have e64 : 2 ^ (64 - s) * 2 ^ s = 18446744073709551616 := by rw [← Nat.pow_add, show 64 - s + s = 64 by omega]
  have e63 : 2 ^ (63 - s) * 2 ^ s = 9223372036854775808 := by rw [← Nat.pow_add, show 63 - s + s = 63 by omega]
  have hp : 0 < 2 ^ s := Nat.two_pow_pos s
  have hD1 : hi d * 2 ^ s + 2 ^ s ≤ 18446744073709551616 := by
    have : (hi d + 1) * 2 ^ s ≤ 2 ^ (64 - s) * 2 ^ s := Nat.mul_le_mul_right _ l4
    rw [Nat.add_mul, Nat.one_mul, e64] at this; exact this
  have hD2 : 9223372036854775808 ≤ hi d * 2 ^ s := by rw [← e63]; exact Nat.mul_le_mul_right _ l3
  have hsl := DivP.shr_lt hs64 b0
  have hsp := DivP.shl_split (x := lo d) hs64
  have hDe : d * 2 ^ s = hi d * 2 ^ s * 18446744073709551616 + lo d * 2 ^ s := by
    have h := hilo d
    have h2 : d * 2 ^ s = (hi d * 18446744073709551616 + lo d) * 2 ^ s := by rw [h]
    rw [h2, Nat.add_mul, Nat.mul_right_comm (hi d)]
  obtain ⟨D, hD⟩ : ∃ D, D = d * 2 ^ s := ⟨_, rfl⟩
  have hDw : D = (hi d * 2 ^ s + lo d / 2 ^ (64 - s)) * 18446744073709551616 + lo d * 2 ^ s % 18446744073709551616 := by rw [hD, hDe]; omega
  obtain ⟨dh, dl⟩ := of_words (h := hi d * 2 ^ s + lo d / 2 ^ (64 - s)) (l := lo d * 2 ^ s % 18446744073709551616) (Nat.mod_lt _ (by decide))
  rw [← hDw] at dh dl
  have A1 : bits .or .u64 (IntKind.u64.wrap ((hi d : Int) * 2 ^ s)) ((lo d : Int) / 2 ^ (64 - s)) = (hi D : Int) := by
    rw [orI b0 hs64, dh, Nat.mod_eq_of_lt (by omega)]
  have A2 : IntKind.u64.wrap ((lo d : Int) * 2 ^ s) = (lo D : Int) := by rw [shl_mod, dl]
  have hDB : D < top2 := by rw [hDw]; unfold top2; omega
  have hDh : 9223372036854775808 ≤ hi D := by rw [dh]; omega
  have HD := Lib.hid hD
  clear hD hDw dh dl hDe hsp hsl hD1 hD2 e63 l3 l4
  -- the shifted number's words
  have v0 := w0_lt n
  have v1 := w1_lt n
  have v2 := w2_lt n
  have v3 := w3_lt n
  have h5 := DivP.five hs64 (words4 hn)
  have y3 := DivP.shr_lt hs64 v3
  have y2 := DivP.shr_lt hs64 v2
  have C2 := orI (a := w2 n) v1 hs64
  have C1 := orI (a := w1 n) v0 hs64
  have B2 := orI (a := w3 n) v2 hs64
  have z3 : w3 n * 2 ^ s % 18446744073709551616 + w2 n / 2 ^ (64 - s) < 18446744073709551616 := by
    have := or_lt (a := w3 n) v2 hs64
    exact this
  have z2 : w2 n * 2 ^ s % 18446744073709551616 + w1 n / 2 ^ (64 - s) < 18446744073709551616 := or_lt (a := w2 n) v1 hs64
  have z1 : w1 n * 2 ^ s % 18446744073709551616 + w0 n / 2 ^ (64 - s) < 18446744073709551616 := or_lt (a := w1 n) v0 hs64
  obtain ⟨m2, hm2⟩ : ∃ m, m = w2 n * 2 ^ s % 18446744073709551616 + w1 n / 2 ^ (64 - s) := ⟨_, rfl⟩
  obtain ⟨m1, hm1⟩ : ∃ m, m = w1 n * 2 ^ s % 18446744073709551616 + w0 n / 2 ^ (64 - s) := ⟨_, rfl⟩
  obtain ⟨m0, hm0⟩ : ∃ m, m = w0 n * 2 ^ s % 18446744073709551616 := ⟨_, rfl⟩
  obtain ⟨x3, hx3⟩ : ∃ m, m = w3 n * 2 ^ s % 18446744073709551616 + w2 n / 2 ^ (64 - s) := ⟨_, rfl⟩
  obtain ⟨c3, hc3⟩ : ∃ m, m = w3 n / 2 ^ (64 - s) := ⟨_, rfl⟩
  rw [← hm2, ← hm1, ← hm0, ← hx3, ← hc3] at h5
  rw [← hm2] at C2 z2
  rw [← hm1] at C1 z1
  rw [← hx3] at B2 z3
  rw [← hc3] at y3
  have C0 : IntKind.u64.wrap ((w0 n : Int) * 2 ^ s) = (m0 : Int) := by rw [shl_mod, hm0]
  have B1 : (w3 n : Int) / 2 ^ (64 - s) = (c3 : Int) := by rw [shr_eq, hc3]
  have z0 : m0 < 18446744073709551616 := by rw [hm0]; exact Nat.mod_lt _ (by decide)
  clear hm2 hm1 hm0 hx3 hc3 y2
  obtain ⟨T0, hT0⟩ : ∃ T, T = c3 * 18446744073709551616 + x3 := ⟨_, rfl⟩
  obtain ⟨t0h, t0l⟩ := of_words (h := c3) (l := x3) z3
  rw [← hT0] at t0h t0l h5
  have k0 : T0 < D := by
    have hh1 := hilo D
    have : 2 ^ s ≤ 2 ^ 63 := Nat.pow_le_pow_right (by decide) hs63
    rw [hT0]; omega
  rw [← t0h] at B1
  rw [← t0l] at B2
  have hD0 : 0 < hi D := by omega
  have hDp : 0 < D := by omega
  obtain ⟨q2, g2⟩ : ∃ a, a = (T0 * 18446744073709551616 + m2) / D := ⟨_, rfl⟩
  obtain ⟨T1, u1⟩ : ∃ a, a = (T0 * 18446744073709551616 + m2) % D := ⟨_, rfl⟩
  have k1 : T1 < D := by rw [u1]; exact Nat.mod_lt _ hDp
  have j2 : q2 ≤ 18446744073709551615 := by rw [g2]; exact three_top k0 z2
  have r2 : T0 * 18446744073709551616 + m2 = q2 * D + T1 := by rw [g2, u1]; exact (Nat.div_add_mod' _ _).symm
  obtain ⟨q1, g1⟩ : ∃ a, a = (T1 * 18446744073709551616 + m1) / D := ⟨_, rfl⟩
  obtain ⟨T2, u2⟩ : ∃ a, a = (T1 * 18446744073709551616 + m1) % D := ⟨_, rfl⟩
  have k2 : T2 < D := by rw [u2]; exact Nat.mod_lt _ hDp
  have j1 : q1 ≤ 18446744073709551615 := by rw [g1]; exact three_top k1 z1
  have r1 : T1 * 18446744073709551616 + m1 = q1 * D + T2 := by rw [g1, u2]; exact (Nat.div_add_mod' _ _).symm
  obtain ⟨q0, g0⟩ : ∃ a, a = (T2 * 18446744073709551616 + m0) / D := ⟨_, rfl⟩
  obtain ⟨T3, u3⟩ : ∃ a, a = (T2 * 18446744073709551616 + m0) % D := ⟨_, rfl⟩
  have k3 : T3 < D := by rw [u3]; exact Nat.mod_lt _ hDp
  have j0 : q0 ≤ 18446744073709551615 := by rw [g0]; exact three_top k2 z0
  have r0 : T2 * 18446744073709551616 + m0 = q0 * D + T3 := by rw [g0, u3]; exact (Nat.div_add_mod' _ _).symm
  have key := DivP.chain K2 K3 h5 r2 r1 r0
  rw [HD.out] at key k3
  obtain ⟨fq, fr⟩ := DivM.fin hp key k3
  rw [← hR0] at fr
  obtain ⟨p1, p2⟩ := DivP.shr_words (V := T3) hs64
  have F1 : (hi T3 : Int) / 2 ^ s = (hi R : Int) := by rw [shr_eq, ← fr]; exact congrArg Nat.cast p1.symm
  have F2 : bits .or .u64 ((lo T3 : Int) / 2 ^ s) (IntKind.u64.wrap ((hi T3 : Int) * 2 ^ (64 - s))) = (lo R : Int) := by
    have hl3 := DivP.shr_lt (x := lo T3) (s := 64 - s) (by omega) (lo_lt T3)
    rw [show 64 - (64 - s) = s by omega] at hl3
    rw [shr_eq, shl_mod, or_mod' hl3 (by omega), ← fr]
    exact congrArg Nat.cast ((Nat.add_comm _ _).trans p2.symm)
  have hL : num4 q0 q1 q2 0 = n / d := by rw [← fq]; unfold num4; omega
  have HL : .agg #[.int .u64 (q0 : Int), .int .u64 (q1 : Int), .int .u64 (q2 : Int), .int .u64 0] = L (n / d) := by
    rw [← hL]; exact (L_num4 (a := q0) (b := q1) (c := q2) (d := 0) (by omega) (by omega) (by omega) (by decide)).symm
  have HL' := Lib.hid HL
  have h2' := Lib.hid g2; have h1' := Lib.hid g1; have h0' := Lib.hid g0
  have i1 := Lib.hid u1; have i2 := Lib.hid u2; have i3 := Lib.hid u3
  clear h5 key k3 fq fr p1 p2 hL HL g2 g1 g0 u1 u2 u3 r2 r1 r0 e64 hp hT0 t0h t0l y3 z3 j0 j1 j2 hR0 hDh hDp
  go_enter Tryd.func117, Tryd.ntmps117
  go_wp2_with (first
    | (go_at_call 120; (with_reducible refine (Tryd.bits_LeadingZeros64 (hi d) _ (by omega) (by omega)).mono ?_); rintro e w1 ⟨rfl, rfl⟩; rw [Int.toNat_natCast, HS.out])
    | (go_at_call 121; ((with_reducible refine (divThree_any T0 m2 D q2 T1 h2'.out i1.out k0 hDB z2 hD0 _).mono ?_); rintro e w1 ⟨rfl, hb1⟩; obtain ⟨os1, d1, rfl⟩ := ext_of_below hb1; clear hb1))
    | (go_at_call 121; ((with_reducible refine (divThree_any T1 m1 D q1 T2 h1'.out i2.out k1 hDB z1 hD0 _).mono ?_); rintro e w1 ⟨rfl, hb1⟩; obtain ⟨os1, d1, rfl⟩ := ext_of_below hb1; clear hb1))
    | (go_at_call 121; ((with_reducible refine (divThree_any T2 m0 D q0 T3 h0'.out i3.out k2 hDB z0 hD0 _).mono ?_); rintro e w1 ⟨rfl, hb1⟩; obtain ⟨os1, d1, rfl⟩ := ext_of_below hb1; clear hb1)))
  clear h2' h1' h0' i1 i2 i3 HD HS C2 C1 C0 B1 B2 A1 A2 v0 v1 v2 v3 z0 z1 z2
  go_region
  all_goals
    go_wp2
    go_returns
    exact ⟨by rw [← HL'.out], by (repeat' (first | (with_reducible exact Below.refl _ _) | (with_reducible assumption) | (with_reducible refine Below.alloc ?_ ?_ _) | (with_reducible refine below_drewN ?_ _) | (with_reducible refine below_drew ?_) | (with_reducible refine below_ext ?_ ?_ _ _) | (with_reducible refine Below.setCell ?_ ?_ _) | (simp; done) | (simp; omega) | omega))⟩
end Go.Proofs.YtjkallelniggpaaDoor
