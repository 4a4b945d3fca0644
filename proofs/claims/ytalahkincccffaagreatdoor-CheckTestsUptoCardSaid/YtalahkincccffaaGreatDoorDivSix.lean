/-
  The contract of bits.Div64: quotient and rest of a number of two words by a greater word.
-/
import Derived.Test.YtalahkincccffaaGreatDoorBb
import Derived.Test.YtalahkincccffaaGreatDoorBa
import Derived.Lib.ItoaNum
import Derived.Deep.DeepCutAuto
import Derived.Deep.CutBlock
namespace Go.Proofs.YtalahkincccffaaGreatDoor
open Go.RowKit Word
attribute [local go_sem] setCell_drewN cell?_ext frozen?_ext shape?_ext setCell_ext lt_1' ne_1' en_1' le_1' lt_2' ne_2' en_2' le_2' lt_3' ne_3' en_3' le_3' lt_4' ne_4' en_4' le_4' lt_5' ne_5' en_5' le_5' lt_6' ne_6' en_6' le_6' lt_7' ne_7' en_7' le_7' lt_8' ne_8' en_8' le_8' lt_9' ne_9' en_9' le_9' lt_10' ne_10' en_10' le_10' lt_11' ne_11' en_11' le_11' lt_12' ne_12' en_12' le_12'

theorem bitLen_bounds {y : Nat} (h0 : 0 < y) (h : y < 18446744073709551616) : 1 ≤ Lib.bitLen y ∧ Lib.bitLen y ≤ 64 ∧ 2 ^ (Lib.bitLen y - 1) ≤ y ∧ y < 2 ^ Lib.bitLen y := by
  obtain ⟨a, b, c⟩ := Lib.bitLenAux_bounds 64 y h (by omega)
  exact ⟨a, Lib.bitLen_le y 64 (by omega) h, b, c⟩
theorem shl_eq {a s : Nat} (h : a * 2 ^ s < 18446744073709551616) : IntKind.u64.wrap ((a : Int) * 2 ^ s) = ((a * 2 ^ s : Nat) : Int) := by
  have e : (a : Int) * 2 ^ s = ((a * 2 ^ s : Nat) : Int) := by simp
  rw [e]; exact wrapN _ h
theorem shl_mod (a s : Nat) : IntKind.u64.wrap ((a : Int) * 2 ^ s) = ((a * 2 ^ s % 18446744073709551616 : Nat) : Int) := by
  have e : (a : Int) * 2 ^ s = ((a * 2 ^ s : Nat) : Int) := by simp
  rw [e]; exact wrapM _
theorem shr_eq (a s : Nat) : (a : Int) / 2 ^ s = ((a / 2 ^ s : Nat) : Int) := by simp
theorem or_eq {a b s : Nat} (ha : a * 2 ^ s < 18446744073709551616) (hb : b < 2 ^ s) (hs : s ≤ 63) : bits .or .u64 ((a * 2 ^ s : Nat) : Int) (b : Int) = ((a * 2 ^ s + b : Nat) : Int) := by
  have h2 : 2 ^ s ≤ 2 ^ 63 := Nat.pow_le_pow_right (by decide) hs
  have hb' : b < 18446744073709551616 := by omega
  rw [bits_or_u64_nat _ _ ha hb', nat_join s _ _ (Nat.mul_mod_left _ _) hb]
theorem mulw_eq (a b : Nat) : IntKind.u64.wrap ((a : Int) * (b : Int)) = ((a * b % 18446744073709551616 : Nat) : Int) := by rw [mulN]; exact wrapM _
theorem ret2_nat {a b c d : Nat} (h1 : a = c) (h2 : b = d) : Ending.returned (.tuple #[.int .u64 (a : Int), .int .u64 (b : Int)]) = .returned (.tuple #[.int .u64 (c : Int), .int .u64 (d : Int)]) := by rw [h1, h2]

theorem prod_lt {q y0 : Nat} (h1 : q ≤ 4294967297) (h2 : y0 < 4294967296) : q * y0 < 18446744073709551616 := by
  have : q * y0 ≤ 4294967297 * 4294967295 := Nat.mul_le_mul h1 (by omega)
  omega

set_option maxHeartbeats 4000000 in
set_option maxRecDepth 100000 in
theorem div64_gen (h l y : Nat) (hh : 0 < h) (hy : h < y) (hyB : y < 18446744073709551616) (hl : l < 18446744073709551616) (w : World) :
    Calls Tryz.prog 112 #[.int .u64 h, .int .u64 l, .int .u64 y] w fun e w' => e = .returned (.tuple #[.int .u64 ((h * 18446744073709551616 + l) / y : Nat), .int .u64 ((h * 18446744073709551616 + l) % y : Nat)]) ∧ w = w' := by
  have h1 : ¬ y = 0 := by omega
  have h2 : ¬ y ≤ h := by omega
  have h3 : ¬ h = 0 := by omega
  obtain ⟨b1, b2, b3, b4⟩ := bitLen_bounds (y := y) (by omega) hyB
  obtain ⟨s, hs⟩ : ∃ s : Nat, s = 64 - Lib.bitLen y := ⟨_, rfl⟩
  have hs64 : s ≤ 63 := by omega
  have hsI : (64 - (Lib.bitLen y : Int)) = (s : Int) := by omega
  rw [show Lib.bitLen y - 1 = 63 - s by omega] at b3
  rw [show Lib.bitLen y = 64 - s by omega] at b4
  obtain ⟨n1, n2, n3, n4, n5, n6⟩ := DivM.norm hs64 b3 b4 hy hl
  have HS := Lib.hid hsI
  clear hs hsI b1 b2 b3 b4
  -- the shifted numbers by name
  obtain ⟨Y, hY⟩ : ∃ Y, Y = y * 2 ^ s := ⟨_, rfl⟩
  obtain ⟨X, hX⟩ : ∃ X, X = h * 2 ^ s + l / 2 ^ (64 - s) := ⟨_, rfl⟩
  obtain ⟨Z, hZ⟩ : ∃ Z, Z = l * 2 ^ s % 18446744073709551616 := ⟨_, rfl⟩
  have E1 : IntKind.u64.wrap ((y : Int) * 2 ^ s) = (Y : Int) := by rw [hY]; exact shl_eq n2
  have E4 : bits .or .u64 (IntKind.u64.wrap ((h : Int) * 2 ^ s)) ((l : Int) / 2 ^ (64 - s)) = (X : Int) := by rw [hX, shl_eq n3, shr_eq]; exact or_eq n3 n4 hs64
  have E5 : IntKind.u64.wrap ((l : Int) * 2 ^ s) = (Z : Int) := by rw [hZ]; exact shl_mod _ _
  have hZB : Z < 18446744073709551616 := by rw [hZ]; exact Nat.mod_lt _ (by decide)
  rw [← hX, ← hZ] at n6
  rw [← hX, ← hY] at n5
  rw [← hY] at n1 n2
  clear n3 n4
  have HX := Lib.hid hX
  have HZ := Lib.hid hZ
  have HY := Lib.hid hY
  have N6 := Lib.hid n6
  clear hX hZ hY n6
  obtain ⟨y1, hy1⟩ : ∃ a, a = Y / 4294967296 := ⟨_, rfl⟩
  obtain ⟨y0, hy0⟩ : ∃ a, a = Y % 4294967296 := ⟨_, rfl⟩
  obtain ⟨z1, hz1⟩ : ∃ a, a = Z / 4294967296 := ⟨_, rfl⟩
  obtain ⟨z0, hz0⟩ : ∃ a, a = Z % 4294967296 := ⟨_, rfl⟩
  have E2 : (Y : Int) / 4294967296 = (y1 : Int) := by rw [hy1]; exact divN Y
  have E3 : bits .and .u64 (Y : Int) 4294967295 = (y0 : Int) := by rw [hy0]; exact maskN Y n2
  have E6 : (Z : Int) / 4294967296 = (z1 : Int) := by rw [hz1]; exact divN Z
  have E7 : bits .and .u64 (Z : Int) 4294967295 = (z0 : Int) := by rw [hz0]; exact maskN Z hZB
  have k1 : 2147483648 ≤ y1 := by omega
  have k2 : y1 < 4294967296 := by omega
  have k3 : y0 < 4294967296 := by omega
  have k4 : z1 < 4294967296 := by omega
  have k5 : z0 < 4294967296 := by omega
  have hYe : y1 * 4294967296 + y0 = Y := by rw [hy1, hy0]; exact Nat.div_add_mod' Y 4294967296
  have hZe : z1 * 4294967296 + z0 = Z := by rw [hz1, hz0]; exact Nat.div_add_mod' Z 4294967296
  have HYe := Lib.hid hYe
  have HZe := Lib.hid hZe
  have hst : Est.Ok 4294967296 X z1 y1 y0 (X / y1) (X % y1) := Est.start (Nat.lt_of_lt_of_eq n5 hYe.symm) k3 (by omega) k4
  clear hy1 hy0 hz1 hz0 hYe hZe
  obtain ⟨q, hq⟩ : ∃ a, a = X / y1 := ⟨_, rfl⟩
  obtain ⟨r, hr⟩ : ∃ a, a = X % y1 := ⟨_, rfl⟩
  obtain ⟨qy, hqy⟩ : ∃ a, a = q * y1 := ⟨_, rfl⟩
  rw [← hq, ← hr] at hst
  have hqe := hst.eq
  rw [← hqy] at hqe
  have hr1 : r < 4294967296 := by rw [hr]; exact Nat.lt_trans (Nat.mod_lt _ (by omega)) k2
  have E8 : (X : Int) / (y1 : Int) = (q : Int) := by rw [hq]; rfl
  have E9 : IntKind.u64.wrap ((q : Int) * (y1 : Int)) = (qy : Int) := by rw [mulw_eq, ← hqy, Nat.mod_eq_of_lt (by omega)]
  have E10 : IntKind.u64.wrap ((X : Int) - (qy : Int)) = (r : Int) := by rw [show (X : Int) - (qy : Int) = (r : Int) by omega]; exact wrapN r (by omega)
  have k7 : q ≤ 4294967297 := hst.hi
  have E11 : IntKind.u64.wrap (q : Int) = (q : Int) := wrapN q (by omega)
  have k6 : qy ≤ X := by omega
  have HST := Lib.hid hst
  clear hst hqe hq hr hqy
  -- the two digits by name
  obtain ⟨Q, hQ⟩ : ∃ a, a = (X * 4294967296 + z1) / Y := ⟨_, rfl⟩
  have HQ := Lib.hid hQ
  clear hQ
  go_enter Tryz.func112, Tryz.ntmps112
  go_upto_block 0 with (go_at_call 113; (with_reducible refine (Tryz.bits_LeadingZeros64 y _ (by omega) (by omega)).mono ?_); rintro e w1 ⟨rfl, rfl⟩; rw [Int.toNat_natCast, HS.out])
  go_cut [15] (fun s15 wx => s15 = .int .u64 (Q : Int) ∧ wx = w1)
  case first =>
    go_wp2_with fail
    go_loop [15, 16] (fun a b => ∃ q r : Nat, a = .int .u64 (q : Int) ∧ b = .int .u64 (r : Int) ∧ Est.Ok 4294967296 X z1 y1 y0 q r ∧ r < 4294967296) (fun a _ => (intOf a).toNat)
    case atStart => exact ⟨q, r, rfl, rfl, HST.out, hr1⟩
    case round =>
      clear E8 E9 E10 E11 k6 k7 HST hr1 E1 E2 E3 E4 E5 E6 E7 hZB
      obtain ⟨q, r, rfl, rfl, hok, hr⟩ := hrel
      have k7 : q ≤ 4294967297 := hok.hi
      have HOK := Lib.hid hok
      clear hok
      obtain ⟨m, hm⟩ : ∃ m, m = q * y0 := ⟨_, rfl⟩
      have hmB : m < 18446744073709551616 := hm ▸ prod_lt k7 k3
      by_cases T : X * 4294967296 + z1 < q * (y1 * 4294967296 + y0)
      · obtain ⟨g1, g2, g3⟩ := Est.step HOK.out T
        have g4 : 4294967296 * r + z1 < m := by rw [hm, Nat.mul_comm 4294967296]; exact (Est.test HOK.out).2 T
        have G2 := Lib.hid g2
        clear g2 T HOK
        obtain ⟨p, rfl⟩ : ∃ p, q = p + 1 := ⟨q - 1, by omega⟩
        rw [Nat.add_sub_cancel] at G2 g3
        have EM : IntKind.u64.wrap (((p : Int) + 1) * (y0 : Int)) = (m : Int) := by
          rw [show ((p : Int) + 1) = ((p + 1 : Nat) : Int) from rfl, mulw_eq, ← hm, Nat.mod_eq_of_lt hmB]
        have g5 : (4294967296 : Int) * (r : Int) + (z1 : Int) < (m : Int) := by omega
        have hN := HYe.out
        clear hm g4
        by_cases hb : 4294967296 ≤ r + y1
        · have hQ : Q = p := by rw [HQ.out, ← HYe.out]; exact (Est.done G2.out (by omega) (Est.over G2.out k3 hb g3)).symm
          subst hQ
          have hb' : (4294967296 : Int) ≤ (r : Int) + (y1 : Int) := by omega
          clear hb n1 n2 n5 hh hy hyB hl h1 h2 h3 hmB g3 g1 hN
          by_cases hq : (4294967296 : Int) ≤ (Q : Int) + 1
          · go_wp2_with fail
            go_meet
            exact ⟨rfl, rfl⟩
          · go_wp2_with fail
            go_meet
            exact ⟨rfl, rfl⟩
        · have hb' : ¬ (4294967296 : Int) ≤ (r : Int) + (y1 : Int) := by omega
          have HB := Lib.hid hb
          clear hb n1 n2 n5 hh hy hyB hl h1 h2 h3 hmB g3 g1 hN
          by_cases hq : (4294967296 : Int) ≤ (p : Int) + 1
          · go_wp2_with fail
            go_round
            case rel => exact ⟨p, r + y1, rfl, by go_num, G2.out, Nat.lt_of_not_le HB.out⟩
            case measure => simp [intOf]
          · go_wp2_with fail
            go_round
            case rel => exact ⟨p, r + y1, rfl, by go_num, G2.out, Nat.lt_of_not_le HB.out⟩
            case measure => simp [intOf]
      · have g4 : m ≤ 4294967296 * r + z1 := by
          rw [hm, Nat.mul_comm 4294967296]; exact Nat.le_of_not_lt fun hh => T ((Est.test HOK.out).1 hh)
        have hq : q < 4294967296 := Nat.lt_of_not_le fun hh => T (Est.big (Nat.lt_of_lt_of_eq n5 HYe.out.symm) k4 hh)
        have hN := HYe.out
        have hQ : Q = q := by rw [HQ.out, ← HYe.out]; exact (Est.done HOK.out (by omega) T).symm
        have EM : IntKind.u64.wrap ((q : Int) * (y0 : Int)) = (m : Int) := by rw [mulw_eq, ← hm, Nat.mod_eq_of_lt hmB]
        have g5 : ¬ (4294967296 : Int) * (r : Int) + (z1 : Int) < (m : Int) := by omega
        have hq' : ¬ (4294967296 : Int) ≤ (q : Int) := by omega
        clear T hm HOK g4 hq hN n1 n2 n5 hh hy hyB hl h1 h2 h3 hmB
        subst hQ
        go_wp2_with fail
        go_meet
        exact ⟨rfl, rfl⟩
  case rest =>
    obtain ⟨rfl, hwc⟩ := hcut
    subst hwc
    have hYp : 0 < Y := by omega
    obtain ⟨U, hU⟩ : ∃ a, a = (X * 4294967296 + z1) % Y := ⟨_, rfl⟩
    have u1 : U < Y := by rw [hU]; exact Nat.mod_lt _ hYp
    have d1 : X * 4294967296 + z1 = Q * Y + U := by rw [HQ.out, hU]; exact (Nat.div_add_mod' _ _).symm
    have q1 : Q < 4294967296 := by rw [HQ.out]; exact DivM.quo_le k4 n5
    obtain ⟨XB, hXB⟩ : ∃ a, a = X * 4294967296 % 18446744073709551616 := ⟨_, rfl⟩
    obtain ⟨QY, hQY⟩ : ∃ a, a = Q * Y % 18446744073709551616 := ⟨_, rfl⟩
    have kXB : XB ≤ 18446744069414584320 := by rw [hXB]; clear hXB d1; omega
    have F1 : IntKind.u64.wrap ((X : Int) * 4294967296) = (XB : Int) := by rw [hXB]; exact mulw_eq X 4294967296
    have F2 : IntKind.u64.wrap ((Q : Int) * (Y : Int)) = (QY : Int) := by rw [hQY]; exact mulw_eq Q Y
    have F3 : IntKind.u64.wrap ((XB : Int) + (z1 : Int) - (QY : Int)) = (U : Int) := by
      rw [IntKind.wrap_u64, hXB, hQY]; exact DivM.wrap_rest d1 (Nat.lt_trans u1 n2)
    have D1 := Lib.hid d1
    have U1 := Lib.hid u1
    have Q1 := Lib.hid q1
    clear hU hXB hQY d1 HST E8 E9 E10 E11 k6 k7 hr1 E1 E4 E5 hZB
    have hst : Est.Ok 4294967296 U z0 y1 y0 (U / y1) (U % y1) := Est.start (Nat.lt_of_lt_of_eq u1 HYe.out.symm) k3 (by omega) k5
    obtain ⟨q, hq⟩ : ∃ a, a = U / y1 := ⟨_, rfl⟩
    obtain ⟨r, hr⟩ : ∃ a, a = U % y1 := ⟨_, rfl⟩
    obtain ⟨qy, hqy⟩ : ∃ a, a = q * y1 := ⟨_, rfl⟩
    rw [← hq, ← hr] at hst
    have hqe := hst.eq
    rw [← hqy] at hqe
    have hr1 : r < 4294967296 := by rw [hr]; exact Nat.lt_trans (Nat.mod_lt _ (by omega)) k2
    have E8 : (U : Int) / (y1 : Int) = (q : Int) := by rw [hq]; rfl
    have E9 : IntKind.u64.wrap ((q : Int) * (y1 : Int)) = (qy : Int) := by rw [mulw_eq, ← hqy, Nat.mod_eq_of_lt (by omega)]
    have E10 : IntKind.u64.wrap ((U : Int) - (qy : Int)) = (r : Int) := by rw [show (U : Int) - (qy : Int) = (r : Int) by omega]; exact wrapN r (by omega)
    have k7 : q ≤ 4294967297 := hst.hi
    have E11 : IntKind.u64.wrap (q : Int) = (q : Int) := wrapN q (by omega)
    have k6 : qy ≤ U := by omega
    have HST := Lib.hid hst
    clear hst hqe hq hr hqy
    obtain ⟨Q0, hQ0⟩ : ∃ a, a = (U * 4294967296 + z0) / Y := ⟨_, rfl⟩
    have HQ0 := Lib.hid hQ0
    clear hQ0
    go_upto_block 2 with fail
    go_cut [18] (fun s18 wx => s18 = .int .u64 (Q0 : Int) ∧ wx = wc)
    case first =>
      go_wp2_with fail
      go_loop [18, 16] (fun a b => ∃ q r : Nat, a = .int .u64 (q : Int) ∧ b = .int .u64 (r : Int) ∧ Est.Ok 4294967296 U z0 y1 y0 q r ∧ r < 4294967296) (fun a _ => (intOf a).toNat)
      case atStart => exact ⟨q, r, rfl, rfl, HST.out, hr1⟩
      case round =>
        clear E8 E9 E10 E11 k6 k7 HST hr1 F1 F2 F3 kXB q1 n5 E2 E3 E6 E7
        obtain ⟨q, r, rfl, rfl, hok, hr⟩ := hrel
        have k7 : q ≤ 4294967297 := hok.hi
        have HOK := Lib.hid hok
        clear hok
        obtain ⟨m, hm⟩ : ∃ m, m = q * y0 := ⟨_, rfl⟩
        have hmB : m < 18446744073709551616 := hm ▸ prod_lt k7 k3
        by_cases T : U * 4294967296 + z0 < q * (y1 * 4294967296 + y0)
        · obtain ⟨g1, g2, g3⟩ := Est.step HOK.out T
          have g4 : 4294967296 * r + z0 < m := by rw [hm, Nat.mul_comm 4294967296]; exact (Est.test HOK.out).2 T
          have G2 := Lib.hid g2
          clear g2 T HOK
          obtain ⟨p, rfl⟩ : ∃ p, q = p + 1 := ⟨q - 1, by omega⟩
          rw [Nat.add_sub_cancel] at G2 g3
          have EM : IntKind.u64.wrap (((p : Int) + 1) * (y0 : Int)) = (m : Int) := by
            rw [show ((p : Int) + 1) = ((p + 1 : Nat) : Int) from rfl, mulw_eq, ← hm, Nat.mod_eq_of_lt hmB]
          have g5 : (4294967296 : Int) * (r : Int) + (z0 : Int) < (m : Int) := by omega
          have hN := HYe.out
          clear hm g4
          by_cases hb : 4294967296 ≤ r + y1
          · have hQ : Q0 = p := by rw [HQ0.out, ← HYe.out]; exact (Est.done G2.out (by omega) (Est.over G2.out k3 hb g3)).symm
            subst hQ
            have hb' : (4294967296 : Int) ≤ (r : Int) + (y1 : Int) := by omega
            clear hb n1 n2 u1 hh hy hyB hl h1 h2 h3 hmB g3 g1 hN
            by_cases hq : (4294967296 : Int) ≤ (Q0 : Int) + 1
            · go_wp2_with fail
              go_meet
              exact ⟨rfl, rfl⟩
            · go_wp2_with fail
              go_meet
              exact ⟨rfl, rfl⟩
          · have hb' : ¬ (4294967296 : Int) ≤ (r : Int) + (y1 : Int) := by omega
            have HB := Lib.hid hb
            clear hb n1 n2 u1 hh hy hyB hl h1 h2 h3 hmB g3 g1 hN
            by_cases hq : (4294967296 : Int) ≤ (p : Int) + 1
            · go_wp2_with fail
              go_round
              case rel => exact ⟨p, r + y1, rfl, by go_num, G2.out, Nat.lt_of_not_le HB.out⟩
              case measure => simp [intOf]
            · go_wp2_with fail
              go_round
              case rel => exact ⟨p, r + y1, rfl, by go_num, G2.out, Nat.lt_of_not_le HB.out⟩
              case measure => simp [intOf]
        · have g4 : m ≤ 4294967296 * r + z0 := by
            rw [hm, Nat.mul_comm 4294967296]; exact Nat.le_of_not_lt fun hh => T ((Est.test HOK.out).1 hh)
          have hq : q < 4294967296 := Nat.lt_of_not_le fun hh => T (Est.big (Nat.lt_of_lt_of_eq u1 HYe.out.symm) k5 hh)
          have hN := HYe.out
          have hQ : Q0 = q := by rw [HQ0.out, ← HYe.out]; exact (Est.done HOK.out (by omega) T).symm
          have EM : IntKind.u64.wrap ((q : Int) * (y0 : Int)) = (m : Int) := by rw [mulw_eq, ← hm, Nat.mod_eq_of_lt hmB]
          have g5 : ¬ (4294967296 : Int) * (r : Int) + (z0 : Int) < (m : Int) := by omega
          have hq' : ¬ (4294967296 : Int) ≤ (q : Int) := by omega
          clear T hm HOK g4 hq hN n1 n2 u1 hh hy hyB hl h1 h2 h3 hmB
          subst hQ
          go_wp2_with fail
          go_meet
          exact ⟨rfl, rfl⟩

    case rest =>
      obtain ⟨rfl, hwc2⟩ := hcut
      subst hwc2
      obtain ⟨V, hV⟩ : ∃ a, a = (U * 4294967296 + z0) % Y := ⟨_, rfl⟩
      have v1 : V < Y := by rw [hV]; exact Nat.mod_lt _ hYp
      have d2 : U * 4294967296 + z0 = Q0 * Y + V := by rw [HQ0.out, hV]; exact (Nat.div_add_mod' _ _).symm
      have q2 : Q0 < 4294967296 := by rw [HQ0.out]; exact DivM.quo_le k5 U1.out
      obtain ⟨UB, hUB⟩ : ∃ a, a = U * 4294967296 % 18446744073709551616 := ⟨_, rfl⟩
      obtain ⟨QZ, hQZ⟩ : ∃ a, a = Q0 * Y % 18446744073709551616 := ⟨_, rfl⟩
      obtain ⟨R, hR⟩ : ∃ a, a = Q * 4294967296 + Q0 := ⟨_, rfl⟩
      obtain ⟨QK, hQK⟩ : ∃ a, a = Q * 4294967296 := ⟨_, rfl⟩
      obtain ⟨v, hv⟩ : ∃ a, a = V / 2 ^ s := ⟨_, rfl⟩
      have kUB : UB ≤ 18446744069414584320 := by rw [hUB]; clear hUB d2; omega
      have G1 : IntKind.u64.wrap ((U : Int) * 4294967296) = (UB : Int) := by rw [hUB]; exact mulw_eq U 4294967296
      have G2 : IntKind.u64.wrap ((Q0 : Int) * (Y : Int)) = (QZ : Int) := by rw [hQZ]; exact mulw_eq Q0 Y
      have G3 : IntKind.u64.wrap ((UB : Int) + (z0 : Int) - (QZ : Int)) = (V : Int) := by
        rw [IntKind.wrap_u64, hUB, hQZ]; exact DivM.wrap_rest d2 (Nat.lt_trans v1 n2)
      have G4 : IntKind.u64.wrap ((Q : Int) * 4294967296) = (QK : Int) := by rw [hQK]; exact (mulw_eq Q 4294967296).trans (by rw [Nat.mod_eq_of_lt (by omega)])
      have G5 : IntKind.u64.wrap ((QK : Int) + (Q0 : Int)) = (R : Int) := by rw [hR, ← hQK]; exact wrapN _ (by rw [hQK]; omega)
      have G6 : (V : Int) / 2 ^ s = (v : Int) := by rw [hv]; exact shr_eq V s
      have hfin : R = (h * 18446744073709551616 + l) / y ∧ v = (h * 18446744073709551616 + l) % y := by
        rw [hv]
        refine DivM.fin (Nat.two_pow_pos s) ?_ (by rw [← HY.out]; exact v1)
        rw [N6.out, ← HY.out, hR, ← HZe.out]
        exact DivM.halves D1.out d2
      have HF := Lib.hid hfin
      clear hfin hV v1 d2 hUB hQZ hR hQK hv E8 E9 E10 E11 k6 k7 HST hr1 F1 F2 F3 kXB n5 E2 E3 E6 E7 n1 n2 u1 hh hy hyB hl h1 h2 h3
      go_wp2_with fail
      go_ret2
      exact ⟨ret2_nat HF.out.1 HF.out.2, rfl⟩
set_option maxRecDepth 100000 in
theorem div64_zero (l y : Nat) (hy : 0 < y) (hyB : y < 18446744073709551616) (hl : l < 18446744073709551616) (w : World) :
    Calls Tryz.prog 112 #[.int .u64 0, .int .u64 l, .int .u64 y] w fun e w' => e = .returned (.tuple #[.int .u64 (l / y : Nat), .int .u64 (l % y : Nat)]) ∧ ∃ n, w' = w.drewN n := by
  have h1 : ¬ y = 0 := by omega
  have E1 : (l : Int) / (y : Int) = ((l / y : Nat) : Int) := by simp
  have E2 : (l : Int) % (y : Int) = ((l % y : Nat) : Int) := by simp
  obtain ⟨q, hq⟩ : ∃ a, a = l / y := ⟨_, rfl⟩
  obtain ⟨r, hr⟩ : ∃ a, a = l % y := ⟨_, rfl⟩
  rw [← hq] at E1 ⊢
  rw [← hr] at E2 ⊢
  have q1 : q ≤ l := by rw [hq]; exact Nat.div_le_self _ _
  have E3 : IntKind.u64.wrap (q : Int) = (q : Int) := wrapN q (by omega)
  have E5 : IntKind.u64.wrap ((l : Int).tdiv (y : Int)) = (q : Int) := by rw [Int.tdiv_eq_ediv_of_nonneg (by omega), E1]; exact E3
  have E6 : (l : Int).tmod (y : Int) = (r : Int) := by rw [Int.tmod_eq_emod_of_nonneg (by omega), E2]
  clear hq hr
  go_enter Tryz.func112, Tryz.ntmps112
  go_wp2_with fail
  go_quiet (fail)
  go_wp2_with fail
  go_ret2
  exact ⟨rfl, _, rfl⟩
def dq (h l y : Nat) : Nat := (h * 18446744073709551616 + l) / y
def dr (h l y : Nat) : Nat := (h * 18446744073709551616 + l) % y
theorem div64 (h l y : Nat) (hy : h < y) (hyB : y < 18446744073709551616) (hl : l < 18446744073709551616) (w : World) :
    Calls Tryz.prog 112 #[.int .u64 h, .int .u64 l, .int .u64 y] w fun e w' => e = .returned (.tuple #[.int .u64 (dq h l y : Int), .int .u64 (dr h l y : Int)]) ∧ ∃ n, w' = w.drewN n := by
  rcases Nat.eq_zero_or_pos h with h0 | h0
  · subst h0
    have e1 : dq 0 l y = l / y := by unfold dq; rw [Nat.zero_mul, Nat.zero_add]
    have e2 : dr 0 l y = l % y := by unfold dr; rw [Nat.zero_mul, Nat.zero_add]
    rw [e1, e2]
    exact div64_zero l y hy hyB hl w
  · exact (div64_gen h l y h0 hy hyB hl w).mono fun e w' hh => ⟨hh.1, 0, hh.2.symm⟩
end Go.Proofs.YtalahkincccffaaGreatDoor
