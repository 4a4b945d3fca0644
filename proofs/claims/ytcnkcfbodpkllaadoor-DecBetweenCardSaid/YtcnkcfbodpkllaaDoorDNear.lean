/-
  The law DecNeighbours: the program's neighbour, the document's up.
  The law DecNeighbours: Next, Prev, the document's, the law.
-/
import Derived.Test.YtcnkcfbodpkllaaDoorDocOne
import Derived.Test.YtcnkcfbodpkllaaDoorUndoBase
namespace Go.Proofs.YtcnkcfbodpkllaaDoor
open Go.RowKit Num Word
attribute [local go_sem] setCell_drewN cell?_ext frozen?_ext shape?_ext setCell_ext lt_1' ne_1' en_1' le_1' lt_2' ne_2' en_2' le_2' lt_3' ne_3' en_3' le_3' lt_4' ne_4' en_4' le_4' lt_5' ne_5' en_5' le_5' lt_6' ne_6' en_6' le_6' lt_7' ne_7' en_7' le_7' lt_8' ne_8' en_8' le_8' lt_9' ne_9' en_9' le_9' lt_10' ne_10' en_10' le_10' lt_11' ne_11' en_11' le_11' lt_12' ne_12' en_12' le_12'
attribute [local go_sem] lt_13' ne_13' en_13' le_13' lt_14' ne_14' en_14' le_14' lt_15' ne_15' en_15' le_15' lt_16' ne_16' en_16' le_16' lt_17' ne_17' en_17' le_17' lt_18' ne_18' en_18' le_18'

set_option maxRecDepth 100000 in
set_option maxHeartbeats 16000000 in
theorem neighbour_any (neg away : Bool) (c S : Nat) (F : Option (Nat × Nat)) (hF : F = Fit.nbP (Fit.uni c S) away 19) (hc : c < 10 ^ 34) (hS : S ≤ 18) (h0 : away = false → 0 < c) (w : World) (ht : Tens w) :
    Calls Tryd.prog 48 #[D neg c (S : Int), .bool away] w fun e w' => e = .returned (.tuple #[FV neg F, .int .i64 (fitE F)]) ∧ Below w.heap.size w w' := by
  have HT := Lib.hid (fun w' (hb : Below w.heap.size w w') => ht.below hb)
  have R1 := Lib.hid (fun w ht => raised_18 neg c S (lt34_top2 hc) hS w ht)
  have lx := uni_small (S := S) hc
  have hx0 : away = false → 0 < Fit.uni c S := fun h => Nat.mul_pos (h0 h) (Fit.pp _)
  have lx2 := uni_lt (S := S) hc
  obtain ⟨x, hx⟩ : ∃ x, x = Fit.uni c S := ⟨_, rfl⟩
  rw [← hx] at R1 lx hF hx0 lx2
  have HF := Lib.hid hF
  have HX := Lib.hid (And.intro lx (And.intro hx0 lx2))
  clear ht hc h0 hF hx lx hx0 lx2
  go_enter Tryd.func48, Tryd.ntmps48
  go_wp2_with (first
    | (go_at_call 40; ((with_reducible refine (R1.out _ (HT.out _ (by (repeat' (first | (with_reducible exact Below.refl _ _) | (with_reducible assumption) | (with_reducible refine Below.alloc ?_ ?_ _) | (with_reducible refine below_drewN ?_ _) | (with_reducible refine below_drew ?_) | (with_reducible refine below_ext ?_ ?_ _ _) | (with_reducible refine Below.setCell ?_ ?_ _) | (simp; done) | (simp; omega) | omega))))).mono ?_); rintro e w1 ⟨rfl, hb1⟩; obtain ⟨osA, dA, rfl⟩ := ext_of_below hb1; clear hb1)))
  go_loopw [7] (fun s wr => ∃ k : Int, -1 ≤ k ∧ k ≤ 18 ∧ s = .int .i64 k ∧ Hid (F = Fit.nbP x away (k + 1).toNat) ∧ Below ((ext ((w.alloc (.cells #[.bool neg, .int .u64 (hi c : Int), .int .u64 (lo c : Int), .int .i64 (S : Int)] 26)).alloc (.cells #[.bool false, .int .u64 0, .int .u64 0, .int .i64 0] 26)) osA dA).alloc (.cells #[.int .u64 (w0 x : Int), .int .u64 (w1 x : Int), .int .u64 (w2 x : Int), .int .u64 (w3 x : Int)] 46)).heap.size ((ext ((w.alloc (.cells #[.bool neg, .int .u64 (hi c : Int), .int .u64 (lo c : Int), .int .i64 (S : Int)] 26)).alloc (.cells #[.bool false, .int .u64 0, .int .u64 0, .int .i64 0] 26)) osA dA).alloc (.cells #[.int .u64 (w0 x : Int), .int .u64 (w1 x : Int), .int .u64 (w2 x : Int), .int .u64 (w3 x : Int)] 46)) wr)
    (fun s _ => (intOf s + 1).toNat)
  case atStart => exact ⟨18, by omega, by omega, rfl, HF, Below.refl _ _⟩
  case round =>
    clear HF
    obtain ⟨k, hk1, hk2, rfl, HF, hbw⟩ := hrel
    obtain ⟨osX, dX, rfl⟩ := ext_of_below hbw
    clear hbw
    by_cases hk : k < 0
    · have hF := HF.out
      rw [show (k + 1).toNat = 0 by omega] at hF
      have hF2 : F = none := hF
      have EV := Lib.hid (show FV neg F = .agg #[.bool false, .int .u64 0, .int .u64 0, .int .i64 0] ∧ fitE F = 3 by rw [hF2]; exact ⟨FV_none neg, rfl⟩)
      clear hF hF2 HF
      go_wp2_with fail
      go_returns
      exact ⟨by rw [EV.out.1, EV.out.2], by (repeat' (first | (with_reducible exact Below.refl _ _) | (with_reducible assumption) | (with_reducible refine Below.alloc ?_ ?_ _) | (with_reducible refine below_drewN ?_ _) | (with_reducible refine below_drew ?_) | (with_reducible refine below_ext ?_ ?_ _ _) | (with_reducible refine Below.setCell ?_ ?_ _) | (simp; done) | (simp; omega) | omega))⟩
    · obtain ⟨K, rfl⟩ : ∃ K : Nat, k = (K : Int) := ⟨k.toNat, by omega⟩
      have hF := HF.out
      rw [show ((K : Int) + 1).toNat = K + 1 by omega, Fit.nbP] at hF
      obtain ⟨j, hj⟩ : ∃ j, j = 18 - K := ⟨_, rfl⟩
      rw [← hj] at hF
      obtain ⟨lx, hx0, lx2⟩ := HX.out
      obtain ⟨q, hq⟩ : ∃ q, q = x / p10 j := ⟨_, rfl⟩
      obtain ⟨r, hr⟩ : ∃ r, r = x % p10 j := ⟨_, rfl⟩
      have HS := Lib.hid (fun w ht => split_any x j q r lx (by omega) hq hr w ht)
      obtain ⟨Q, hQ⟩ : ∃ Q, Q = Fit.nbQ x away (10 ^ j) := ⟨_, rfl⟩
      rw [← hQ] at hF
      have E2 : (18 : Int) - (K : Int) = (j : Int) := by omega
      have E3 : IntKind.i64.wrap (j : Int) = (j : Int) := IntWalk.i64_in _ (by omega)
      have hK18 : K ≤ 18 := by omega
      have hqx : q ≤ x := by rw [hq]; exact Nat.div_le_self _ _
      have t52 : 10 ^ 52 + 1 < top4 := by decide
      have hQ4 : Q < top4 := by
        have hqx2 : x / 10 ^ j ≤ x := Nat.div_le_self _ _
        rw [hQ]; unfold Fit.nbQ
        split
        · omega
        · split <;> omega
      have hcase : (away = true ∧ ∀ w, Calls Tryd.prog 51 #[L q, L 1] w fun e w' => e = .returned (L Q) ∧ Below w.heap.size w w') ∨
          (away = false ∧ r = 0 ∧ ∀ w, Calls Tryd.prog 45 #[L q, L 1] w fun e w' => e = .returned (L Q) ∧ Below w.heap.size w w') ∨
          (away = false ∧ 0 < r ∧ Q = q) := by
        unfold Fit.nbQ at hQ
        have e1 : x / 10 ^ j = q := hq.symm
        have e2 : x % 10 ^ j = r := hr.symm
        rw [e1, e2] at hQ
        cases hw : away
        · right
          rw [hw, if_neg (by decide)] at hQ
          rcases Nat.eq_zero_or_pos r with h | h
          · left
            rw [if_pos h] at hQ
            refine ⟨rfl, h, fun w => ?_⟩
            rw [hQ]
            refine dsubLong_any q 1 (by omega) (by decide) ?_ w
            rcases Nat.eq_zero_or_pos q with h2 | h2
            · have h3 := Nat.div_add_mod x (10 ^ j)
              rw [e1, e2, h, h2, Nat.mul_zero] at h3
              have := hx0 hw
              omega
            · exact h2
          · right
            rw [if_neg (by omega)] at hQ
            exact ⟨rfl, h, hQ⟩
        · left
          rw [hw, if_pos rfl] at hQ
          refine ⟨rfl, fun w => ?_⟩
          rw [hQ]
          exact daddLong_any q 1 (by omega) (by decide) (by omega) w
      have h5 := fun w => narrow_any Q hQ4 w
      have hout : (Q < 10 ^ 34 ∧ FV neg F = DS neg Q K ∧ fitE F = 0) ∨ (¬ Q < 10 ^ 34 ∧ F = Fit.nbP x away (((K : Int) - 1) + 1).toNat) := by
        by_cases h34 : Q < 10 ^ 34
        · rw [if_pos h34] at hF
          exact .inl ⟨h34, FV_some hF⟩
        · rw [if_neg h34] at hF
          exact .inr ⟨h34, by rw [show ((K : Int) - 1 + 1).toNat = K by omega]; exact hF⟩
      have HC := Lib.hid hcase; have HO := Lib.hid hout; have H5 := Lib.hid h5
      clear hF HF hj hq hr hqx t52 hQ4 hcase hout h5 hQ lx hx0 lx2
      have e1 : L 1 = .agg #[.int .u64 1, .int .u64 0, .int .u64 0, .int .u64 0] := rfl
      rcases HC.out with ⟨rfl, ha⟩ | ⟨rfl, rfl, ha⟩ | ⟨rfl, hr0, rfl⟩
      · rw [e1] at ha
        have HA := Lib.hid ha
        clear ha HC e1
        rcases HO.out with ⟨h34, hv1, hv2⟩ | ⟨h34, hv⟩
        · have EV := Lib.hid (And.intro hv1 hv2)
          have ht2 := lt34_top2 h34
          rw [show nw Q = Q from if_pos ht2, show ne Q = 0 from if_pos ht2] at H5
          have h6 := fun w ht => fits_any Q ht2 w ht
          rw [decide_eq_true h34] at h6
          have H6 := Lib.hid h6
          have H7 := Lib.hid (fun w ht => settle_any neg Q K ht2 hK18 w ht)
          clear h6 h34 ht2 hv1 hv2 HO
          go_wp2_with (first
            | (go_at_call 51; ((with_reducible refine (HA.out _).mono ?_); rintro e w1 ⟨rfl, hb1⟩; obtain ⟨osC, dC, rfl⟩ := ext_of_below hb1; clear hb1))
            | (go_at_call 53; ((with_reducible refine (HS.out _ (HT.out _ (by (repeat' (first | (with_reducible exact Below.refl _ _) | (with_reducible assumption) | (with_reducible refine Below.alloc ?_ ?_ _) | (with_reducible refine below_drewN ?_ _) | (with_reducible refine below_drew ?_) | (with_reducible refine below_ext ?_ ?_ _ _) | (with_reducible refine Below.setCell ?_ ?_ _) | (simp; done) | (simp; omega) | omega))))).mono ?_); rintro e w1 ⟨rfl, hb1⟩; obtain ⟨osB, dB, rfl⟩ := ext_of_below hb1; clear hb1))
            | (go_at_call 69; ((with_reducible refine (H5.out _).mono ?_); rintro e w1 ⟨rfl, hb1⟩; obtain ⟨osD, dD, rfl⟩ := ext_of_below hb1; clear hb1))
            | (go_at_call 52; ((with_reducible refine (H6.out _ (HT.out _ (by (repeat' (first | (with_reducible exact Below.refl _ _) | (with_reducible assumption) | (with_reducible refine Below.alloc ?_ ?_ _) | (with_reducible refine below_drewN ?_ _) | (with_reducible refine below_drew ?_) | (with_reducible refine below_ext ?_ ?_ _ _) | (with_reducible refine Below.setCell ?_ ?_ _) | (simp; done) | (simp; omega) | omega))))).mono ?_); rintro e w1 ⟨rfl, hb1⟩; obtain ⟨osE, dE, rfl⟩ := ext_of_below hb1; clear hb1))
            | (go_at_call 57; ((with_reducible refine (H7.out _ (HT.out _ (by (repeat' (first | (with_reducible exact Below.refl _ _) | (with_reducible assumption) | (with_reducible refine Below.alloc ?_ ?_ _) | (with_reducible refine below_drewN ?_ _) | (with_reducible refine below_drew ?_) | (with_reducible refine below_ext ?_ ?_ _ _) | (with_reducible refine Below.setCell ?_ ?_ _) | (simp; done) | (simp; omega) | omega))))).mono ?_); rintro e w1 ⟨rfl, hb1⟩; obtain ⟨osG, dG, rfl⟩ := ext_of_below hb1; clear hb1)))
          go_returns
          exact ⟨by rw [EV.out.1, EV.out.2], by (repeat' (first | (with_reducible exact Below.refl _ _) | (with_reducible assumption) | (with_reducible refine Below.alloc ?_ ?_ _) | (with_reducible refine below_drewN ?_ _) | (with_reducible refine below_drew ?_) | (with_reducible refine below_ext ?_ ?_ _ _) | (with_reducible refine Below.setCell ?_ ?_ _) | (simp; done) | (simp; omega) | omega))⟩
        · have HF := Lib.hid hv
          by_cases ht2 : Q < top2
          · rw [show nw Q = Q from if_pos ht2, show ne Q = 0 from if_pos ht2] at H5
            have h6 := fun w ht => fits_any Q ht2 w ht
            rw [decide_eq_false h34] at h6
            have H6 := Lib.hid h6
            clear h6 h34 ht2 hv HO
            go_wp2_with (first
            | (go_at_call 51; ((with_reducible refine (HA.out _).mono ?_); rintro e w1 ⟨rfl, hb1⟩; obtain ⟨osC, dC, rfl⟩ := ext_of_below hb1; clear hb1))
              | (go_at_call 53; ((with_reducible refine (HS.out _ (HT.out _ (by (repeat' (first | (with_reducible exact Below.refl _ _) | (with_reducible assumption) | (with_reducible refine Below.alloc ?_ ?_ _) | (with_reducible refine below_drewN ?_ _) | (with_reducible refine below_drew ?_) | (with_reducible refine below_ext ?_ ?_ _ _) | (with_reducible refine Below.setCell ?_ ?_ _) | (simp; done) | (simp; omega) | omega))))).mono ?_); rintro e w1 ⟨rfl, hb1⟩; obtain ⟨osB, dB, rfl⟩ := ext_of_below hb1; clear hb1))
              | (go_at_call 69; ((with_reducible refine (H5.out _).mono ?_); rintro e w1 ⟨rfl, hb1⟩; obtain ⟨osD, dD, rfl⟩ := ext_of_below hb1; clear hb1))
              | (go_at_call 52; ((with_reducible refine (H6.out _ (HT.out _ (by (repeat' (first | (with_reducible exact Below.refl _ _) | (with_reducible assumption) | (with_reducible refine Below.alloc ?_ ?_ _) | (with_reducible refine below_drewN ?_ _) | (with_reducible refine below_drew ?_) | (with_reducible refine below_ext ?_ ?_ _ _) | (with_reducible refine Below.setCell ?_ ?_ _) | (simp; done) | (simp; omega) | omega))))).mono ?_); rintro e w1 ⟨rfl, hb1⟩; obtain ⟨osE, dE, rfl⟩ := ext_of_below hb1; clear hb1)))
            go_roundw
            case rel => exact ⟨(K : Int) - 1, by omega, by omega, by go_num, HF, by (repeat' (first | (with_reducible exact Below.refl _ _) | (with_reducible assumption) | (with_reducible refine Below.alloc ?_ ?_ _) | (with_reducible refine below_drewN ?_ _) | (with_reducible refine below_drew ?_) | (with_reducible refine below_ext ?_ ?_ _ _) | (with_reducible refine Below.setCell ?_ ?_ _) | (simp; done) | (simp; omega) | omega))⟩
            case measure => simp [intOf] <;> omega
          · rw [show nw Q = 0 from if_neg ht2, show ne Q = 3 from if_neg ht2] at H5
            clear h34 ht2 hv HO
            go_wp2_with (first
            | (go_at_call 51; ((with_reducible refine (HA.out _).mono ?_); rintro e w1 ⟨rfl, hb1⟩; obtain ⟨osC, dC, rfl⟩ := ext_of_below hb1; clear hb1))
              | (go_at_call 53; ((with_reducible refine (HS.out _ (HT.out _ (by (repeat' (first | (with_reducible exact Below.refl _ _) | (with_reducible assumption) | (with_reducible refine Below.alloc ?_ ?_ _) | (with_reducible refine below_drewN ?_ _) | (with_reducible refine below_drew ?_) | (with_reducible refine below_ext ?_ ?_ _ _) | (with_reducible refine Below.setCell ?_ ?_ _) | (simp; done) | (simp; omega) | omega))))).mono ?_); rintro e w1 ⟨rfl, hb1⟩; obtain ⟨osB, dB, rfl⟩ := ext_of_below hb1; clear hb1))
              | (go_at_call 69; ((with_reducible refine (H5.out _).mono ?_); rintro e w1 ⟨rfl, hb1⟩; obtain ⟨osD, dD, rfl⟩ := ext_of_below hb1; clear hb1)))
            go_roundw
            case rel => exact ⟨(K : Int) - 1, by omega, by omega, by go_num, HF, by (repeat' (first | (with_reducible exact Below.refl _ _) | (with_reducible assumption) | (with_reducible refine Below.alloc ?_ ?_ _) | (with_reducible refine below_drewN ?_ _) | (with_reducible refine below_drew ?_) | (with_reducible refine below_ext ?_ ?_ _ _) | (with_reducible refine Below.setCell ?_ ?_ _) | (simp; done) | (simp; omega) | omega))⟩
            case measure => simp [intOf] <;> omega
      · rw [e1] at ha
        have HA := Lib.hid ha
        have e0 : W 0 = .agg #[.int .u64 0, .int .u64 0] := rfl
        rw [e0] at HS
        clear ha HC e1 e0
        rcases HO.out with ⟨h34, hv1, hv2⟩ | ⟨h34, hv⟩
        · have EV := Lib.hid (And.intro hv1 hv2)
          have ht2 := lt34_top2 h34
          rw [show nw Q = Q from if_pos ht2, show ne Q = 0 from if_pos ht2] at H5
          have h6 := fun w ht => fits_any Q ht2 w ht
          rw [decide_eq_true h34] at h6
          have H6 := Lib.hid h6
          have H7 := Lib.hid (fun w ht => settle_any neg Q K ht2 hK18 w ht)
          clear h6 h34 ht2 hv1 hv2 HO
          go_wp2_with (first
            | (go_at_call 45; ((with_reducible refine (HA.out _).mono ?_); rintro e w1 ⟨rfl, hb1⟩; obtain ⟨osC, dC, rfl⟩ := ext_of_below hb1; clear hb1))
            | (go_at_call 53; ((with_reducible refine (HS.out _ (HT.out _ (by (repeat' (first | (with_reducible exact Below.refl _ _) | (with_reducible assumption) | (with_reducible refine Below.alloc ?_ ?_ _) | (with_reducible refine below_drewN ?_ _) | (with_reducible refine below_drew ?_) | (with_reducible refine below_ext ?_ ?_ _ _) | (with_reducible refine Below.setCell ?_ ?_ _) | (simp; done) | (simp; omega) | omega))))).mono ?_); rintro e w1 ⟨rfl, hb1⟩; obtain ⟨osB, dB, rfl⟩ := ext_of_below hb1; clear hb1))
            | (go_at_call 69; ((with_reducible refine (H5.out _).mono ?_); rintro e w1 ⟨rfl, hb1⟩; obtain ⟨osD, dD, rfl⟩ := ext_of_below hb1; clear hb1))
            | (go_at_call 52; ((with_reducible refine (H6.out _ (HT.out _ (by (repeat' (first | (with_reducible exact Below.refl _ _) | (with_reducible assumption) | (with_reducible refine Below.alloc ?_ ?_ _) | (with_reducible refine below_drewN ?_ _) | (with_reducible refine below_drew ?_) | (with_reducible refine below_ext ?_ ?_ _ _) | (with_reducible refine Below.setCell ?_ ?_ _) | (simp; done) | (simp; omega) | omega))))).mono ?_); rintro e w1 ⟨rfl, hb1⟩; obtain ⟨osE, dE, rfl⟩ := ext_of_below hb1; clear hb1))
            | (go_at_call 57; ((with_reducible refine (H7.out _ (HT.out _ (by (repeat' (first | (with_reducible exact Below.refl _ _) | (with_reducible assumption) | (with_reducible refine Below.alloc ?_ ?_ _) | (with_reducible refine below_drewN ?_ _) | (with_reducible refine below_drew ?_) | (with_reducible refine below_ext ?_ ?_ _ _) | (with_reducible refine Below.setCell ?_ ?_ _) | (simp; done) | (simp; omega) | omega))))).mono ?_); rintro e w1 ⟨rfl, hb1⟩; obtain ⟨osG, dG, rfl⟩ := ext_of_below hb1; clear hb1)))
          go_returns
          exact ⟨by rw [EV.out.1, EV.out.2], by (repeat' (first | (with_reducible exact Below.refl _ _) | (with_reducible assumption) | (with_reducible refine Below.alloc ?_ ?_ _) | (with_reducible refine below_drewN ?_ _) | (with_reducible refine below_drew ?_) | (with_reducible refine below_ext ?_ ?_ _ _) | (with_reducible refine Below.setCell ?_ ?_ _) | (simp; done) | (simp; omega) | omega))⟩
        · have HF := Lib.hid hv
          by_cases ht2 : Q < top2
          · rw [show nw Q = Q from if_pos ht2, show ne Q = 0 from if_pos ht2] at H5
            have h6 := fun w ht => fits_any Q ht2 w ht
            rw [decide_eq_false h34] at h6
            have H6 := Lib.hid h6
            clear h6 h34 ht2 hv HO
            go_wp2_with (first
            | (go_at_call 45; ((with_reducible refine (HA.out _).mono ?_); rintro e w1 ⟨rfl, hb1⟩; obtain ⟨osC, dC, rfl⟩ := ext_of_below hb1; clear hb1))
              | (go_at_call 53; ((with_reducible refine (HS.out _ (HT.out _ (by (repeat' (first | (with_reducible exact Below.refl _ _) | (with_reducible assumption) | (with_reducible refine Below.alloc ?_ ?_ _) | (with_reducible refine below_drewN ?_ _) | (with_reducible refine below_drew ?_) | (with_reducible refine below_ext ?_ ?_ _ _) | (with_reducible refine Below.setCell ?_ ?_ _) | (simp; done) | (simp; omega) | omega))))).mono ?_); rintro e w1 ⟨rfl, hb1⟩; obtain ⟨osB, dB, rfl⟩ := ext_of_below hb1; clear hb1))
              | (go_at_call 69; ((with_reducible refine (H5.out _).mono ?_); rintro e w1 ⟨rfl, hb1⟩; obtain ⟨osD, dD, rfl⟩ := ext_of_below hb1; clear hb1))
              | (go_at_call 52; ((with_reducible refine (H6.out _ (HT.out _ (by (repeat' (first | (with_reducible exact Below.refl _ _) | (with_reducible assumption) | (with_reducible refine Below.alloc ?_ ?_ _) | (with_reducible refine below_drewN ?_ _) | (with_reducible refine below_drew ?_) | (with_reducible refine below_ext ?_ ?_ _ _) | (with_reducible refine Below.setCell ?_ ?_ _) | (simp; done) | (simp; omega) | omega))))).mono ?_); rintro e w1 ⟨rfl, hb1⟩; obtain ⟨osE, dE, rfl⟩ := ext_of_below hb1; clear hb1)))
            go_roundw
            case rel => exact ⟨(K : Int) - 1, by omega, by omega, by go_num, HF, by (repeat' (first | (with_reducible exact Below.refl _ _) | (with_reducible assumption) | (with_reducible refine Below.alloc ?_ ?_ _) | (with_reducible refine below_drewN ?_ _) | (with_reducible refine below_drew ?_) | (with_reducible refine below_ext ?_ ?_ _ _) | (with_reducible refine Below.setCell ?_ ?_ _) | (simp; done) | (simp; omega) | omega))⟩
            case measure => simp [intOf] <;> omega
          · rw [show nw Q = 0 from if_neg ht2, show ne Q = 3 from if_neg ht2] at H5
            clear h34 ht2 hv HO
            go_wp2_with (first
            | (go_at_call 45; ((with_reducible refine (HA.out _).mono ?_); rintro e w1 ⟨rfl, hb1⟩; obtain ⟨osC, dC, rfl⟩ := ext_of_below hb1; clear hb1))
              | (go_at_call 53; ((with_reducible refine (HS.out _ (HT.out _ (by (repeat' (first | (with_reducible exact Below.refl _ _) | (with_reducible assumption) | (with_reducible refine Below.alloc ?_ ?_ _) | (with_reducible refine below_drewN ?_ _) | (with_reducible refine below_drew ?_) | (with_reducible refine below_ext ?_ ?_ _ _) | (with_reducible refine Below.setCell ?_ ?_ _) | (simp; done) | (simp; omega) | omega))))).mono ?_); rintro e w1 ⟨rfl, hb1⟩; obtain ⟨osB, dB, rfl⟩ := ext_of_below hb1; clear hb1))
              | (go_at_call 69; ((with_reducible refine (H5.out _).mono ?_); rintro e w1 ⟨rfl, hb1⟩; obtain ⟨osD, dD, rfl⟩ := ext_of_below hb1; clear hb1)))
            go_roundw
            case rel => exact ⟨(K : Int) - 1, by omega, by omega, by go_num, HF, by (repeat' (first | (with_reducible exact Below.refl _ _) | (with_reducible assumption) | (with_reducible refine Below.alloc ?_ ?_ _) | (with_reducible refine below_drewN ?_ _) | (with_reducible refine below_drew ?_) | (with_reducible refine below_ext ?_ ?_ _ _) | (with_reducible refine Below.setCell ?_ ?_ _) | (simp; done) | (simp; omega) | omega))⟩
            case measure => simp [intOf] <;> omega
      · have hnz := word_ne hr0
        clear HC e1 hr0
        rcases hnz with nz | ⟨nz, nz'⟩
        all_goals
          rcases HO.out with ⟨h34, hv1, hv2⟩ | ⟨h34, hv⟩
          · have EV := Lib.hid (And.intro hv1 hv2)
            have ht2 := lt34_top2 h34
            rw [show nw Q = Q from if_pos ht2, show ne Q = 0 from if_pos ht2] at H5
            have h6 := fun w ht => fits_any Q ht2 w ht
            rw [decide_eq_true h34] at h6
            have H6 := Lib.hid h6
            have H7 := Lib.hid (fun w ht => settle_any neg Q K ht2 hK18 w ht)
            clear h6 h34 ht2 hv1 hv2 HO
            go_wp2_with (first
              | (go_at_call 53; ((with_reducible refine (HS.out _ (HT.out _ (by (repeat' (first | (with_reducible exact Below.refl _ _) | (with_reducible assumption) | (with_reducible refine Below.alloc ?_ ?_ _) | (with_reducible refine below_drewN ?_ _) | (with_reducible refine below_drew ?_) | (with_reducible refine below_ext ?_ ?_ _ _) | (with_reducible refine Below.setCell ?_ ?_ _) | (simp; done) | (simp; omega) | omega))))).mono ?_); rintro e w1 ⟨rfl, hb1⟩; obtain ⟨osB, dB, rfl⟩ := ext_of_below hb1; clear hb1))
              | (go_at_call 69; ((with_reducible refine (H5.out _).mono ?_); rintro e w1 ⟨rfl, hb1⟩; obtain ⟨osD, dD, rfl⟩ := ext_of_below hb1; clear hb1))
              | (go_at_call 52; ((with_reducible refine (H6.out _ (HT.out _ (by (repeat' (first | (with_reducible exact Below.refl _ _) | (with_reducible assumption) | (with_reducible refine Below.alloc ?_ ?_ _) | (with_reducible refine below_drewN ?_ _) | (with_reducible refine below_drew ?_) | (with_reducible refine below_ext ?_ ?_ _ _) | (with_reducible refine Below.setCell ?_ ?_ _) | (simp; done) | (simp; omega) | omega))))).mono ?_); rintro e w1 ⟨rfl, hb1⟩; obtain ⟨osE, dE, rfl⟩ := ext_of_below hb1; clear hb1))
              | (go_at_call 57; ((with_reducible refine (H7.out _ (HT.out _ (by (repeat' (first | (with_reducible exact Below.refl _ _) | (with_reducible assumption) | (with_reducible refine Below.alloc ?_ ?_ _) | (with_reducible refine below_drewN ?_ _) | (with_reducible refine below_drew ?_) | (with_reducible refine below_ext ?_ ?_ _ _) | (with_reducible refine Below.setCell ?_ ?_ _) | (simp; done) | (simp; omega) | omega))))).mono ?_); rintro e w1 ⟨rfl, hb1⟩; obtain ⟨osG, dG, rfl⟩ := ext_of_below hb1; clear hb1)))
            go_returns
            exact ⟨by rw [EV.out.1, EV.out.2], by (repeat' (first | (with_reducible exact Below.refl _ _) | (with_reducible assumption) | (with_reducible refine Below.alloc ?_ ?_ _) | (with_reducible refine below_drewN ?_ _) | (with_reducible refine below_drew ?_) | (with_reducible refine below_ext ?_ ?_ _ _) | (with_reducible refine Below.setCell ?_ ?_ _) | (simp; done) | (simp; omega) | omega))⟩
          · have HF := Lib.hid hv
            by_cases ht2 : Q < top2
            · rw [show nw Q = Q from if_pos ht2, show ne Q = 0 from if_pos ht2] at H5
              have h6 := fun w ht => fits_any Q ht2 w ht
              rw [decide_eq_false h34] at h6
              have H6 := Lib.hid h6
              clear h6 h34 ht2 hv HO
              go_wp2_with (first
                | (go_at_call 53; ((with_reducible refine (HS.out _ (HT.out _ (by (repeat' (first | (with_reducible exact Below.refl _ _) | (with_reducible assumption) | (with_reducible refine Below.alloc ?_ ?_ _) | (with_reducible refine below_drewN ?_ _) | (with_reducible refine below_drew ?_) | (with_reducible refine below_ext ?_ ?_ _ _) | (with_reducible refine Below.setCell ?_ ?_ _) | (simp; done) | (simp; omega) | omega))))).mono ?_); rintro e w1 ⟨rfl, hb1⟩; obtain ⟨osB, dB, rfl⟩ := ext_of_below hb1; clear hb1))
                | (go_at_call 69; ((with_reducible refine (H5.out _).mono ?_); rintro e w1 ⟨rfl, hb1⟩; obtain ⟨osD, dD, rfl⟩ := ext_of_below hb1; clear hb1))
                | (go_at_call 52; ((with_reducible refine (H6.out _ (HT.out _ (by (repeat' (first | (with_reducible exact Below.refl _ _) | (with_reducible assumption) | (with_reducible refine Below.alloc ?_ ?_ _) | (with_reducible refine below_drewN ?_ _) | (with_reducible refine below_drew ?_) | (with_reducible refine below_ext ?_ ?_ _ _) | (with_reducible refine Below.setCell ?_ ?_ _) | (simp; done) | (simp; omega) | omega))))).mono ?_); rintro e w1 ⟨rfl, hb1⟩; obtain ⟨osE, dE, rfl⟩ := ext_of_below hb1; clear hb1)))
              go_roundw
              case rel => exact ⟨(K : Int) - 1, by omega, by omega, by go_num, HF, by (repeat' (first | (with_reducible exact Below.refl _ _) | (with_reducible assumption) | (with_reducible refine Below.alloc ?_ ?_ _) | (with_reducible refine below_drewN ?_ _) | (with_reducible refine below_drew ?_) | (with_reducible refine below_ext ?_ ?_ _ _) | (with_reducible refine Below.setCell ?_ ?_ _) | (simp; done) | (simp; omega) | omega))⟩
              case measure => simp [intOf] <;> omega
            · rw [show nw Q = 0 from if_neg ht2, show ne Q = 3 from if_neg ht2] at H5
              clear h34 ht2 hv HO
              go_wp2_with (first
                | (go_at_call 53; ((with_reducible refine (HS.out _ (HT.out _ (by (repeat' (first | (with_reducible exact Below.refl _ _) | (with_reducible assumption) | (with_reducible refine Below.alloc ?_ ?_ _) | (with_reducible refine below_drewN ?_ _) | (with_reducible refine below_drew ?_) | (with_reducible refine below_ext ?_ ?_ _ _) | (with_reducible refine Below.setCell ?_ ?_ _) | (simp; done) | (simp; omega) | omega))))).mono ?_); rintro e w1 ⟨rfl, hb1⟩; obtain ⟨osB, dB, rfl⟩ := ext_of_below hb1; clear hb1))
                | (go_at_call 69; ((with_reducible refine (H5.out _).mono ?_); rintro e w1 ⟨rfl, hb1⟩; obtain ⟨osD, dD, rfl⟩ := ext_of_below hb1; clear hb1)))
              go_roundw
              case rel => exact ⟨(K : Int) - 1, by omega, by omega, by go_num, HF, by (repeat' (first | (with_reducible exact Below.refl _ _) | (with_reducible assumption) | (with_reducible refine Below.alloc ?_ ?_ _) | (with_reducible refine below_drewN ?_ _) | (with_reducible refine below_drew ?_) | (with_reducible refine below_ext ?_ ?_ _ _) | (with_reducible refine Below.setCell ?_ ?_ _) | (simp; done) | (simp; omega) | omega))⟩
              case measure => simp [intOf] <;> omega
set_option maxRecDepth 100000 in
set_option maxHeartbeats 16000000 in
theorem up_any (neg down : Bool) (c S : Nat) (F : Option (Nat × Nat)) (hF : F = Fit.upR (Fit.uni c S) down 19) (hc : c < 10 ^ 34) (hS : S ≤ 18) (h0 : down = true → 0 < c) (w : World) :
    Calls Tryd.prog 46 #[D neg c (S : Int), .bool down] w fun e w' => e = .returned (.tuple #[FV false F, .int .i64 (fitE F)]) ∧ Below w.heap.size w w' := by
  have H1 := Lib.hid (fun w => units_any neg c S (lt34_top2 hc) hS w)
  have lx := uni_lt (S := S) hc
  have hx0 : down = true → 0 < Fit.uni c S := fun h => Nat.mul_pos (h0 h) (Fit.pp _)
  obtain ⟨x, hx⟩ : ∃ x, x = Fit.uni c S := ⟨_, rfl⟩
  rw [← hx] at H1 lx hF hx0
  have HF := Lib.hid hF
  have HX := Lib.hid (And.intro lx hx0)
  clear hc h0 hF hx lx hx0 hS
  go_enter Tryd.func46, Tryd.ntmps46
  go_wp2_with (go_at_call 37; ((with_reducible refine (H1.out _).mono ?_); rintro e w1 ⟨v1, rfl, r1, b1⟩; obtain ⟨os1, d1, rfl⟩ := ext_of_below b1; clear b1))
  obtain ⟨p1, c1, rfl, -⟩ := r1.form
  go_loopw [8] (fun s wr => ∃ k : Int, -1 ≤ k ∧ k ≤ 18 ∧ s = .int .i64 k ∧ Hid (F = Fit.upR x down (k + 1).toNat) ∧ Hid (down = true → k = 18 ∨ 10 ^ (51 - k).toNat < x) ∧ Below (ext ((w.alloc (.cells #[.bool neg, .int .u64 (hi c : Int), .int .u64 (lo c : Int), .int .i64 (S : Int)] 26)).alloc (.cells #[.bool false, .int .u64 0, .int .u64 0, .int .i64 0] 26)) os1 d1).heap.size (ext ((w.alloc (.cells #[.bool neg, .int .u64 (hi c : Int), .int .u64 (lo c : Int), .int .i64 (S : Int)] 26)).alloc (.cells #[.bool false, .int .u64 0, .int .u64 0, .int .i64 0] 26)) os1 d1) wr)
    (fun s _ => (intOf s + 1).toNat)
  case atStart => exact ⟨18, by omega, by omega, rfl, HF, Lib.hid (fun _ => .inl rfl), Below.refl _ _⟩
  case round =>
    clear HF
    obtain ⟨k, hk1, hk2, rfl, HF, HK0, hbw⟩ := hrel
    obtain ⟨osX, dX, rfl⟩ := ext_of_below hbw
    clear hbw
    by_cases hk : k < 0
    · have hF := HF.out
      rw [show (k + 1).toNat = 0 by omega] at hF
      have hF2 : F = none := hF
      have EV := Lib.hid (show FV false F = .agg #[.bool false, .int .u64 0, .int .u64 0, .int .i64 0] ∧ fitE F = 3 by rw [hF2]; exact ⟨FV_none false, rfl⟩)
      clear hF hF2 HF HK0
      go_wp2_with fail
      go_returns
      exact ⟨by rw [EV.out.1, EV.out.2], by (repeat' (first | (with_reducible exact Below.refl _ _) | (with_reducible assumption) | (with_reducible refine Below.alloc ?_ ?_ _) | (with_reducible refine below_drewN ?_ _) | (with_reducible refine below_drew ?_) | (with_reducible refine below_ext ?_ ?_ _ _) | (with_reducible refine Below.setCell ?_ ?_ _) | (simp; done) | (simp; omega) | omega))⟩
    · obtain ⟨K, rfl⟩ : ∃ K : Nat, k = (K : Int) := ⟨k.toNat, by omega⟩
      have hF := HF.out
      rw [show ((K : Int) + 1).toNat = K + 1 by omega, Fit.upR] at hF
      have hK0 := HK0.out
      rw [show (51 - (K : Int)).toNat = 51 - K by omega] at hK0
      obtain ⟨lx, hx0⟩ := HX.out
      have hK18 : K ≤ 18 := by omega
      obtain ⟨i, hi⟩ : ∃ i, i = 52 - K := ⟨_, rfl⟩
      obtain ⟨j, hj⟩ : ∃ j, j = 18 - K := ⟨_, rfl⟩
      rw [← hi, ← hj] at hF
      have E1 : (52 : Int) - (K : Int) = (i : Int) := by omega
      have E2 : (18 : Int) - (K : Int) = (j : Int) := by omega
      have E3 : IntKind.i64.wrap (i : Int) = (i : Int) := IntWalk.i64_in _ (by omega)
      have E4 : IntKind.i64.wrap (j : Int) = (j : Int) := IntWalk.i64_in _ (by omega)
      have h2 := fun w => one_any i (by omega) w
      have h4 := fun w => one_any j (by omega) w
      have lT : 10 ^ i ≤ 10 ^ 52 := Nat.pow_le_pow_right (by decide) (by omega)
      have lP : 10 ^ j ≤ 10 ^ 18 := Nat.pow_le_pow_right (by decide) (by omega)
      have t53 : 10 ^ 52 + 10 ^ 52 < 10 ^ 60 := by decide
      have t18 : 10 ^ 18 < 10 ^ 52 := by decide
      have hPx : down = true → 10 ^ j ≤ x := by
        intro h
        rcases hK0 h with h1 | h1
        · have hj0 : j = 0 := by omega
          have := hx0 h
          rw [hj0, Nat.pow_zero]; omega
        · have : 10 ^ j ≤ 10 ^ (51 - K) := Nat.pow_le_pow_right (by decide) (by omega)
          omega
      have T52 : ∀ y, y = 10 ^ 52 → K = 0 → 10 ^ i = y := by
        intro y hy h; rw [hy, show i = 52 by omega]
      obtain ⟨T, hT⟩ : ∃ T, T = 10 ^ i := ⟨_, rfl⟩
      obtain ⟨P, hP⟩ : ∃ P, P = 10 ^ j := ⟨_, rfl⟩
      rw [← hT] at h2 lT hF T52
      rw [← hP] at h4 lP hF hPx
      have lxl := len_lt (show x < 10 ^ 60 by omega)
      have lTl := len_lt (show T < 10 ^ 60 by omega)
      have lPl := len_lt (show P < 10 ^ 60 by omega)
      have h3 := fun va vb w ha hb => rcmp_any va vb x T (by omega) (by omega) w ha hb
      have H2 := Lib.hid h2; have H4 := Lib.hid h4
      have H6 := Lib.hid one_18
      have H8 := Lib.hid (fun w => one_any 52 (by omega) w)
      have H8' := Lib.hid (show ∀ w, Calls Tryd.prog 34 #[.int .i64 52] w fun e w' => ∃ v', e = .returned v' ∧ RdP (fun g => w.heap.size ≤ g) w' v' (dg (10 ^ 52)) ∧ Below w.heap.size w w' from fun w => one_any 52 (by omega) w)
      clear H8
      have H8 := H8'
      clear H8'
      obtain ⟨U, hU⟩ : ∃ U, U = 10 ^ 52 := ⟨_, rfl⟩
      rw [← hU] at H8 hF lx lT t53 t18
      obtain ⟨V, hV⟩ : ∃ V, V = 10 ^ 18 := ⟨_, rfl⟩
      have hV0 : 0 < V := by rw [hV]; exact Fit.pp _
      have hVl : (dg V).length ≤ 500 := by rw [hV]; exact Nat.le_trans p10_len18 (by omega)
      rw [← hV] at H6 hF
      have T52 := T52 U hU
      have lUl := len_lt (show U < 10 ^ 60 by omega)
      clear HF HK0 h2 h4
      by_cases hd : down = true
      · subst hd
        by_cases hle : x ≤ T
        · rw [if_pos ⟨rfl, hle⟩] at hF
          have hz : cmpv x T ≤ 0 := by unfold cmpv; split <;> (try split) <;> omega
          obtain ⟨z, hzz⟩ : ∃ z, z = cmpv x T := ⟨_, rfl⟩
          rw [← hzz] at h3 hz
          have h5 := fun va vb w ha hb => rless_any va vb x P (hPx rfl) (by omega) w ha hb
          obtain ⟨y, hy⟩ : ∃ y, y = x - P := ⟨_, rfl⟩
          rw [← hy] at h5 hF
          have h7 := fun va vb w ha hb => rfit_any false va vb y V F hF hV0 (by have := len_lt (show y < 10 ^ 60 by omega); omega) hVl w ha hb
          unfold FV at h7
          show Code.wp _ _ _ _ _
          have H3 := Lib.hid h3; have H5 := Lib.hid h5; have H7 := Lib.hid h7
          clear h3 h5 h7 hzz hy hF hPx lx lT lP t53 t18 T52 hT hP lxl lTl lPl hU hV hV0 hVl lUl hle hx0 hK0 hi hj HX
          go_wp2_with (first
            | (go_at_call 34; ((with_reducible refine (H2.out _).mono ?_); rintro e w2 ⟨v2, rfl, r2, b2⟩; obtain ⟨os2, d2, rfl⟩ := ext_of_below b2; clear b2))
            | (go_at_call 68; ((with_reducible refine (H3.out _ _ _ (r1.rd.later (by (repeat' (first | (with_reducible exact Below.refl _ _) | (with_reducible assumption) | (with_reducible refine Below.alloc ?_ ?_ _) | (with_reducible refine below_drewN ?_ _) | (with_reducible refine below_drew ?_) | (with_reducible refine below_ext ?_ ?_ _ _) | (with_reducible refine Below.setCell ?_ ?_ _) | (simp; done) | (simp; omega) | omega)))) (r2.rd.later (by (repeat' (first | (with_reducible exact Below.refl _ _) | (with_reducible assumption) | (with_reducible refine Below.alloc ?_ ?_ _) | (with_reducible refine below_drewN ?_ _) | (with_reducible refine below_drew ?_) | (with_reducible refine below_ext ?_ ?_ _ _) | (with_reducible refine Below.setCell ?_ ?_ _) | (simp; done) | (simp; omega) | omega))))).mono ?_); rintro e w3 ⟨rfl, b3⟩; obtain ⟨os3, d3, rfl⟩ := ext_of_below b3; clear b3))
            | (go_at_call 34; ((with_reducible refine (H4.out _).mono ?_); rintro e w4 ⟨v4, rfl, r4, b4⟩; obtain ⟨os4, d4, rfl⟩ := ext_of_below b4; clear b4))
            | (go_at_call 43; ((with_reducible refine (H5.out _ _ _ (r1.rd.later (by (repeat' (first | (with_reducible exact Below.refl _ _) | (with_reducible assumption) | (with_reducible refine Below.alloc ?_ ?_ _) | (with_reducible refine below_drewN ?_ _) | (with_reducible refine below_drew ?_) | (with_reducible refine below_ext ?_ ?_ _ _) | (with_reducible refine Below.setCell ?_ ?_ _) | (simp; done) | (simp; omega) | omega)))) (r4.rd.later (by (repeat' (first | (with_reducible exact Below.refl _ _) | (with_reducible assumption) | (with_reducible refine Below.alloc ?_ ?_ _) | (with_reducible refine below_drewN ?_ _) | (with_reducible refine below_drew ?_) | (with_reducible refine below_ext ?_ ?_ _ _) | (with_reducible refine Below.setCell ?_ ?_ _) | (simp; done) | (simp; omega) | omega))))).mono ?_); rintro e w5 ⟨v5, rfl, r5, b5⟩; obtain ⟨os5, d5, rfl⟩ := ext_of_below b5; clear b5))
            | (go_at_call 34; ((with_reducible refine (H6.out _).mono ?_); rintro e w6 ⟨v6, rfl, r6, b6⟩; obtain ⟨os6, d6, rfl⟩ := ext_of_below b6; clear b6))
            | (go_at_call 31; ((with_reducible refine (H7.out _ _ _ (r5.rd.later (by (repeat' (first | (with_reducible exact Below.refl _ _) | (with_reducible assumption) | (with_reducible refine Below.alloc ?_ ?_ _) | (with_reducible refine below_drewN ?_ _) | (with_reducible refine below_drew ?_) | (with_reducible refine below_ext ?_ ?_ _ _) | (with_reducible refine Below.setCell ?_ ?_ _) | (simp; done) | (simp; omega) | omega)))) (r6.rd.later (by (repeat' (first | (with_reducible exact Below.refl _ _) | (with_reducible assumption) | (with_reducible refine Below.alloc ?_ ?_ _) | (with_reducible refine below_drewN ?_ _) | (with_reducible refine below_drew ?_) | (with_reducible refine below_ext ?_ ?_ _ _) | (with_reducible refine Below.setCell ?_ ?_ _) | (simp; done) | (simp; omega) | omega))))).mono ?_); rintro e w7 ⟨rfl, b7⟩; obtain ⟨os7, d7, rfl⟩ := ext_of_below b7; clear b7)))
          go_returns
          exact ⟨rfl, by (repeat' (first | (with_reducible exact Below.refl _ _) | (with_reducible assumption) | (with_reducible refine Below.alloc ?_ ?_ _) | (with_reducible refine below_drewN ?_ _) | (with_reducible refine below_drew ?_) | (with_reducible refine below_ext ?_ ?_ _ _) | (with_reducible refine Below.setCell ?_ ?_ _) | (simp; done) | (simp; omega) | omega))⟩
        · rw [if_neg (fun h => hle h.2), if_neg (fun h => by cases h.1)] at hF
          have HF := Lib.hid (show F = Fit.upR x true (((K : Int) - 1) + 1).toNat by rw [show ((K : Int) - 1 + 1).toNat = K by omega]; exact hF)
          have HK := Lib.hid (show true = true → (K : Int) - 1 = 18 ∨ 10 ^ (51 - ((K : Int) - 1)).toNat < x from fun _ => .inr (by rw [show (51 - ((K : Int) - 1)).toNat = i by omega, ← hT]; omega))
          have hz : ¬ cmpv x T ≤ 0 := by rw [cmpv_gt (by omega)]; decide
          obtain ⟨z, hzz⟩ : ∃ z, z = cmpv x T := ⟨_, rfl⟩
          rw [← hzz] at h3 hz
          have H3 := Lib.hid h3
          clear h3 hzz hF hPx lx lT lP t53 t18 T52 hT hP lxl lTl lPl hU hV hV0 hVl lUl hle hx0 hK0 hi hj
          go_wp2_with (first
            | (go_at_call 34; ((with_reducible refine (H2.out _).mono ?_); rintro e w2 ⟨v2, rfl, r2, b2⟩; obtain ⟨os2, d2, rfl⟩ := ext_of_below b2; clear b2))
            | (go_at_call 68; ((with_reducible refine (H3.out _ _ _ (r1.rd.later (by (repeat' (first | (with_reducible exact Below.refl _ _) | (with_reducible assumption) | (with_reducible refine Below.alloc ?_ ?_ _) | (with_reducible refine below_drewN ?_ _) | (with_reducible refine below_drew ?_) | (with_reducible refine below_ext ?_ ?_ _ _) | (with_reducible refine Below.setCell ?_ ?_ _) | (simp; done) | (simp; omega) | omega)))) (r2.rd.later (by (repeat' (first | (with_reducible exact Below.refl _ _) | (with_reducible assumption) | (with_reducible refine Below.alloc ?_ ?_ _) | (with_reducible refine below_drewN ?_ _) | (with_reducible refine below_drew ?_) | (with_reducible refine below_ext ?_ ?_ _ _) | (with_reducible refine Below.setCell ?_ ?_ _) | (simp; done) | (simp; omega) | omega))))).mono ?_); rintro e w3 ⟨rfl, b3⟩; obtain ⟨os3, d3, rfl⟩ := ext_of_below b3; clear b3))
            | (go_at_call 34; ((with_reducible refine (H4.out _).mono ?_); rintro e w4 ⟨v4, rfl, r4, b4⟩; obtain ⟨os4, d4, rfl⟩ := ext_of_below b4; clear b4)))
          go_roundw
          case rel => exact ⟨(K : Int) - 1, by omega, by omega, by go_num, HF, HK, by (repeat' (first | (with_reducible exact Below.refl _ _) | (with_reducible assumption) | (with_reducible refine Below.alloc ?_ ?_ _) | (with_reducible refine below_drewN ?_ _) | (with_reducible refine below_drew ?_) | (with_reducible refine below_ext ?_ ?_ _ _) | (with_reducible refine Below.setCell ?_ ?_ _) | (simp; done) | (simp; omega) | omega))⟩
          case measure => simp [intOf] <;> omega
      · obtain rfl : down = false := by cases down; rfl; exact absurd rfl hd
        have HK := Lib.hid (show false = true → (K : Int) - 1 = 18 ∨ 10 ^ (51 - ((K : Int) - 1)).toNat < x from fun h => by cases h)
        rw [if_neg (fun h => by cases h.1)] at hF
        by_cases hlt : x < T
        · have hz : cmpv x T < 0 := by rw [cmpv_lt hlt]; decide
          obtain ⟨z, hzz⟩ : ∃ z, z = cmpv x T := ⟨_, rfl⟩
          rw [← hzz] at h3 hz
          have h5 := fun va vb w ha hb => rplus_any va vb x P (by omega) (by omega) w ha hb
          obtain ⟨y, hy⟩ : ∃ y, y = x + P := ⟨_, rfl⟩
          rw [← hy] at h5 hF
          have lyl := len_lt (show y < 10 ^ 60 by omega)
          by_cases h0 : 0 < K
          · rw [if_pos ⟨rfl, hlt, .inl h0⟩] at hF
            have h0i : (0 : Int) < (K : Int) := by omega
            have h7 := fun va vb w ha hb => rfit_any false va vb y V F hF hV0 (by omega) hVl w ha hb
            unfold FV at h7
            have H3 := Lib.hid h3; have H5 := Lib.hid h5; have H7 := Lib.hid h7
            clear h3 h5 h7 hzz hy hF hPx lx lT lP t53 t18 T52 hT hP lxl lTl lPl lyl hU hV hV0 hVl lUl hlt hx0 hK0 hi hj HX h0
            go_wp2_with (first
              | (go_at_call 34; ((with_reducible refine (H2.out _).mono ?_); rintro e w2 ⟨v2, rfl, r2, b2⟩; obtain ⟨os2, d2, rfl⟩ := ext_of_below b2; clear b2))
              | (go_at_call 68; ((with_reducible refine (H3.out _ _ _ (r1.rd.later (by (repeat' (first | (with_reducible exact Below.refl _ _) | (with_reducible assumption) | (with_reducible refine Below.alloc ?_ ?_ _) | (with_reducible refine below_drewN ?_ _) | (with_reducible refine below_drew ?_) | (with_reducible refine below_ext ?_ ?_ _ _) | (with_reducible refine Below.setCell ?_ ?_ _) | (simp; done) | (simp; omega) | omega)))) (r2.rd.later (by (repeat' (first | (with_reducible exact Below.refl _ _) | (with_reducible assumption) | (with_reducible refine Below.alloc ?_ ?_ _) | (with_reducible refine below_drewN ?_ _) | (with_reducible refine below_drew ?_) | (with_reducible refine below_ext ?_ ?_ _ _) | (with_reducible refine Below.setCell ?_ ?_ _) | (simp; done) | (simp; omega) | omega))))).mono ?_); rintro e w3 ⟨rfl, b3⟩; obtain ⟨os3, d3, rfl⟩ := ext_of_below b3; clear b3))
              | (go_at_call 34; ((with_reducible refine (H4.out _).mono ?_); rintro e w4 ⟨v4, rfl, r4, b4⟩; obtain ⟨os4, d4, rfl⟩ := ext_of_below b4; clear b4))
              | (go_at_call 71; ((with_reducible refine (H5.out _ _ _ (r1.rd.later (by (repeat' (first | (with_reducible exact Below.refl _ _) | (with_reducible assumption) | (with_reducible refine Below.alloc ?_ ?_ _) | (with_reducible refine below_drewN ?_ _) | (with_reducible refine below_drew ?_) | (with_reducible refine below_ext ?_ ?_ _ _) | (with_reducible refine Below.setCell ?_ ?_ _) | (simp; done) | (simp; omega) | omega)))) (r4.rd.later (by (repeat' (first | (with_reducible exact Below.refl _ _) | (with_reducible assumption) | (with_reducible refine Below.alloc ?_ ?_ _) | (with_reducible refine below_drewN ?_ _) | (with_reducible refine below_drew ?_) | (with_reducible refine below_ext ?_ ?_ _ _) | (with_reducible refine Below.setCell ?_ ?_ _) | (simp; done) | (simp; omega) | omega))))).mono ?_); rintro e w5 ⟨v5, rfl, r5, b5⟩; obtain ⟨os5, d5, rfl⟩ := ext_of_below b5; clear b5))
              | (go_at_call 34; ((with_reducible refine (H6.out _).mono ?_); rintro e w6 ⟨v6, rfl, r6, b6⟩; obtain ⟨os6, d6, rfl⟩ := ext_of_below b6; clear b6))
              | (go_at_call 31; ((with_reducible refine (H7.out _ _ _ (r5.rd.later (by (repeat' (first | (with_reducible exact Below.refl _ _) | (with_reducible assumption) | (with_reducible refine Below.alloc ?_ ?_ _) | (with_reducible refine below_drewN ?_ _) | (with_reducible refine below_drew ?_) | (with_reducible refine below_ext ?_ ?_ _ _) | (with_reducible refine Below.setCell ?_ ?_ _) | (simp; done) | (simp; omega) | omega)))) (r6.rd.later (by (repeat' (first | (with_reducible exact Below.refl _ _) | (with_reducible assumption) | (with_reducible refine Below.alloc ?_ ?_ _) | (with_reducible refine below_drewN ?_ _) | (with_reducible refine below_drew ?_) | (with_reducible refine below_ext ?_ ?_ _ _) | (with_reducible refine Below.setCell ?_ ?_ _) | (simp; done) | (simp; omega) | omega))))).mono ?_); rintro e w7 ⟨rfl, b7⟩; obtain ⟨os7, d7, rfl⟩ := ext_of_below b7; clear b7)))
            go_returns
            exact ⟨rfl, by (repeat' (first | (with_reducible exact Below.refl _ _) | (with_reducible assumption) | (with_reducible refine Below.alloc ?_ ?_ _) | (with_reducible refine below_drewN ?_ _) | (with_reducible refine below_drew ?_) | (with_reducible refine below_ext ?_ ?_ _ _) | (with_reducible refine Below.setCell ?_ ?_ _) | (simp; done) | (simp; omega) | omega))⟩
          · have h0i : ¬ (0 : Int) < (K : Int) := by omega
            have h9 := fun va vb w ha hb => rcmp_any va vb y U (by omega) (by omega) w ha hb
            by_cases hyU : y < U
            · rw [if_pos ⟨rfl, hlt, .inr hyU⟩] at hF
              have hz2 : cmpv y U < 0 := by rw [cmpv_lt hyU]; decide
              obtain ⟨z2, hzz2⟩ : ∃ z, z = cmpv y U := ⟨_, rfl⟩
              rw [← hzz2] at h9 hz2
              have h7 := fun va vb w ha hb => rfit_any false va vb y V F hF hV0 (by omega) hVl w ha hb
              unfold FV at h7
              have H3 := Lib.hid h3; have H5 := Lib.hid h5; have H7 := Lib.hid h7; have H9 := Lib.hid h9
              clear h3 h5 h7 h9 hzz hzz2 hy hF hPx lx lT lP t53 t18 T52 hT hP lxl lTl lPl lyl hU hV hV0 hVl lUl hlt hyU hx0 hK0 hi hj HX h0
              go_wp2_with (first
                | (go_at_call 34; ((with_reducible refine (H2.out _).mono ?_); rintro e w2 ⟨v2, rfl, r2, b2⟩; obtain ⟨os2, d2, rfl⟩ := ext_of_below b2; clear b2))
                | (go_at_call 68; ((with_reducible refine (H3.out _ _ _ (r1.rd.later (by (repeat' (first | (with_reducible exact Below.refl _ _) | (with_reducible assumption) | (with_reducible refine Below.alloc ?_ ?_ _) | (with_reducible refine below_drewN ?_ _) | (with_reducible refine below_drew ?_) | (with_reducible refine below_ext ?_ ?_ _ _) | (with_reducible refine Below.setCell ?_ ?_ _) | (simp; done) | (simp; omega) | omega)))) (r2.rd.later (by (repeat' (first | (with_reducible exact Below.refl _ _) | (with_reducible assumption) | (with_reducible refine Below.alloc ?_ ?_ _) | (with_reducible refine below_drewN ?_ _) | (with_reducible refine below_drew ?_) | (with_reducible refine below_ext ?_ ?_ _ _) | (with_reducible refine Below.setCell ?_ ?_ _) | (simp; done) | (simp; omega) | omega))))).mono ?_); rintro e w3 ⟨rfl, b3⟩; obtain ⟨os3, d3, rfl⟩ := ext_of_below b3; clear b3))
                | (go_at_call 34; ((with_reducible refine (H4.out _).mono ?_); rintro e w4 ⟨v4, rfl, r4, b4⟩; obtain ⟨os4, d4, rfl⟩ := ext_of_below b4; clear b4))
                | (go_at_call 34; ((with_reducible refine (H8.out _).mono ?_); rintro e w8 ⟨v8, rfl, r8, b8⟩; obtain ⟨os8, d8, rfl⟩ := ext_of_below b8; clear b8))
                | (go_at_call 68; ((with_reducible refine (H9.out _ _ _ (r5.rd.later (by (repeat' (first | (with_reducible exact Below.refl _ _) | (with_reducible assumption) | (with_reducible refine Below.alloc ?_ ?_ _) | (with_reducible refine below_drewN ?_ _) | (with_reducible refine below_drew ?_) | (with_reducible refine below_ext ?_ ?_ _ _) | (with_reducible refine Below.setCell ?_ ?_ _) | (simp; done) | (simp; omega) | omega)))) (r8.rd.later (by (repeat' (first | (with_reducible exact Below.refl _ _) | (with_reducible assumption) | (with_reducible refine Below.alloc ?_ ?_ _) | (with_reducible refine below_drewN ?_ _) | (with_reducible refine below_drew ?_) | (with_reducible refine below_ext ?_ ?_ _ _) | (with_reducible refine Below.setCell ?_ ?_ _) | (simp; done) | (simp; omega) | omega))))).mono ?_); rintro e w9 ⟨rfl, b9⟩; obtain ⟨os9, d9, rfl⟩ := ext_of_below b9; clear b9))
                | (go_at_call 71; ((with_reducible refine (H5.out _ _ _ (r1.rd.later (by (repeat' (first | (with_reducible exact Below.refl _ _) | (with_reducible assumption) | (with_reducible refine Below.alloc ?_ ?_ _) | (with_reducible refine below_drewN ?_ _) | (with_reducible refine below_drew ?_) | (with_reducible refine below_ext ?_ ?_ _ _) | (with_reducible refine Below.setCell ?_ ?_ _) | (simp; done) | (simp; omega) | omega)))) (r4.rd.later (by (repeat' (first | (with_reducible exact Below.refl _ _) | (with_reducible assumption) | (with_reducible refine Below.alloc ?_ ?_ _) | (with_reducible refine below_drewN ?_ _) | (with_reducible refine below_drew ?_) | (with_reducible refine below_ext ?_ ?_ _ _) | (with_reducible refine Below.setCell ?_ ?_ _) | (simp; done) | (simp; omega) | omega))))).mono ?_); rintro e w5 ⟨v5, rfl, r5, b5⟩; obtain ⟨os5, d5, rfl⟩ := ext_of_below b5; clear b5))
                | (go_at_call 34; ((with_reducible refine (H6.out _).mono ?_); rintro e w6 ⟨v6, rfl, r6, b6⟩; obtain ⟨os6, d6, rfl⟩ := ext_of_below b6; clear b6))
                | (go_at_call 31; ((with_reducible refine (H7.out _ _ _ (r5.rd.later (by (repeat' (first | (with_reducible exact Below.refl _ _) | (with_reducible assumption) | (with_reducible refine Below.alloc ?_ ?_ _) | (with_reducible refine below_drewN ?_ _) | (with_reducible refine below_drew ?_) | (with_reducible refine below_ext ?_ ?_ _ _) | (with_reducible refine Below.setCell ?_ ?_ _) | (simp; done) | (simp; omega) | omega)))) (r6.rd.later (by (repeat' (first | (with_reducible exact Below.refl _ _) | (with_reducible assumption) | (with_reducible refine Below.alloc ?_ ?_ _) | (with_reducible refine below_drewN ?_ _) | (with_reducible refine below_drew ?_) | (with_reducible refine below_ext ?_ ?_ _ _) | (with_reducible refine Below.setCell ?_ ?_ _) | (simp; done) | (simp; omega) | omega))))).mono ?_); rintro e w7 ⟨rfl, b7⟩; obtain ⟨os7, d7, rfl⟩ := ext_of_below b7; clear b7)))
              go_returns
              exact ⟨rfl, by (repeat' (first | (with_reducible exact Below.refl _ _) | (with_reducible assumption) | (with_reducible refine Below.alloc ?_ ?_ _) | (with_reducible refine below_drewN ?_ _) | (with_reducible refine below_drew ?_) | (with_reducible refine below_ext ?_ ?_ _ _) | (with_reducible refine Below.setCell ?_ ?_ _) | (simp; done) | (simp; omega) | omega))⟩
            · rw [if_neg (fun h => by rcases h.2.2 with h | h; exact h0 h; exact hyU h)] at hF
              have hz2 : ¬ cmpv y U < 0 := by unfold cmpv; rw [if_neg hyU]; split <;> decide
              obtain ⟨z2, hzz2⟩ : ∃ z, z = cmpv y U := ⟨_, rfl⟩
              rw [← hzz2] at h9 hz2
              have HF := Lib.hid (show F = Fit.upR x false (((K : Int) - 1) + 1).toNat by rw [show ((K : Int) - 1 + 1).toNat = K by omega]; exact hF)
              have H3 := Lib.hid h3; have H5 := Lib.hid h5; have H9 := Lib.hid h9
              clear h3 h5 h9 hzz hzz2 hy hF hPx lx lT lP t53 t18 T52 hT hP lxl lTl lPl lyl hU hV hV0 hVl lUl hlt hyU hx0 hK0 hi hj h0
              go_wp2_with (first
                | (go_at_call 34; ((with_reducible refine (H2.out _).mono ?_); rintro e w2 ⟨v2, rfl, r2, b2⟩; obtain ⟨os2, d2, rfl⟩ := ext_of_below b2; clear b2))
                | (go_at_call 68; ((with_reducible refine (H3.out _ _ _ (r1.rd.later (by (repeat' (first | (with_reducible exact Below.refl _ _) | (with_reducible assumption) | (with_reducible refine Below.alloc ?_ ?_ _) | (with_reducible refine below_drewN ?_ _) | (with_reducible refine below_drew ?_) | (with_reducible refine below_ext ?_ ?_ _ _) | (with_reducible refine Below.setCell ?_ ?_ _) | (simp; done) | (simp; omega) | omega)))) (r2.rd.later (by (repeat' (first | (with_reducible exact Below.refl _ _) | (with_reducible assumption) | (with_reducible refine Below.alloc ?_ ?_ _) | (with_reducible refine below_drewN ?_ _) | (with_reducible refine below_drew ?_) | (with_reducible refine below_ext ?_ ?_ _ _) | (with_reducible refine Below.setCell ?_ ?_ _) | (simp; done) | (simp; omega) | omega))))).mono ?_); rintro e w3 ⟨rfl, b3⟩; obtain ⟨os3, d3, rfl⟩ := ext_of_below b3; clear b3))
                | (go_at_call 34; ((with_reducible refine (H4.out _).mono ?_); rintro e w4 ⟨v4, rfl, r4, b4⟩; obtain ⟨os4, d4, rfl⟩ := ext_of_below b4; clear b4))
                | (go_at_call 34; ((with_reducible refine (H8.out _).mono ?_); rintro e w8 ⟨v8, rfl, r8, b8⟩; obtain ⟨os8, d8, rfl⟩ := ext_of_below b8; clear b8))
                | (go_at_call 68; ((with_reducible refine (H9.out _ _ _ (r5.rd.later (by (repeat' (first | (with_reducible exact Below.refl _ _) | (with_reducible assumption) | (with_reducible refine Below.alloc ?_ ?_ _) | (with_reducible refine below_drewN ?_ _) | (with_reducible refine below_drew ?_) | (with_reducible refine below_ext ?_ ?_ _ _) | (with_reducible refine Below.setCell ?_ ?_ _) | (simp; done) | (simp; omega) | omega)))) (r8.rd.later (by (repeat' (first | (with_reducible exact Below.refl _ _) | (with_reducible assumption) | (with_reducible refine Below.alloc ?_ ?_ _) | (with_reducible refine below_drewN ?_ _) | (with_reducible refine below_drew ?_) | (with_reducible refine below_ext ?_ ?_ _ _) | (with_reducible refine Below.setCell ?_ ?_ _) | (simp; done) | (simp; omega) | omega))))).mono ?_); rintro e w9 ⟨rfl, b9⟩; obtain ⟨os9, d9, rfl⟩ := ext_of_below b9; clear b9))
                | (go_at_call 71; ((with_reducible refine (H5.out _ _ _ (r1.rd.later (by (repeat' (first | (with_reducible exact Below.refl _ _) | (with_reducible assumption) | (with_reducible refine Below.alloc ?_ ?_ _) | (with_reducible refine below_drewN ?_ _) | (with_reducible refine below_drew ?_) | (with_reducible refine below_ext ?_ ?_ _ _) | (with_reducible refine Below.setCell ?_ ?_ _) | (simp; done) | (simp; omega) | omega)))) (r4.rd.later (by (repeat' (first | (with_reducible exact Below.refl _ _) | (with_reducible assumption) | (with_reducible refine Below.alloc ?_ ?_ _) | (with_reducible refine below_drewN ?_ _) | (with_reducible refine below_drew ?_) | (with_reducible refine below_ext ?_ ?_ _ _) | (with_reducible refine Below.setCell ?_ ?_ _) | (simp; done) | (simp; omega) | omega))))).mono ?_); rintro e w5 ⟨v5, rfl, r5, b5⟩; obtain ⟨os5, d5, rfl⟩ := ext_of_below b5; clear b5)))
              go_roundw
              case rel => exact ⟨(K : Int) - 1, by omega, by omega, by go_num, HF, HK, by (repeat' (first | (with_reducible exact Below.refl _ _) | (with_reducible assumption) | (with_reducible refine Below.alloc ?_ ?_ _) | (with_reducible refine below_drewN ?_ _) | (with_reducible refine below_drew ?_) | (with_reducible refine below_ext ?_ ?_ _ _) | (with_reducible refine Below.setCell ?_ ?_ _) | (simp; done) | (simp; omega) | omega))⟩
              case measure => simp [intOf] <;> omega
        · rw [if_neg (fun h => hlt h.2.1)] at hF
          have HF := Lib.hid (show F = Fit.upR x false (((K : Int) - 1) + 1).toNat by rw [show ((K : Int) - 1 + 1).toNat = K by omega]; exact hF)
          have hz : ¬ cmpv x T < 0 := by unfold cmpv; rw [if_neg hlt]; split <;> decide
          obtain ⟨z, hzz⟩ : ∃ z, z = cmpv x T := ⟨_, rfl⟩
          rw [← hzz] at h3 hz
          have H3 := Lib.hid h3
          clear h3 hzz hF hPx lx lT lP t53 t18 T52 hT hP lxl lTl lPl hU hV hV0 hVl lUl hlt hx0 hK0 hi hj
          go_wp2_with (first
            | (go_at_call 34; ((with_reducible refine (H2.out _).mono ?_); rintro e w2 ⟨v2, rfl, r2, b2⟩; obtain ⟨os2, d2, rfl⟩ := ext_of_below b2; clear b2))
            | (go_at_call 68; ((with_reducible refine (H3.out _ _ _ (r1.rd.later (by (repeat' (first | (with_reducible exact Below.refl _ _) | (with_reducible assumption) | (with_reducible refine Below.alloc ?_ ?_ _) | (with_reducible refine below_drewN ?_ _) | (with_reducible refine below_drew ?_) | (with_reducible refine below_ext ?_ ?_ _ _) | (with_reducible refine Below.setCell ?_ ?_ _) | (simp; done) | (simp; omega) | omega)))) (r2.rd.later (by (repeat' (first | (with_reducible exact Below.refl _ _) | (with_reducible assumption) | (with_reducible refine Below.alloc ?_ ?_ _) | (with_reducible refine below_drewN ?_ _) | (with_reducible refine below_drew ?_) | (with_reducible refine below_ext ?_ ?_ _ _) | (with_reducible refine Below.setCell ?_ ?_ _) | (simp; done) | (simp; omega) | omega))))).mono ?_); rintro e w3 ⟨rfl, b3⟩; obtain ⟨os3, d3, rfl⟩ := ext_of_below b3; clear b3))
            | (go_at_call 34; ((with_reducible refine (H4.out _).mono ?_); rintro e w4 ⟨v4, rfl, r4, b4⟩; obtain ⟨os4, d4, rfl⟩ := ext_of_below b4; clear b4)))
          go_roundw
          case rel => exact ⟨(K : Int) - 1, by omega, by omega, by go_num, HF, HK, by (repeat' (first | (with_reducible exact Below.refl _ _) | (with_reducible assumption) | (with_reducible refine Below.alloc ?_ ?_ _) | (with_reducible refine below_drewN ?_ _) | (with_reducible refine below_drew ?_) | (with_reducible refine below_ext ?_ ?_ _ _) | (with_reducible refine Below.setCell ?_ ?_ _) | (simp; done) | (simp; omega) | omega))⟩
          case measure => simp [intOf] <;> omega
end Go.Proofs.YtcnkcfbodpkllaaDoor
namespace Go.Proofs.YtcnkcfbodpkllaaDoor
open Go.RowKit Num Word
attribute [local go_sem] setCell_drewN cell?_ext frozen?_ext shape?_ext setCell_ext lt_1' ne_1' en_1' le_1' lt_2' ne_2' en_2' le_2' lt_3' ne_3' en_3' le_3' lt_4' ne_4' en_4' le_4' lt_5' ne_5' en_5' le_5' lt_6' ne_6' en_6' le_6' lt_7' ne_7' en_7' le_7' lt_8' ne_8' en_8' le_8' lt_9' ne_9' en_9' le_9' lt_10' ne_10' en_10' le_10' lt_11' ne_11' en_11' le_11' lt_12' ne_12' en_12' le_12'
attribute [local go_sem] lt_13' ne_13' en_13' le_13' lt_14' ne_14' en_14' le_14' lt_15' ne_15' en_15' le_15' lt_16' ne_16' en_16' le_16' lt_17' ne_17' en_17' le_17' lt_18' ne_18' en_18' le_18'

theorem form_c0 {neg : Bool} {c S : Nat} (h3 : S = 0 → neg = true → c ≠ 0) (h4 : S ≠ 0 → c % 10 ≠ 0) (hn : neg = true) : 0 < c := by
  rcases Nat.eq_zero_or_pos S with h | h
  · have := h3 h hn; omega
  · have := h4 (by omega); omega
theorem dNext_ok (neg : Bool) (c : Nat) (s : Int) (S : Nat) (hs : s = (S : Int)) (f : formB neg c s = true) (F : Option (Nat × Nat)) (hF : F = Fit.nbP (Fit.uni c S) (!neg) 19) (w : World) (ht : Tens w) :
    Calls Tryd.prog 16 #[D neg c s] w fun e w' => e = .returned (.tuple #[FV neg F, .int .i64 (fitE F)]) ∧ Below w.heap.size w w' := by
  have HT := Lib.hid (fun w' (hb : Below w.heap.size w w') => ht.below hb)
  obtain ⟨S', hS', hS18, hc, f3, f4⟩ := form_open f
  obtain rfl : S = S' := by omega
  have F1 := Lib.hid (fun w ht => form_yes f w ht)
  subst hs
  have h1 := fun w ht => neighbour_any neg (!neg) c S F hF hc hS18 (fun h => form_c0 f3 f4 (by cases neg <;> simp_all)) w ht
  show Calls Tryd.prog 16 #[D neg c (S : Int)] w fun e w' => e = .returned (.tuple #[D (neg && decide (0 < fitC F)) (fitC F) (fitZ F), .int .i64 (fitE F)]) ∧ Below w.heap.size w w'
  unfold FV at h1
  obtain ⟨vg, hvg⟩ : ∃ x, x = (neg && decide (0 < fitC F)) := ⟨_, rfl⟩
  obtain ⟨vc, hvc⟩ : ∃ x, x = fitC F := ⟨_, rfl⟩
  obtain ⟨vz, hvz⟩ : ∃ x, x = fitZ F := ⟨_, rfl⟩
  obtain ⟨ve, hve⟩ : ∃ x, x = fitE F := ⟨_, rfl⟩
  rw [← hvg, ← hvc, ← hvz, ← hve] at h1 ⊢
  clear ht f hF hc hS' f3 f4 hvg hvc hvz hve
  cases neg
  all_goals
    try simp only [Bool.not_false, Bool.not_true] at h1
    have H1 := Lib.hid h1
    clear h1
    go_enter Tryd.func16, Tryd.ntmps16
    go_wp2_with (first
      | (go_at_call 23; ((with_reducible refine (F1.out _ (HT.out _ (by (repeat' (first | (with_reducible exact Below.refl _ _) | (with_reducible assumption) | (with_reducible refine Below.alloc ?_ ?_ _) | (with_reducible refine below_drewN ?_ _) | (with_reducible refine below_drew ?_) | (with_reducible refine below_ext ?_ ?_ _ _) | (with_reducible refine Below.setCell ?_ ?_ _) | (simp; done) | (simp; omega) | omega))))).mono ?_); rintro e w1 ⟨rfl, hb1⟩; obtain ⟨osA, dA, rfl⟩ := ext_of_below hb1; clear hb1))
      | (go_at_call 48; ((with_reducible refine (H1.out _ (HT.out _ (by (repeat' (first | (with_reducible exact Below.refl _ _) | (with_reducible assumption) | (with_reducible refine Below.alloc ?_ ?_ _) | (with_reducible refine below_drewN ?_ _) | (with_reducible refine below_drew ?_) | (with_reducible refine below_ext ?_ ?_ _ _) | (with_reducible refine Below.setCell ?_ ?_ _) | (simp; done) | (simp; omega) | omega))))).mono ?_); rintro e w1 ⟨rfl, hb1⟩; obtain ⟨osB, dB, rfl⟩ := ext_of_below hb1; clear hb1)))
    go_returns
    exact ⟨rfl, by (repeat' (first | (with_reducible exact Below.refl _ _) | (with_reducible assumption) | (with_reducible refine Below.alloc ?_ ?_ _) | (with_reducible refine below_drewN ?_ _) | (with_reducible refine below_drew ?_) | (with_reducible refine below_ext ?_ ?_ _ _) | (with_reducible refine Below.setCell ?_ ?_ _) | (simp; done) | (simp; omega) | omega))⟩
theorem dNext_bad (neg : Bool) (c : Nat) (s : Int) (hc : c < top2) (f : formB neg c s = false) (w : World) (ht : Tens w) :
    Calls Tryd.prog 16 #[D neg c s] w fun e w' => e = .returned (.tuple #[D false 0 0, .int .i64 2]) ∧ Below w.heap.size w w' := by
  have HT := Lib.hid (fun w' (hb : Below w.heap.size w w') => ht.below hb)
  have F1 := Lib.hid (fun w ht => form_no hc f w ht)
  rw [← dbad_D]
  clear ht f hc
  go_enter Tryd.func16, Tryd.ntmps16
  go_wp2_with (first
    | (go_at_call 23; ((with_reducible refine (F1.out _ (HT.out _ (by (repeat' (first | (with_reducible exact Below.refl _ _) | (with_reducible assumption) | (with_reducible refine Below.alloc ?_ ?_ _) | (with_reducible refine below_drewN ?_ _) | (with_reducible refine below_drew ?_) | (with_reducible refine below_ext ?_ ?_ _ _) | (with_reducible refine Below.setCell ?_ ?_ _) | (simp; done) | (simp; omega) | omega))))).mono ?_); rintro e w1 ⟨rfl, hb1⟩; obtain ⟨osA, dA, rfl⟩ := ext_of_below hb1; clear hb1)))
  go_returns
  exact ⟨rfl, by (repeat' (first | (with_reducible exact Below.refl _ _) | (with_reducible assumption) | (with_reducible refine Below.alloc ?_ ?_ _) | (with_reducible refine below_drewN ?_ _) | (with_reducible refine below_drew ?_) | (with_reducible refine below_ext ?_ ?_ _ _) | (with_reducible refine Below.setCell ?_ ?_ _) | (simp; done) | (simp; omega) | omega))⟩
theorem dPrev_ok (neg : Bool) (c : Nat) (s : Int) (S : Nat) (hs : s = (S : Int)) (f : formB neg c s = true) (g : Bool) (hg : g = !flip neg c) (F : Option (Nat × Nat)) (hF : F = Fit.nbP (Fit.uni c S) g 19) (w : World) (ht : Tens w) :
    Calls Tryd.prog 18 #[D neg c s] w fun e w' => e = .returned (.tuple #[FV g F, .int .i64 (fitE F)]) ∧ Below w.heap.size w w' := by
  have HT := Lib.hid (fun w' (hb : Below w.heap.size w w') => ht.below hb)
  obtain ⟨S', hS', hS18, hc, f3, f4⟩ := form_open f
  obtain rfl : S = S' := by omega
  have F1 := Lib.hid (fun w ht => form_yes f w ht)
  subst hs
  have hz := fun w => isZero_any neg c (S : Int) w
  unfold flip at hg
  have h1 := fun w ht => neighbour_any g g c S F hF hc hS18 (fun h => by
    rw [hg] at h
    cases neg
    · rcases Nat.eq_zero_or_pos c with h0 | h0
      · subst h0; simp at h
      · exact h0
    · exact form_c0 f3 f4 rfl) w ht
  show Calls Tryd.prog 18 #[D neg c (S : Int)] w fun e w' => e = .returned (.tuple #[D (g && decide (0 < fitC F)) (fitC F) (fitZ F), .int .i64 (fitE F)]) ∧ Below w.heap.size w w'
  unfold FV at h1
  obtain ⟨vg, hvg⟩ : ∃ x, x = (g && decide (0 < fitC F)) := ⟨_, rfl⟩
  obtain ⟨vc, hvc⟩ : ∃ x, x = fitC F := ⟨_, rfl⟩
  obtain ⟨vz, hvz⟩ : ∃ x, x = fitZ F := ⟨_, rfl⟩
  obtain ⟨ve, hve⟩ : ∃ x, x = fitE F := ⟨_, rfl⟩
  rw [← hvg, ← hvc, ← hvz, ← hve] at h1 ⊢
  clear hvg hvc hvz hve
  obtain ⟨z, hzz⟩ : ∃ z, z = decide (c = 0) := ⟨_, rfl⟩
  rw [← hzz] at hz hg
  have HZ := Lib.hid hz
  clear ht f hF hc hS' f3 f4 hz hzz
  cases neg <;> cases z
  all_goals
    simp only [Bool.not_false, Bool.not_true, Bool.and_true, Bool.and_false] at hg
    subst hg
    have H1 := Lib.hid h1
    clear h1
    go_enter Tryd.func18, Tryd.ntmps18
    go_wp2_with (first
      | (go_at_call 23; ((with_reducible refine (F1.out _ (HT.out _ (by (repeat' (first | (with_reducible exact Below.refl _ _) | (with_reducible assumption) | (with_reducible refine Below.alloc ?_ ?_ _) | (with_reducible refine below_drewN ?_ _) | (with_reducible refine below_drew ?_) | (with_reducible refine below_ext ?_ ?_ _ _) | (with_reducible refine Below.setCell ?_ ?_ _) | (simp; done) | (simp; omega) | omega))))).mono ?_); rintro e w1 ⟨rfl, hb1⟩; obtain ⟨osA, dA, rfl⟩ := ext_of_below hb1; clear hb1))
      | (go_at_call 38; ((with_reducible refine (HZ.out _).mono ?_); rintro e w1 ⟨rfl, hb1⟩; obtain ⟨osC, dC, rfl⟩ := ext_of_below hb1; clear hb1))
      | (go_at_call 48; ((with_reducible refine (H1.out _ (HT.out _ (by (repeat' (first | (with_reducible exact Below.refl _ _) | (with_reducible assumption) | (with_reducible refine Below.alloc ?_ ?_ _) | (with_reducible refine below_drewN ?_ _) | (with_reducible refine below_drew ?_) | (with_reducible refine below_ext ?_ ?_ _ _) | (with_reducible refine Below.setCell ?_ ?_ _) | (simp; done) | (simp; omega) | omega))))).mono ?_); rintro e w1 ⟨rfl, hb1⟩; obtain ⟨osB, dB, rfl⟩ := ext_of_below hb1; clear hb1)))
    go_returns
    exact ⟨rfl, by (repeat' (first | (with_reducible exact Below.refl _ _) | (with_reducible assumption) | (with_reducible refine Below.alloc ?_ ?_ _) | (with_reducible refine below_drewN ?_ _) | (with_reducible refine below_drew ?_) | (with_reducible refine below_ext ?_ ?_ _ _) | (with_reducible refine Below.setCell ?_ ?_ _) | (simp; done) | (simp; omega) | omega))⟩
theorem dPrev_bad (neg : Bool) (c : Nat) (s : Int) (hc : c < top2) (f : formB neg c s = false) (w : World) (ht : Tens w) :
    Calls Tryd.prog 18 #[D neg c s] w fun e w' => e = .returned (.tuple #[D false 0 0, .int .i64 2]) ∧ Below w.heap.size w w' := by
  have HT := Lib.hid (fun w' (hb : Below w.heap.size w w') => ht.below hb)
  have F1 := Lib.hid (fun w ht => form_no hc f w ht)
  rw [← dbad_D]
  clear ht f hc
  go_enter Tryd.func18, Tryd.ntmps18
  go_wp2_with (first
    | (go_at_call 23; ((with_reducible refine (F1.out _ (HT.out _ (by (repeat' (first | (with_reducible exact Below.refl _ _) | (with_reducible assumption) | (with_reducible refine Below.alloc ?_ ?_ _) | (with_reducible refine below_drewN ?_ _) | (with_reducible refine below_drew ?_) | (with_reducible refine below_ext ?_ ?_ _ _) | (with_reducible refine Below.setCell ?_ ?_ _) | (simp; done) | (simp; omega) | omega))))).mono ?_); rintro e w1 ⟨rfl, hb1⟩; obtain ⟨osA, dA, rfl⟩ := ext_of_below hb1; clear hb1)))
  go_returns
  exact ⟨rfl, by (repeat' (first | (with_reducible exact Below.refl _ _) | (with_reducible assumption) | (with_reducible refine Below.alloc ?_ ?_ _) | (with_reducible refine below_drewN ?_ _) | (with_reducible refine below_drew ?_) | (with_reducible refine below_ext ?_ ?_ _ _) | (with_reducible refine Below.setCell ?_ ?_ _) | (simp; done) | (simp; omega) | omega))⟩
/-- the other sign of a fitted number -/
theorem flip_FV (g : Bool) (C : Nat) : flip (g && decide (0 < C)) C = (!g && decide (0 < C)) := by
  unfold flip
  rcases Nat.eq_zero_or_pos C with h | h
  · subst h; cases g <;> rfl
  · rw [decide_eq_true h, decide_eq_false (show ¬ C = 0 by omega)]; cases g <;> rfl
theorem docNext_ok (neg : Bool) (c : Nat) (s : Int) (S : Nat) (hs : s = (S : Int)) (f : formB neg c s = true) (F : Option (Nat × Nat)) (hF : F = Fit.upR (Fit.uni c S) neg 19) (w : World) :
    Calls Tryd.prog 15 #[D neg c s] w fun e w' => e = .returned (.tuple #[FV neg F, .int .i64 (fitE F)]) ∧ Below w.heap.size w w' := by
  obtain ⟨S', hS', hS18, hc, f3, f4⟩ := form_open f
  obtain rfl : S = S' := by omega
  have F1 := Lib.hid (fun w => rform_yes f w)
  subst hs
  have h1 := fun w => up_any neg neg c S F hF hc hS18 (fun h => form_c0 f3 f4 h) w
  have h2 := fun w => rflip_any (false && decide (0 < fitC F)) (fitC F) (fitZ F) w
  rw [flip_FV false] at h2
  show Calls Tryd.prog 15 #[D neg c (S : Int)] w fun e w' => e = .returned (.tuple #[D (neg && decide (0 < fitC F)) (fitC F) (fitZ F), .int .i64 (fitE F)]) ∧ Below w.heap.size w w'
  unfold FV at h1
  clear f hF hc hS' f3 f4 hS18
  cases neg
  · obtain ⟨vg, hvg⟩ : ∃ x, x = (false && decide (0 < fitC F)) := ⟨_, rfl⟩
    obtain ⟨vc, hvc⟩ : ∃ x, x = fitC F := ⟨_, rfl⟩
    obtain ⟨vz, hvz⟩ : ∃ x, x = fitZ F := ⟨_, rfl⟩
    obtain ⟨ve, hve⟩ : ∃ x, x = fitE F := ⟨_, rfl⟩
    rw [← hvg, ← hvc, ← hvz, ← hve] at h1 ⊢
    have H1 := Lib.hid h1
    clear h1 h2 hvg hvc hvz hve
    go_enter Tryd.func15, Tryd.ntmps15
    go_wp2_with (first
      | (go_at_call 20; ((with_reducible refine (F1.out _).mono ?_); rintro e w1 ⟨rfl, hb1⟩; obtain ⟨osA, dA, rfl⟩ := ext_of_below hb1; clear hb1))
      | (go_at_call 46; ((with_reducible refine (H1.out _).mono ?_); rintro e w1 ⟨rfl, hb1⟩; obtain ⟨osB, dB, rfl⟩ := ext_of_below hb1; clear hb1)))
    go_returns
    exact ⟨rfl, by (repeat' (first | (with_reducible exact Below.refl _ _) | (with_reducible assumption) | (with_reducible refine Below.alloc ?_ ?_ _) | (with_reducible refine below_drewN ?_ _) | (with_reducible refine below_drew ?_) | (with_reducible refine below_ext ?_ ?_ _ _) | (with_reducible refine Below.setCell ?_ ?_ _) | (simp; done) | (simp; omega) | omega))⟩
  · simp only [Bool.not_false] at h2
    obtain ⟨vg, hvg⟩ : ∃ x, x = (false && decide (0 < fitC F)) := ⟨_, rfl⟩
    obtain ⟨vg2, hvg2⟩ : ∃ x, x = (true && decide (0 < fitC F)) := ⟨_, rfl⟩
    obtain ⟨vc, hvc⟩ : ∃ x, x = fitC F := ⟨_, rfl⟩
    obtain ⟨vz, hvz⟩ : ∃ x, x = fitZ F := ⟨_, rfl⟩
    obtain ⟨ve, hve⟩ : ∃ x, x = fitE F := ⟨_, rfl⟩
    rw [← hvg, ← hvc, ← hvz, ← hve] at h1
    rw [← hvg, ← hvg2, ← hvc, ← hvz] at h2
    rw [← hvg2, ← hvc, ← hvz, ← hve]
    have H1 := Lib.hid h1; have H2 := Lib.hid h2
    clear h1 h2 hvg hvg2 hvc hvz hve
    go_enter Tryd.func15, Tryd.ntmps15
    go_wp2_with (first
      | (go_at_call 20; ((with_reducible refine (F1.out _).mono ?_); rintro e w1 ⟨rfl, hb1⟩; obtain ⟨osA, dA, rfl⟩ := ext_of_below hb1; clear hb1))
      | (go_at_call 46; ((with_reducible refine (H1.out _).mono ?_); rintro e w1 ⟨rfl, hb1⟩; obtain ⟨osB, dB, rfl⟩ := ext_of_below hb1; clear hb1))
      | (go_at_call 47; ((with_reducible refine (H2.out _).mono ?_); rintro e w1 ⟨rfl, hb1⟩; obtain ⟨osC, dC, rfl⟩ := ext_of_below hb1; clear hb1)))
    go_returns
    exact ⟨rfl, by (repeat' (first | (with_reducible exact Below.refl _ _) | (with_reducible assumption) | (with_reducible refine Below.alloc ?_ ?_ _) | (with_reducible refine below_drewN ?_ _) | (with_reducible refine below_drew ?_) | (with_reducible refine below_ext ?_ ?_ _ _) | (with_reducible refine Below.setCell ?_ ?_ _) | (simp; done) | (simp; omega) | omega))⟩
theorem docNext_bad (neg : Bool) (c : Nat) (s : Int) (hc : c < top2) (f : formB neg c s = false) (w : World) :
    Calls Tryd.prog 15 #[D neg c s] w fun e w' => e = .returned (.tuple #[D false 0 0, .int .i64 2]) ∧ Below w.heap.size w w' := by
  have F1 := Lib.hid (fun w => rform_no hc f w)
  rw [← dbad_D]
  clear f hc
  go_enter Tryd.func15, Tryd.ntmps15
  go_wp2_with (first
    | (go_at_call 20; ((with_reducible refine (F1.out _).mono ?_); rintro e w1 ⟨rfl, hb1⟩; obtain ⟨osA, dA, rfl⟩ := ext_of_below hb1; clear hb1)))
  go_returns
  exact ⟨rfl, by (repeat' (first | (with_reducible exact Below.refl _ _) | (with_reducible assumption) | (with_reducible refine Below.alloc ?_ ?_ _) | (with_reducible refine below_drewN ?_ _) | (with_reducible refine below_drew ?_) | (with_reducible refine below_ext ?_ ?_ _ _) | (with_reducible refine Below.setCell ?_ ?_ _) | (simp; done) | (simp; omega) | omega))⟩
theorem docPrev_ok (neg : Bool) (c : Nat) (s : Int) (S : Nat) (hs : s = (S : Int)) (f : formB neg c s = true) (g : Bool) (hg : g = flip neg c) (F : Option (Nat × Nat)) (hF : F = Fit.upR (Fit.uni c S) g 19) (w : World) :
    Calls Tryd.prog 17 #[D neg c s] w fun e w' => e = .returned (.tuple #[FV (!g) F, .int .i64 (fitE F)]) ∧ Below w.heap.size w w' := by
  have F1 := Lib.hid (fun w => rform_yes f w)
  have h1 := fun w => rflip_any neg c s w
  have h2 := fun w => docNext_ok (flip neg c) c s S hs (flip_form f) F (by rw [hF, hg]) w
  have h3 := fun w => rflip_any (g && decide (0 < fitC F)) (fitC F) (fitZ F) w
  rw [flip_FV g] at h3
  rw [← hg] at h1 h2
  show Calls Tryd.prog 17 #[D neg c s] w fun e w' => e = .returned (.tuple #[D (!g && decide (0 < fitC F)) (fitC F) (fitZ F), .int .i64 (fitE F)]) ∧ Below w.heap.size w w'
  unfold FV at h2
  obtain ⟨vg, hvg⟩ : ∃ x, x = (g && decide (0 < fitC F)) := ⟨_, rfl⟩
  obtain ⟨vg2, hvg2⟩ : ∃ x, x = (!g && decide (0 < fitC F)) := ⟨_, rfl⟩
  obtain ⟨vc, hvc⟩ : ∃ x, x = fitC F := ⟨_, rfl⟩
  obtain ⟨vz, hvz⟩ : ∃ x, x = fitZ F := ⟨_, rfl⟩
  obtain ⟨ve, hve⟩ : ∃ x, x = fitE F := ⟨_, rfl⟩
  rw [← hvg, ← hvc, ← hvz, ← hve] at h2
  rw [← hvg, ← hvg2, ← hvc, ← hvz] at h3
  rw [← hvg2, ← hvc, ← hvz, ← hve]
  have H1 := Lib.hid h1; have H2 := Lib.hid h2; have H3 := Lib.hid h3
  clear h1 h2 h3 hvg hvg2 hvc hvz hve f hg hF hs
  go_enter Tryd.func17, Tryd.ntmps17
  go_wp2_with (first
    | (go_at_call 20; ((with_reducible refine (F1.out _).mono ?_); rintro e w1 ⟨rfl, hb1⟩; obtain ⟨osA, dA, rfl⟩ := ext_of_below hb1; clear hb1))
    | (go_at_call 47; ((with_reducible refine (H1.out _).mono ?_); rintro e w1 ⟨rfl, hb1⟩; obtain ⟨osB, dB, rfl⟩ := ext_of_below hb1; clear hb1))
    | (go_at_call 15; ((with_reducible refine (H2.out _).mono ?_); rintro e w1 ⟨rfl, hb1⟩; obtain ⟨osC, dC, rfl⟩ := ext_of_below hb1; clear hb1))
    | (go_at_call 47; ((with_reducible refine (H3.out _).mono ?_); rintro e w1 ⟨rfl, hb1⟩; obtain ⟨osD, dD, rfl⟩ := ext_of_below hb1; clear hb1)))
  go_returns
  exact ⟨rfl, by (repeat' (first | (with_reducible exact Below.refl _ _) | (with_reducible assumption) | (with_reducible refine Below.alloc ?_ ?_ _) | (with_reducible refine below_drewN ?_ _) | (with_reducible refine below_drew ?_) | (with_reducible refine below_ext ?_ ?_ _ _) | (with_reducible refine Below.setCell ?_ ?_ _) | (simp; done) | (simp; omega) | omega))⟩
theorem docPrev_bad (neg : Bool) (c : Nat) (s : Int) (hc : c < top2) (f : formB neg c s = false) (w : World) :
    Calls Tryd.prog 17 #[D neg c s] w fun e w' => e = .returned (.tuple #[D false 0 0, .int .i64 2]) ∧ Below w.heap.size w w' := by
  have F1 := Lib.hid (fun w => rform_no hc f w)
  rw [← dbad_D]
  clear f hc
  go_enter Tryd.func17, Tryd.ntmps17
  go_wp2_with (first
    | (go_at_call 20; ((with_reducible refine (F1.out _).mono ?_); rintro e w1 ⟨rfl, hb1⟩; obtain ⟨osA, dA, rfl⟩ := ext_of_below hb1; clear hb1)))
  go_returns
  exact ⟨rfl, by (repeat' (first | (with_reducible exact Below.refl _ _) | (with_reducible assumption) | (with_reducible refine Below.alloc ?_ ?_ _) | (with_reducible refine below_drewN ?_ _) | (with_reducible refine below_drew ?_) | (with_reducible refine below_ext ?_ ?_ _ _) | (with_reducible refine Below.setCell ?_ ?_ _) | (simp; done) | (simp; omega) | omega))⟩
/-- the two ways to look for a neighbour find the same one -/
theorem nb_same (g : Bool) {c S : Nat} (hc : c < 10 ^ 34) (h0 : g = true → 0 < c) : Fit.nbP (Fit.uni c S) (!g) 19 = Fit.upR (Fit.uni c S) g 19 := by
  cases g
  · exact Fit.up_same (c := c) (s := S) rfl hc 19 (by omega) (.inl rfl)
  · exact Fit.down_same (c := c) (s := S) rfl hc (Nat.mul_pos (h0 rfl) (Fit.pp _)) 19 (by omega) (.inl rfl)
section
variable (na : Bool) (ca : Nat) (sa : Int)
theorem nextPair (ha : ca < top2) : ∃ n c s e0,
    (∀ w, Tens w → Calls Tryd.prog 16 #[D na ca sa] w fun e w' => e = .returned (.tuple #[D n c s, .int .i64 e0]) ∧ Below w.heap.size w w') ∧
    (∀ w, Calls Tryd.prog 15 #[D na ca sa] w fun e w' => e = .returned (.tuple #[D n c s, .int .i64 e0]) ∧ Below w.heap.size w w') := by
  cases fa : formB na ca sa with
  | false => exact ⟨false, 0, 0, 2, fun w ht => dNext_bad na ca sa ha fa w ht, fun w => docNext_bad na ca sa ha fa w⟩
  | true =>
    obtain ⟨S, hS, _, hc, f3, f4⟩ := form_open fa
    exact ⟨_, _, _, _, fun w ht => dNext_ok na ca sa S hS fa _ (nb_same na hc (fun h => form_c0 f3 f4 h)).symm w ht, fun w => docNext_ok na ca sa S hS fa _ rfl w⟩
theorem prevPair (ha : ca < top2) : ∃ n c s e0,
    (∀ w, Tens w → Calls Tryd.prog 18 #[D na ca sa] w fun e w' => e = .returned (.tuple #[D n c s, .int .i64 e0]) ∧ Below w.heap.size w w') ∧
    (∀ w, Calls Tryd.prog 17 #[D na ca sa] w fun e w' => e = .returned (.tuple #[D n c s, .int .i64 e0]) ∧ Below w.heap.size w w') := by
  cases fa : formB na ca sa with
  | false => exact ⟨false, 0, 0, 2, fun w ht => dPrev_bad na ca sa ha fa w ht, fun w => docPrev_bad na ca sa ha fa w⟩
  | true =>
    obtain ⟨S, hS, _, hc, f3, f4⟩ := form_open fa
    have h0 : flip na ca = true → 0 < ca := by
      intro h
      unfold flip at h
      rcases Nat.eq_zero_or_pos ca with h0 | h0
      · subst h0; cases na <;> cases h
      · exact h0
    exact ⟨_, _, _, _, fun w ht => dPrev_ok na ca sa S hS fa _ rfl _ (nb_same (flip na ca) hc h0).symm w ht, fun w => docPrev_ok na ca sa S hS fa _ rfl _ rfl w⟩
end
set_option maxRecDepth 100000 in
set_option maxHeartbeats 16000000 in
theorem decNeighbours_law (na : Bool) (ca : Nat) (sa : Int) (ha : ca < top2) (_za : (Lit.int .i64 sa).wf = true) (w : World) (ht : Tens w) :
    Calls Tryd.prog 4 #[D na ca sa] w fun e w' => e = .returned (.bool true) ∧ Below w.heap.size w w' := by
  have HT := Lib.hid (fun w' (hb : Below w.heap.size w w') => ht.below hb)
  obtain ⟨n2, k2, s2, e2, d1, d2⟩ := nextPair na ca sa ha
  obtain ⟨n3, k3, s3, e3, f1, f2⟩ := prevPair na ca sa ha
  have D1 := Lib.hid d1; have D2 := Lib.hid d2; have F1 := Lib.hid f1; have F2 := Lib.hid f2
  clear d1 d2 f1 f2 ht ha _za
  go_enter Tryd.func4, Tryd.ntmps4
  go_wp2_with (first
    | (go_at_call 8; ((with_reducible refine (knownD _ (HT.out _ (by (repeat' (first | (with_reducible exact Below.refl _ _) | (with_reducible assumption) | (with_reducible refine Below.alloc ?_ ?_ _) | (with_reducible refine below_drewN ?_ _) | (with_reducible refine below_drew ?_) | (with_reducible refine below_ext ?_ ?_ _ _) | (with_reducible refine Below.setCell ?_ ?_ _) | (simp; done) | (simp; omega) | omega))))).mono ?_); rintro e w1 ⟨rfl, hb1⟩; obtain ⟨osA, dA, rfl⟩ := ext_of_below hb1; clear hb1))
    | (go_at_call 15; ((with_reducible refine (D2.out _).mono ?_); rintro e w1 ⟨rfl, hb1⟩; obtain ⟨osD, dD, rfl⟩ := ext_of_below hb1; clear hb1))
    | (go_at_call 16; ((with_reducible refine (D1.out _ (HT.out _ (by (repeat' (first | (with_reducible exact Below.refl _ _) | (with_reducible assumption) | (with_reducible refine Below.alloc ?_ ?_ _) | (with_reducible refine below_drewN ?_ _) | (with_reducible refine below_drew ?_) | (with_reducible refine below_ext ?_ ?_ _ _) | (with_reducible refine Below.setCell ?_ ?_ _) | (simp; done) | (simp; omega) | omega))))).mono ?_); rintro e w1 ⟨rfl, hb1⟩; obtain ⟨osE, dE, rfl⟩ := ext_of_below hb1; clear hb1))
    | (go_at_call 17; ((with_reducible refine (F2.out _).mono ?_); rintro e w1 ⟨rfl, hb1⟩; obtain ⟨osF, dF, rfl⟩ := ext_of_below hb1; clear hb1))
    | (go_at_call 18; ((with_reducible refine (F1.out _ (HT.out _ (by (repeat' (first | (with_reducible exact Below.refl _ _) | (with_reducible assumption) | (with_reducible refine Below.alloc ?_ ?_ _) | (with_reducible refine below_drewN ?_ _) | (with_reducible refine below_drew ?_) | (with_reducible refine below_ext ?_ ?_ _ _) | (with_reducible refine Below.setCell ?_ ?_ _) | (simp; done) | (simp; omega) | omega))))).mono ?_); rintro e w1 ⟨rfl, hb1⟩; obtain ⟨osG, dG, rfl⟩ := ext_of_below hb1; clear hb1)))
  go_ret
  exact ⟨rfl, by (repeat' (first | (with_reducible exact Below.refl _ _) | (with_reducible assumption) | (with_reducible refine Below.alloc ?_ ?_ _) | (with_reducible refine below_drewN ?_ _) | (with_reducible refine below_drew ?_) | (with_reducible refine below_ext ?_ ?_ _ _) | (with_reducible refine Below.setCell ?_ ?_ _) | (simp; done) | (simp; omega) | omega))⟩
end Go.Proofs.YtcnkcfbodpkllaaDoor
