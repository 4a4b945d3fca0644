/-
  Contracts of Name on both sides.
-/
import Derived.Test.YtalahkincccffaaGreatDoorBf
namespace Go.Proofs.YtalahkincccffaaGreatDoor
open Go.RowKit Txt
attribute [local go_sem] setCell_drewN cell?_ext frozen?_ext shape?_ext setCell_ext lt_1' ne_1' en_1' le_1' lt_2' ne_2' en_2' le_2' lt_3' ne_3' en_3' le_3' lt_4' ne_4' en_4' le_4' lt_5' ne_5' en_5' le_5' lt_6' ne_6' en_6' le_6' lt_7' ne_7' en_7' le_7' lt_8' ne_8' en_8' le_8' lt_9' ne_9' en_9' le_9' lt_10' ne_10' en_10' le_10' lt_11' ne_11' en_11' le_11' lt_12' ne_12' en_12' le_12'

def IsName (s : ByteArray) : Prop := 0 < s.size ∧ s.size ≤ 64 ∧ isWord s = false ∧ letN (s.get! 0).toNat = true ∧ ∀ i, i < s.size → (letN (s.get! i).toNat || digN (s.get! i).toNat) = true
theorem not_empty {s : ByteArray} (h : 0 < s.size) : s.toList.isEmpty = false := by
  rw [ByteArray.toList_eq]
  cases e : s.data.toList with
  | nil => have : s.size = 0 := by rw [Lib.size_eq, e]; rfl
           omega
  | cons a l => rfl
theorem empty_of {s : ByteArray} (h : s.size = 0) : s = mkb [] := by
  have : s.data.toList = [] := List.eq_nil_of_length_eq_zero (by rw [← Lib.size_eq]; exact h)
  cases s with
  | mk d => cases d with | mk l => simp at this; subst this; rfl
theorem let_no_dig {x : Nat} (h : letN x = true) : digN x = false := by
  have := of_decide_eq_true h
  exact decide_eq_false (by omega)
theorem dig_no_let {x : Nat} (h : digN x = true) : letN x = false := by
  have := of_decide_eq_true h
  exact decide_eq_false (by omega)
set_option maxHeartbeats 2000000 in
theorem name_yes (s : ByteArray) (h : IsName s) (w : World) : Calls Tryz.prog 29 #[.string s] w fun e w' => e = .returned (.bool true) ∧ w = w' := by
  obtain ⟨h0, h64, hw, hl0, hall⟩ := h
  have hne : s.toList.isEmpty = false := not_empty h0
  rw [get_of s 0 h0] at hl0
  have hd0 := let_no_dig hl0
  have hWd := word_any s
  rw [hw] at hWd
  have hLt := letter_any (s[0]'h0).toNat
  rw [hl0] at hLt
  have hDg := digit_any (s[0]'h0).toNat
  rw [hd0] at hDg
  have HW := Lib.hid hWd; have HL0 := Lib.hid hLt; have HD0 := Lib.hid hDg; have HA := Lib.hid hall
  have h1 : 1 ≤ s.size := by omega
  clear hWd hLt hDg hall hw hl0 hd0
  go_enter Tryz.func29, Tryz.ntmps29
  go_wp2_with (first
    | (go_at_call 50; ((with_reducible refine (HW.out _).mono ?_); rintro e w' ⟨rfl, rfl⟩))
    | (go_at_call 51; ((with_reducible refine (HD0.out _).mono ?_); rintro e w' ⟨rfl, rfl⟩)))
  go_loop [3] (fun i => ∃ k : Nat, 0 ≤ k ∧ k ≤ s.size ∧ i = .int .i64 k) (fun i => s.size - (intOf i).toNat)
  case atStart => exact ⟨0, by omega, by omega, rfl⟩
  case round =>
    obtain ⟨k, hk0, hk, rfl⟩ := hrel
    by_cases hlt : k < s.size
    · have ha := HA.out k hlt
      rw [get_of s k hlt, Bool.or_eq_true] at ha
      have hL := letter_any (s[k]'hlt).toNat
      have hD := digit_any (s[k]'hlt).toNat
      cases hl : letN (s[k]'hlt).toNat with
      | true =>
        rw [hl] at hL
        have HLk := Lib.hid hL
        clear ha hL hD hl
        go_wp2_with (go_at_call 52; ((with_reducible refine (HLk.out _).mono ?_); rintro e w' ⟨rfl, rfl⟩))
        go_round
        case rel => exact ⟨k + 1, by omega, by omega, by go_num⟩
        case measure => simp [intOf]; omega
      | false =>
        rw [hl] at ha hL
        have hd : digN (s[k]'hlt).toNat = true := by simpa using ha
        rw [hd] at hD
        have HLk := Lib.hid hL; have HDk := Lib.hid hD
        clear ha hL hD hl hd
        go_wp2_with (first
          | (go_at_call 52; ((with_reducible refine (HLk.out _).mono ?_); rintro e w' ⟨rfl, rfl⟩))
          | (go_at_call 51; ((with_reducible refine (HDk.out _).mono ?_); rintro e w' ⟨rfl, rfl⟩)))
        go_round
        case rel => exact ⟨k + 1, by omega, by omega, by go_num⟩
        case measure => simp [intOf]; omega
    · go_wp2
      go_ret
      exact ⟨rfl, rfl⟩
set_option maxHeartbeats 2000000 in
theorem name_no (s : ByteArray) (h : ¬ IsName s) (w : World) : Calls Tryz.prog 29 #[.string s] w fun e w' => e = .returned (.bool false) ∧ w = w' := by
  have HN := Lib.hid h
  clear h
  by_cases h0 : 0 < s.size
  · have hne : s.toList.isEmpty = false := not_empty h0
    by_cases h64 : s.size ≤ 64
    · have h64' : decide (64 < s.size) = false := by simp; omega
      have hWd := word_any s
      have hLt := letter_any (s[0]'h0).toNat
      have hDg := digit_any (s[0]'h0).toNat
      have hcase : isWord s = true ∨ (isWord s = false ∧ digN (s[0]'h0).toNat = true) ∨ (isWord s = false ∧ digN (s[0]'h0).toNat = false) := by
        cases hw : isWord s <;> cases hx : letN (s[0]'h0).toNat <;> cases hd : digN (s[0]'h0).toNat <;> simp
        all_goals (exact absurd hx (by rw [dig_no_let hd]; simp))
      rcases hcase with hw | ⟨hw, hd⟩ | ⟨hw, hd⟩
      case inr.inr =>
        rw [hw] at hWd
        rw [hd] at hDg
        have HW := Lib.hid hWd; have HL0 := Lib.hid hLt; have HD0 := Lib.hid hDg
        have HX := Lib.hid hd
        have HWW := Lib.hid hw
        clear hWd hLt hDg hd hw
        have h1 : 1 ≤ s.size := by omega
        go_enter Tryz.func29, Tryz.ntmps29
        go_wp2_with (first
          | (go_at_call 50; ((with_reducible refine (HW.out _).mono ?_); rintro e w' ⟨rfl, rfl⟩))
          | (go_at_call 51; ((with_reducible refine (HD0.out _).mono ?_); rintro e w' ⟨rfl, rfl⟩)))
        go_loop [3] (fun i => ∃ k : Nat, 0 ≤ k ∧ k ≤ s.size ∧ i = .int .i64 k ∧ ∀ j, 0 ≤ j → j < k → (letN (s.get! j).toNat || digN (s.get! j).toNat) = true) (fun i => s.size - (intOf i).toNat)
        case atStart => exact ⟨0, by omega, by omega, rfl, fun j h1 h2 => absurd h2 (by omega)⟩
        case round =>
          obtain ⟨k, hk0, hk, rfl, hbe⟩ := hrel
          have HB := Lib.hid hbe
          clear hbe
          by_cases hlt : k < s.size
          · have hL := letter_any (s[k]'hlt).toNat
            have hD := digit_any (s[k]'hlt).toNat
            have hstep : Hid ((letN (s[k]'hlt).toNat || digN (s[k]'hlt).toNat) = true → ∀ j, 0 ≤ j → j < k + 1 → (letN (s.get! j).toNat || digN (s.get! j).toNat) = true) := Lib.hid (fun hc j h1 h2 => by
              rcases Nat.lt_or_eq_of_le (Nat.le_of_lt_succ h2) with h3 | rfl
              · exact HB.out j h1 h3
              · rw [get_of s j hlt]; exact hc)
            cases hl : letN (s[k]'hlt).toNat with
            | true =>
              rw [hl] at hL
              have HLk := Lib.hid hL
              have HS := Lib.hid (hstep.out (by rw [hl]; rfl))
              clear hL hD hl hstep
              go_wp2_with (go_at_call 52; ((with_reducible refine (HLk.out _).mono ?_); rintro e w' ⟨rfl, rfl⟩))
              go_round
              case rel => exact ⟨k + 1, by omega, by omega, by go_num, HS.out⟩
              case measure => simp [intOf]; omega
            | false =>
              cases hd : digN (s[k]'hlt).toNat with
              | true =>
                rw [hl] at hL
                rw [hd] at hD
                have HLk := Lib.hid hL; have HDk := Lib.hid hD
                have HS := Lib.hid (hstep.out (by rw [hd]; simp))
                clear hL hD hl hd hstep
                go_wp2_with (first
                  | (go_at_call 52; ((with_reducible refine (HLk.out _).mono ?_); rintro e w' ⟨rfl, rfl⟩))
                  | (go_at_call 51; ((with_reducible refine (HDk.out _).mono ?_); rintro e w' ⟨rfl, rfl⟩)))
                go_round
                case rel => exact ⟨k + 1, by omega, by omega, by go_num, HS.out⟩
                case measure => simp [intOf]; omega
              | false =>
                rw [hl] at hL
                rw [hd] at hD
                have HLk := Lib.hid hL; have HDk := Lib.hid hD
                clear hL hD hl hd hstep
                go_wp2_with (first
                  | (go_at_call 52; ((with_reducible refine (HLk.out _).mono ?_); rintro e w' ⟨rfl, rfl⟩))
                  | (go_at_call 51; ((with_reducible refine (HDk.out _).mono ?_); rintro e w' ⟨rfl, rfl⟩)))
                go_ret
                exact ⟨rfl, rfl⟩
          · obtain rfl : k = s.size := by omega
            refine absurd ?_ HN.out
            have hall : ∀ j, j < s.size → (letN (s.get! j).toNat || digN (s.get! j).toNat) = true := fun j h2 => HB.out j (by omega) h2
            have h00 := hall 0 h0
            rw [get_of s 0 h0, HX.out, Bool.or_false] at h00
            exact ⟨h0, h64, HWW.out, by rw [get_of s 0 h0]; exact h00, hall⟩
      all_goals
        rw [hw] at hWd
        first | rw [hd] at hDg | skip
        have HW := Lib.hid hWd; have HL0 := Lib.hid hLt; have HD0 := Lib.hid hDg
        clear hWd hLt hDg
        go_enter Tryz.func29, Tryz.ntmps29
        go_wp2_with (first
          | (go_at_call 50; ((with_reducible refine (HW.out _).mono ?_); rintro e w' ⟨rfl, rfl⟩))
          | (go_at_call 51; ((with_reducible refine (HD0.out _).mono ?_); rintro e w' ⟨rfl, rfl⟩)))
        go_ret
        exact ⟨rfl, rfl⟩
    · have h64' : decide (64 < s.size) = true := by simp; omega
      go_enter Tryz.func29, Tryz.ntmps29
      go_wp2
      go_ret
      exact ⟨rfl, rfl⟩
  · obtain rfl : s = mkb [] := empty_of (by omega)
    go_enter Tryz.func29, Tryz.ntmps29
    go_wp2
    go_ret
    exact ⟨rfl, rfl⟩
set_option maxHeartbeats 2000000 in
theorem rname_yes (s : ByteArray) (h : IsName s) (w : World) : Calls Tryz.prog 25 #[.string s] w fun e w' => e = .returned (.bool true) ∧ w = w' := by
  obtain ⟨h0, h64, hw, hl0, hall⟩ := h
  have hne : s.toList.isEmpty = false := not_empty h0
  rw [get_of s 0 h0] at hl0
  have hd0 := let_no_dig hl0
  have hWd := rword_any s
  rw [hw] at hWd
  have hLt := rletter_any (s[0]'h0).toNat
  rw [hl0] at hLt
  have hDg := rdigit_any (s[0]'h0).toNat
  rw [hd0] at hDg
  have HW := Lib.hid hWd; have HL0 := Lib.hid hLt; have HD0 := Lib.hid hDg; have HA := Lib.hid hall
  have h1 : 1 ≤ s.size := by omega
  clear hWd hLt hDg hall hw hl0 hd0
  go_enter Tryz.func25, Tryz.ntmps25
  go_wp2_with (first
    | (go_at_call 42; ((with_reducible refine (HW.out _).mono ?_); rintro e w' ⟨rfl, rfl⟩))
    | (go_at_call 41; ((with_reducible refine (HL0.out _).mono ?_); rintro e w' ⟨rfl, rfl⟩)))
  go_loop [3] (fun i => ∃ k : Nat, 1 ≤ k ∧ k ≤ s.size ∧ i = .int .i64 k) (fun i => s.size - (intOf i).toNat)
  case atStart => exact ⟨1, by omega, by omega, rfl⟩
  case round =>
    obtain ⟨k, hk0, hk, rfl⟩ := hrel
    by_cases hlt : k < s.size
    · have ha := HA.out k hlt
      rw [get_of s k hlt, Bool.or_eq_true] at ha
      have hL := rletter_any (s[k]'hlt).toNat
      have hD := rdigit_any (s[k]'hlt).toNat
      cases hl : letN (s[k]'hlt).toNat with
      | true =>
        rw [hl] at hL
        have HLk := Lib.hid hL
        clear ha hL hD hl
        go_wp2_with (go_at_call 41; ((with_reducible refine (HLk.out _).mono ?_); rintro e w' ⟨rfl, rfl⟩))
        go_round
        case rel => exact ⟨k + 1, by omega, by omega, by go_num⟩
        case measure => simp [intOf]; omega
      | false =>
        rw [hl] at ha hL
        have hd : digN (s[k]'hlt).toNat = true := by simpa using ha
        rw [hd] at hD
        have HLk := Lib.hid hL; have HDk := Lib.hid hD
        clear ha hL hD hl hd
        go_wp2_with (first
          | (go_at_call 41; ((with_reducible refine (HLk.out _).mono ?_); rintro e w' ⟨rfl, rfl⟩))
          | (go_at_call 43; ((with_reducible refine (HDk.out _).mono ?_); rintro e w' ⟨rfl, rfl⟩)))
        go_round
        case rel => exact ⟨k + 1, by omega, by omega, by go_num⟩
        case measure => simp [intOf]; omega
    · go_wp2
      go_ret
      exact ⟨rfl, rfl⟩
set_option maxHeartbeats 2000000 in
theorem rname_no (s : ByteArray) (h : ¬ IsName s) (w : World) : Calls Tryz.prog 25 #[.string s] w fun e w' => e = .returned (.bool false) ∧ w = w' := by
  have HN := Lib.hid h
  clear h
  by_cases h0 : 0 < s.size
  · have hne : s.toList.isEmpty = false := not_empty h0
    by_cases h64 : s.size ≤ 64
    · have h64' : decide (64 < s.size) = false := by simp; omega
      have hWd := rword_any s
      have hLt := rletter_any (s[0]'h0).toNat
      have hDg := rdigit_any (s[0]'h0).toNat
      have hcase : letN (s[0]'h0).toNat = false ∨ (letN (s[0]'h0).toNat = true ∧ isWord s = true) ∨ (letN (s[0]'h0).toNat = true ∧ isWord s = false) := by
        cases hw : isWord s <;> cases hx : letN (s[0]'h0).toNat <;> cases hd : digN (s[0]'h0).toNat <;> simp
        all_goals (exact absurd hx (by rw [dig_no_let hd]; simp))
      rcases hcase with hx | ⟨hx, hw⟩ | ⟨hx, hw⟩
      case inr.inr =>
        rw [hw] at hWd
        rw [hx] at hLt
        have HW := Lib.hid hWd; have HL0 := Lib.hid hLt; have HD0 := Lib.hid hDg
        have HX := Lib.hid hx
        have HWW := Lib.hid hw
        clear hWd hLt hDg hx hw
        have h1 : 1 ≤ s.size := by omega
        go_enter Tryz.func25, Tryz.ntmps25
        go_wp2_with (first
          | (go_at_call 42; ((with_reducible refine (HW.out _).mono ?_); rintro e w' ⟨rfl, rfl⟩))
          | (go_at_call 41; ((with_reducible refine (HL0.out _).mono ?_); rintro e w' ⟨rfl, rfl⟩)))
        go_loop [3] (fun i => ∃ k : Nat, 1 ≤ k ∧ k ≤ s.size ∧ i = .int .i64 k ∧ ∀ j, 1 ≤ j → j < k → (letN (s.get! j).toNat || digN (s.get! j).toNat) = true) (fun i => s.size - (intOf i).toNat)
        case atStart => exact ⟨1, by omega, by omega, rfl, fun j h1 h2 => absurd h2 (by omega)⟩
        case round =>
          obtain ⟨k, hk0, hk, rfl, hbe⟩ := hrel
          have HB := Lib.hid hbe
          clear hbe
          by_cases hlt : k < s.size
          · have hL := rletter_any (s[k]'hlt).toNat
            have hD := rdigit_any (s[k]'hlt).toNat
            have hstep : Hid ((letN (s[k]'hlt).toNat || digN (s[k]'hlt).toNat) = true → ∀ j, 1 ≤ j → j < k + 1 → (letN (s.get! j).toNat || digN (s.get! j).toNat) = true) := Lib.hid (fun hc j h1 h2 => by
              rcases Nat.lt_or_eq_of_le (Nat.le_of_lt_succ h2) with h3 | rfl
              · exact HB.out j h1 h3
              · rw [get_of s j hlt]; exact hc)
            cases hl : letN (s[k]'hlt).toNat with
            | true =>
              rw [hl] at hL
              have HLk := Lib.hid hL
              have HS := Lib.hid (hstep.out (by rw [hl]; rfl))
              clear hL hD hl hstep
              go_wp2_with (go_at_call 41; ((with_reducible refine (HLk.out _).mono ?_); rintro e w' ⟨rfl, rfl⟩))
              go_round
              case rel => exact ⟨k + 1, by omega, by omega, by go_num, HS.out⟩
              case measure => simp [intOf]; omega
            | false =>
              cases hd : digN (s[k]'hlt).toNat with
              | true =>
                rw [hl] at hL
                rw [hd] at hD
                have HLk := Lib.hid hL; have HDk := Lib.hid hD
                have HS := Lib.hid (hstep.out (by rw [hd]; simp))
                clear hL hD hl hd hstep
                go_wp2_with (first
                  | (go_at_call 41; ((with_reducible refine (HLk.out _).mono ?_); rintro e w' ⟨rfl, rfl⟩))
                  | (go_at_call 43; ((with_reducible refine (HDk.out _).mono ?_); rintro e w' ⟨rfl, rfl⟩)))
                go_round
                case rel => exact ⟨k + 1, by omega, by omega, by go_num, HS.out⟩
                case measure => simp [intOf]; omega
              | false =>
                rw [hl] at hL
                rw [hd] at hD
                have HLk := Lib.hid hL; have HDk := Lib.hid hD
                clear hL hD hl hd hstep
                go_wp2_with (first
                  | (go_at_call 41; ((with_reducible refine (HLk.out _).mono ?_); rintro e w' ⟨rfl, rfl⟩))
                  | (go_at_call 43; ((with_reducible refine (HDk.out _).mono ?_); rintro e w' ⟨rfl, rfl⟩)))
                go_ret
                exact ⟨rfl, rfl⟩
          · obtain rfl : k = s.size := by omega
            refine absurd ?_ HN.out
            have hall : ∀ j, j < s.size → (letN (s.get! j).toNat || digN (s.get! j).toNat) = true := fun j h2 => by
              by_cases hj : 1 ≤ j
              · exact HB.out j hj h2
              · obtain rfl : j = 0 := by omega
                rw [get_of s 0 h0, HX.out]; rfl
            exact ⟨h0, h64, HWW.out, by rw [get_of s 0 h0]; exact HX.out, hall⟩
      all_goals
        rw [hx] at hLt
        first | rw [hw] at hWd | skip
        have HW := Lib.hid hWd; have HL0 := Lib.hid hLt; have HD0 := Lib.hid hDg
        clear hWd hLt hDg
        go_enter Tryz.func25, Tryz.ntmps25
        go_wp2_with (first
          | (go_at_call 42; ((with_reducible refine (HW.out _).mono ?_); rintro e w' ⟨rfl, rfl⟩))
          | (go_at_call 41; ((with_reducible refine (HL0.out _).mono ?_); rintro e w' ⟨rfl, rfl⟩)))
        go_ret
        exact ⟨rfl, rfl⟩
    · have h64' : decide (64 < s.size) = true := by simp; omega
      go_enter Tryz.func25, Tryz.ntmps25
      go_wp2
      go_ret
      exact ⟨rfl, rfl⟩
  · obtain rfl : s = mkb [] := empty_of (by omega)
    go_enter Tryz.func25, Tryz.ntmps25
    go_wp2
    go_ret
    exact ⟨rfl, rfl⟩
end Go.Proofs.YtalahkincccffaaGreatDoor
