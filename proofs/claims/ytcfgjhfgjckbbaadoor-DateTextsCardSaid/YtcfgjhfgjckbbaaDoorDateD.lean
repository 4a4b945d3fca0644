/-
  Contracts of Add, Months and the document's DocAdd, DocMonths.
-/
import Derived.Test.YtcfgjhfgjckbbaaDoorDateC
namespace Go.Proofs.YtcfgjhfgjckbbaaDoor
open Go.RowKit

theorem Add_bad (n k : Int) (h : n < 1 ∨ 3652059 < n) (w : World) : Calls Tryd.prog 25 #[.int .i64 n, .int .i64 k] w fun e w' => e = .returned (.tuple #[.int .i64 0, .int .i64 1]) ∧ w = w' := by
  go_enter Tryd.func25, Tryd.ntmps25
  go_wp2_with (go_at_call 60; refine (known_no n h _).mono ?_; rintro e w' ⟨rfl, rfl⟩)
  go_ret2
  exact ⟨rfl, rfl⟩
theorem DocAdd_bad (n k : Int) (h : n < 1 ∨ 3652059 < n) (w : World) : Calls Tryd.prog 24 #[.int .i64 n, .int .i64 k] w fun e w' => e = .returned (.tuple #[.int .i64 0, .int .i64 1]) ∧ w = w' := by
  go_enter Tryd.func24, Tryd.ntmps24
  go_wp2_with (go_at_call 59; refine (is_no n h _).mono ?_; rintro e w' ⟨rfl, rfl⟩)
  go_ret2
  exact ⟨rfl, rfl⟩
theorem Add_ok (n k : Int) (h1 : 1 ≤ n) (h2 : n ≤ 3652059) (h3 : 1 ≤ n + k) (h4 : n + k ≤ 3652059) (w : World) : Calls Tryd.prog 25 #[.int .i64 n, .int .i64 k] w fun e w' => e = .returned (.tuple #[.int .i64 (n + k), .int .i64 0]) ∧ w = w' := by
  have g1 : k ≤ 3652059 - n := by omega
  have g2 : 1 - n ≤ k := by omega
  go_enter Tryd.func25, Tryd.ntmps25
  go_wp2_with (go_at_call 60; refine (known_date n h1 h2 _).mono ?_; rintro e w' ⟨rfl, rfl⟩)
  go_ret2
  exact ⟨rfl, rfl⟩
theorem DocAdd_ok (n k : Int) (h1 : 1 ≤ n) (h2 : n ≤ 3652059) (h3 : 1 ≤ n + k) (h4 : n + k ≤ 3652059) (w : World) : Calls Tryd.prog 24 #[.int .i64 n, .int .i64 k] w fun e w' => e = .returned (.tuple #[.int .i64 (n + k), .int .i64 0]) ∧ w = w' := by
  have g1 : k ≤ 3652059 := by omega
  have g2 : -3652059 ≤ k := by omega
  go_enter Tryd.func24, Tryd.ntmps24
  go_wp2_with (first
    | (go_at_call 59; ((with_reducible refine (is_ref n h1 h2 _).mono ?_); rintro e w' ⟨rfl, rfl⟩))
    | (go_at_call 59; ((with_reducible refine (is_ref (n + k) h3 h4 _).mono ?_); rintro e w' ⟨rfl, rfl⟩)))
  go_ret2
  exact ⟨rfl, rfl⟩
theorem Add_far (n k : Int) (h1 : 1 ≤ n) (h2 : n ≤ 3652059) (h3 : n + k < 1 ∨ 3652059 < n + k) (w : World) : Calls Tryd.prog 25 #[.int .i64 n, .int .i64 k] w fun e w' => e = .returned (.tuple #[.int .i64 0, .int .i64 17]) ∧ w = w' := by
  by_cases g1 : 3652059 - n < k
  · clear h3
    go_enter Tryd.func25, Tryd.ntmps25
    go_wp2_with (go_at_call 60; refine (known_date n h1 h2 _).mono ?_; rintro e w' ⟨rfl, rfl⟩)
    go_ret2
    exact ⟨rfl, rfl⟩
  · have g2 : k < 1 - n := by omega
    clear h3
    go_enter Tryd.func25, Tryd.ntmps25
    go_wp2_with (go_at_call 60; refine (known_date n h1 h2 _).mono ?_; rintro e w' ⟨rfl, rfl⟩)
    go_ret2
    exact ⟨rfl, rfl⟩
theorem DocAdd_far (n k : Int) (h1 : 1 ≤ n) (h2 : n ≤ 3652059) (h3 : n + k < 1 ∨ 3652059 < n + k) (w : World) : Calls Tryd.prog 24 #[.int .i64 n, .int .i64 k] w fun e w' => e = .returned (.tuple #[.int .i64 0, .int .i64 17]) ∧ w = w' := by
  have h3' := Lib.hid h3
  clear h3
  by_cases g1 : 3652059 < k
  · go_enter Tryd.func24, Tryd.ntmps24
    go_wp2_with (go_at_call 59; refine (is_ref n h1 h2 _).mono ?_; rintro e w' ⟨rfl, rfl⟩)
    go_ret2
    exact ⟨rfl, rfl⟩
  · by_cases g2 : k < -3652059
    · go_enter Tryd.func24, Tryd.ntmps24
      go_wp2_with (go_at_call 59; refine (is_ref n h1 h2 _).mono ?_; rintro e w' ⟨rfl, rfl⟩)
      go_ret2
      exact ⟨rfl, rfl⟩
    · have g3 : k ≤ 3652059 := by omega
      have g4 : -3652059 ≤ k := by omega
      go_enter Tryd.func24, Tryd.ntmps24
      go_wp2_with (first
        | (go_at_call 59; ((with_reducible refine (is_ref n h1 h2 _).mono ?_); rintro e w' ⟨rfl, rfl⟩))
        | (go_at_call 59; ((with_reducible refine (is_no (n + k) h3'.out _).mono ?_); rintro e w' ⟨rfl, rfl⟩)))
      go_ret2
      exact ⟨rfl, rfl⟩
theorem Months_bad (n k : Int) (h : n < 1 ∨ 3652059 < n) (w : World) : Calls Tryd.prog 27 #[.int .i64 n, .int .i64 k] w fun e w' => e = .returned (.tuple #[.int .i64 0, .int .i64 1]) ∧ w = w' := by
  go_enter Tryd.func27, Tryd.ntmps27
  go_wp2_with (go_at_call 21; refine (Split_bad n h _).mono ?_; rintro e w' ⟨rfl, rfl⟩)
  go_ret2
  exact ⟨rfl, rfl⟩
theorem DocMonths_bad (n k : Int) (h : n < 1 ∨ 3652059 < n) (w : World) : Calls Tryd.prog 26 #[.int .i64 n, .int .i64 k] w fun e w' => e = .returned (.tuple #[.int .i64 0, .int .i64 1]) ∧ w = w' := by
  go_enter Tryd.func26, Tryd.ntmps26
  go_wp2_with (go_at_call 20; refine (DocSplit_bad n h _).mono ?_; rintro e w' ⟨rfl, rfl⟩)
  go_ret2
  exact ⟨rfl, rfl⟩
set_option maxHeartbeats 1000000 in
theorem Months_ok (n y m d k c z j : Int) (h : Cal.IsDay n y m d) (hc : c = (y - 1) * 12 + (m - 1) + k) (h0 : 0 ≤ c) (h1 : c ≤ 119987) (hz : z = c / 12 + 1) (hj : j = c % 12 + 1) (w : World) (hl : Lens w) :
    Calls Tryd.prog 27 #[.int .i64 n, .int .i64 k] w fun e w' => e = .returned (.tuple #[.int .i64 (Cal.dby z + Cal.cum z j + min d (Cal.dim z j)), .int .i64 0]) ∧ w = w' := by
  have HD := Lib.hid h
  have HL := Lib.hid hl
  obtain ⟨y1, y2, m1, m2, d1, d2, hn⟩ := h
  have hd := Cal.dim_bd y m
  obtain ⟨a, ha⟩ : ∃ a, a = (y - 1) * 12 + m - 1 := ⟨_, rfl⟩
  have z1 : 1 ≤ z ∧ z ≤ 9999 ∧ 1 ≤ j ∧ j ≤ 12 := by omega
  have hcb := Cal.cum_bd z j (by omega) (by omega)
  have hbb := Cal.dby_bd z (by omega) (by omega)
  have hdb := Cal.dim_bd z j
  have a1 : 0 ≤ a ∧ a ≤ 119987 := by omega
  obtain ⟨a1, a2⟩ := a1
  obtain ⟨z1, z2, z3, z4⟩ := z1
  have g1 : k ≤ 119987 - a := by omega
  have g2 : -a ≤ k := by omega
  have E0 := ha.symm
  have E1 : a + k = c := by omega
  have E2 := hz.symm; have E3 := hj.symm
  clear ha hc hz hj hl hn d2
  go_enter Tryd.func27, Tryd.ntmps27
  go_wp2_with (first
    | (go_at_call 21; ((with_reducible refine (Split_ok n y m d HD.out _ HL.out).mono ?_); rintro e w' ⟨rfl, rfl⟩))
    | (go_at_call 58; ((with_reducible refine (before_any z j z1 z2 z3 z4 _ HL.out).mono ?_); rintro e w' ⟨rfl, rfl⟩))
    | (go_at_call 56; ((with_reducible refine (length_date z j z1 z3 z4 _ HL.out).mono ?_); rintro e w' ⟨rfl, rfl⟩)))
  all_goals
    go_ret2
    exact ⟨two_ints (by omega) rfl, rfl⟩
set_option maxHeartbeats 1000000 in
theorem Months_far (n y m d k : Int) (h : Cal.IsDay n y m d) (hk : (y - 1) * 12 + (m - 1) + k < 0 ∨ 119987 < (y - 1) * 12 + (m - 1) + k) (w : World) (hl : Lens w) :
    Calls Tryd.prog 27 #[.int .i64 n, .int .i64 k] w fun e w' => e = .returned (.tuple #[.int .i64 0, .int .i64 17]) ∧ w = w' := by
  have HD := Lib.hid h
  have HL := Lib.hid hl
  obtain ⟨y1, y2, m1, m2, d1, d2, hn⟩ := h
  obtain ⟨a, ha⟩ : ∃ a, a = (y - 1) * 12 + m - 1 := ⟨_, rfl⟩
  have a1 : 0 ≤ a ∧ a ≤ 119987 := by omega
  obtain ⟨a1, a2⟩ := a1
  have E0 := ha.symm
  by_cases g1 : 119987 - a < k
  · clear ha hl hn d2 hk
    go_enter Tryd.func27, Tryd.ntmps27
    go_wp2_with (go_at_call 21; ((with_reducible refine (Split_ok n y m d HD.out _ HL.out).mono ?_); rintro e w' ⟨rfl, rfl⟩))
    go_ret2
    exact ⟨rfl, rfl⟩
  · have g2 : k < -a := by omega
    clear ha hl hn d2 hk
    go_enter Tryd.func27, Tryd.ntmps27
    go_wp2_with (go_at_call 21; ((with_reducible refine (Split_ok n y m d HD.out _ HL.out).mono ?_); rintro e w' ⟨rfl, rfl⟩))
    go_ret2
    exact ⟨rfl, rfl⟩
theorem DocMonths_big (n y m d k : Int) (h : Cal.IsDay n y m d) (hk : k < -200000 ∨ 200000 < k) (w : World) :
    Calls Tryd.prog 26 #[.int .i64 n, .int .i64 k] w fun e w' => e = .returned (.tuple #[.int .i64 0, .int .i64 17]) ∧ w = w' := by
  have HD := Lib.hid h
  clear h
  by_cases g1 : 200000 < k
  · clear hk
    go_enter Tryd.func26, Tryd.ntmps26
    go_wp2_with (go_at_call 20; ((with_reducible refine (DocSplit_ok n y m d HD.out _).mono ?_); rintro e w' ⟨rfl, rfl⟩))
    go_ret2
    exact ⟨rfl, rfl⟩
  · have g2 : k < -200000 := by omega
    clear hk
    go_enter Tryd.func26, Tryd.ntmps26
    go_wp2_with (go_at_call 20; ((with_reducible refine (DocSplit_ok n y m d HD.out _).mono ?_); rintro e w' ⟨rfl, rfl⟩))
    go_ret2
    exact ⟨rfl, rfl⟩
/-- where the counting of months comes to -/
def AtMonth (a k : Int) (u1 u6 u7 : Value) (j : Int) : Prop := u1 = .int .i64 (k - j) ∧ u6 = .int .i64 ((a + j) / 12 + 1) ∧ u7 = .int .i64 ((a + j) % 12 + 1)
set_option maxHeartbeats 2000000 in
theorem DocMonths_core (n y m d k a : Int) (h : Cal.IsDay n y m d) (ha : a = (y - 1) * 12 + (m - 1)) (k1 : -200000 ≤ k) (k2 : k ≤ 200000) (w : World) (T : Ending → Prop)
    (hlow : a + k < 0 → T (.returned (.tuple #[.int .i64 0, .int .i64 17]))) (hhigh : 119987 < a + k → T (.returned (.tuple #[.int .i64 0, .int .i64 17])))
    (hin : 0 ≤ a + k → a + k ≤ 119987 → T (.returned (.tuple #[.int .i64 (Cal.dby ((a + k) / 12 + 1) + Cal.cum ((a + k) / 12 + 1) ((a + k) % 12 + 1) + min d (Cal.dim ((a + k) / 12 + 1) ((a + k) % 12 + 1))), .int .i64 0]))) :
    Calls Tryd.prog 26 #[.int .i64 n, .int .i64 k] w fun e w' => T e ∧ w = w' := by
  have HD := Lib.hid h
  obtain ⟨y1, y2, m1, m2, d1, d2, hn⟩ := h
  have a1 : 0 ≤ a ∧ a ≤ 119987 := by omega
  obtain ⟨a1, a2⟩ := a1
  have H1 := Lib.hid hlow; have H2 := Lib.hid hhigh; have H3 := Lib.hid hin
  have HA := Lib.hid ha
  clear ha hlow hhigh hin hn d2
  go_enter Tryd.func26, Tryd.ntmps26
  go_wp2_with (go_at_call 20; ((with_reducible refine (DocSplit_ok n y m d HD.out _).mono ?_); rintro e w' ⟨rfl, rfl⟩))
  go_loop [1, 6, 7] (fun u1 u6 u7 => ∃ j : Int, 0 ≤ j ∧ (j = 0 ∨ j ≤ k) ∧ AtMonth a k u1 u6 u7 j) (fun u1 _ _ => (intOf u1).toNat)
  case atStart => exact ⟨0, by omega, .inl rfl, int_eq (by omega), int_eq (by have := HA.out; omega), int_eq (by have := HA.out; omega)⟩
  case round =>
    obtain ⟨j, hj1, hj2, rfl, rfl, rfl⟩ := hrel
    have hj3 : j ≤ 200000 := by omega
    by_cases hlt : 0 < k - j
    · have hj4 : j ≤ k := by omega
      have HJ := Lib.hid hj2
      clear hj2
      have r1 : 0 ≤ (a + j) % 12 ∧ (a + j) % 12 ≤ 11 := by omega
      have r2 : 0 ≤ (a + j) / 12 ∧ (a + j) / 12 ≤ 40000 := by omega
      obtain ⟨r, hr⟩ : ∃ r, r = (a + j) % 12 + 1 := ⟨_, rfl⟩
      obtain ⟨q, hq⟩ : ∃ q, q = (a + j) / 12 + 1 := ⟨_, rfl⟩
      rw [← hr, ← hq]
      have HR := Lib.hid hr; have HQ := Lib.hid hq
      have r1' : 1 ≤ r ∧ r ≤ 12 := by omega
      have r2' : 1 ≤ q ∧ q ≤ 40001 := by omega
      obtain ⟨r3, r4⟩ := r1'; obtain ⟨r5, r6⟩ := r2'
      clear hr hq r1 r2
      by_cases h13 : r = 12
      · subst h13
        go_wp2
        go_round
        case rel => exact ⟨j + 1, by omega, .inr (by omega), int_eq (by omega), int_eq (by have := HR.out; have := HQ.out; omega), int_eq (by have := HR.out; have := HQ.out; omega)⟩
        case measure => simp [intOf]; omega
      · have h13' : (r + 1 == 13) = false := by simp; omega
        have h13'' : r < 12 := by omega
        clear h13
        go_wp2
        go_round
        case rel => exact ⟨j + 1, by omega, .inr (by omega), int_eq (by omega), int_eq (by have := HR.out; have := HQ.out; omega), int_eq (by have := HR.out; have := HQ.out; omega)⟩
        case measure => simp [intOf]; omega
    · have HJ := Lib.hid hj2
      clear hj2
      go_wp2
      go_loop [1, 6, 7] (fun u1 u6 u7 => ∃ j : Int, k ≤ j ∧ j ≤ 200000 ∧ AtMonth a k u1 u6 u7 j) (fun u1 _ _ => (-intOf u1).toNat)
      case atStart => exact ⟨j, by omega, by omega, rfl, rfl, rfl⟩
      case round =>
        clear HJ hlt hj1 hj3
        obtain ⟨t, ht1, ht2, rfl, rfl, rfl⟩ := hrel
        have r1 : 0 ≤ (a + t) % 12 ∧ (a + t) % 12 ≤ 11 := by omega
        have r2 : -40000 ≤ (a + t) / 12 ∧ (a + t) / 12 ≤ 40000 := by omega
        obtain ⟨r, hr⟩ : ∃ r, r = (a + t) % 12 + 1 := ⟨_, rfl⟩
        obtain ⟨q, hq⟩ : ∃ q, q = (a + t) / 12 + 1 := ⟨_, rfl⟩
        rw [← hr, ← hq]
        have HR := Lib.hid hr; have HQ := Lib.hid hq
        have r1' : 1 ≤ r ∧ r ≤ 12 := by omega
        have r2' : -40000 ≤ q ∧ q ≤ 40001 := by omega
        obtain ⟨r3, r4⟩ := r1'; obtain ⟨r5, r6⟩ := r2'
        clear hr hq r1 r2
        by_cases hlt : k - t < 0
        · by_cases h1 : r = 1
          · subst h1
            go_wp2
            go_round
            case rel => exact ⟨t - 1, by omega, by omega, int_eq (by omega), int_eq (by have := HR.out; have := HQ.out; omega), int_eq (by have := HR.out; have := HQ.out; omega)⟩
            case measure => simp [intOf]; omega
          · have h1' : (r - 1 == 0) = false := by simp; omega
            have h1'' : 1 < r := by omega
            clear h1
            go_wp2
            go_round
            case rel => exact ⟨t - 1, by omega, by omega, int_eq (by omega), int_eq (by have := HR.out; have := HQ.out; omega), int_eq (by have := HR.out; have := HQ.out; omega)⟩
            case measure => simp [intOf]; omega
        · obtain rfl : t = k := by omega
          clear hlt
          by_cases hq1 : q < 1
          · go_wp2
            go_ret2
            exact ⟨H1.out (by have := HQ.out; omega), rfl⟩
          · by_cases hq2 : 9999 < q
            · go_wp2
              go_ret2
              exact ⟨H2.out (by have := HQ.out; omega), rfl⟩
            · have q1 : 1 ≤ q := by omega
              have q2 : q ≤ 9999 := by omega
              have HT := Lib.hid (H3.out (by have := HQ.out; omega) (by have := HQ.out; omega))
              rw [← HQ.out, ← HR.out] at HT
              have HI := Lib.hid (Cal.later (a + t) q r d (by have := HQ.out; omega) (by have := HQ.out; omega) HQ.out HR.out d1)
              have hmn : min d (Cal.dim q r) = if d ≤ Cal.dim q r then d else Cal.dim q r := rfl
              clear hq1 hq2
              by_cases hdm : d ≤ Cal.dim q r
              · rw [hmn, if_pos hdm] at HT HI
                clear hmn
                go_wp2_with (first
                  | (go_at_call 55; ((with_reducible refine (month_ref q r q1 r3 r4 _).mono ?_); rintro e w' ⟨rfl, rfl⟩))
                  | (go_at_call 16; ((with_reducible refine (DocDay_ok _ q r _ HI.out _).mono ?_); rintro e w' ⟨rfl, rfl⟩)))
                all_goals
                  go_ret2
                  exact ⟨HT.out, rfl⟩
              · rw [hmn, if_neg hdm] at HT HI
                clear hmn
                have hdm' : Cal.dim q r ≤ d := by omega
                go_wp2_with (first
                  | (go_at_call 55; ((with_reducible refine (month_ref q r q1 r3 r4 _).mono ?_); rintro e w' ⟨rfl, rfl⟩))
                  | (go_at_call 16; ((with_reducible refine (DocDay_ok _ q r _ HI.out _).mono ?_); rintro e w' ⟨rfl, rfl⟩)))
                all_goals
                  go_ret2
                  exact ⟨HT.out, rfl⟩
theorem DocMonths_ok (n y m d k c z j : Int) (h : Cal.IsDay n y m d) (hc : c = (y - 1) * 12 + (m - 1) + k) (h0 : 0 ≤ c) (h1 : c ≤ 119987) (hz : z = c / 12 + 1) (hj : j = c % 12 + 1) (w : World) :
    Calls Tryd.prog 26 #[.int .i64 n, .int .i64 k] w fun e w' => e = .returned (.tuple #[.int .i64 (Cal.dby z + Cal.cum z j + min d (Cal.dim z j)), .int .i64 0]) ∧ w = w' := by
  have hh := h
  obtain ⟨y1, y2, m1, m2, d1, d2, hn⟩ := h
  refine DocMonths_core n y m d k _ hh rfl (by omega) (by omega) w (fun e => e = _) (fun hx => by omega) (fun hx => by omega) (fun _ _ => ?_)
  rw [← hc, ← hz, ← hj]
theorem DocMonths_far (n y m d k : Int) (h : Cal.IsDay n y m d) (hk : (y - 1) * 12 + (m - 1) + k < 0 ∨ 119987 < (y - 1) * 12 + (m - 1) + k) (w : World) :
    Calls Tryd.prog 26 #[.int .i64 n, .int .i64 k] w fun e w' => e = .returned (.tuple #[.int .i64 0, .int .i64 17]) ∧ w = w' := by
  by_cases g : k < -200000 ∨ 200000 < k
  · exact DocMonths_big n y m d k h g w
  · exact DocMonths_core n y m d k _ h rfl (by omega) (by omega) w (fun e => e = _) (fun _ => rfl) (fun _ => rfl) (fun _ _ => by omega)
end Go.Proofs.YtcfgjhfgjckbbaaDoor
