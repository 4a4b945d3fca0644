/-
  Contracts of Split and DocSplit, DocDay, yearOf.
-/
import Derived.Test.YtcfgjhfgjckbbaaDoorDateB
namespace Go.Proofs.YtcfgjhfgjckbbaaDoor
open Go.RowKit

theorem two_ints {k l : IntKind} {a b c d : Int} (h : a = c) (h' : b = d) : Ending.returned (.tuple #[.int k a, .int l b]) = .returned (.tuple #[.int k c, .int l d]) := by rw [h, h']
theorem int_eq {k : IntKind} {a b : Int} (h : a = b) : Value.int k a = .int k b := by rw [h]

set_option maxHeartbeats 1000000 in
theorem yearOf_any (n y m d : Int) (h : Cal.IsDay n y m d) (w : World) :
    Calls Tryd.prog 61 #[.int .i64 n] w fun e w' => e = .returned (.tuple #[.int .i64 y, .int .i64 (n - 1 - Cal.dby y)]) ∧ w = w' := by
  obtain ⟨n1, n2⟩ := h.bd
  obtain ⟨r, hr⟩ : ∃ a, a = n - 1 := ⟨_, rfl⟩
  obtain ⟨a, ha⟩ : ∃ a, a = r / 146097 := ⟨_, rfl⟩
  obtain ⟨r1, hr1⟩ : ∃ a, a = r % 146097 := ⟨_, rfl⟩
  obtain ⟨b, hb⟩ : ∃ a, a = min (r1 / 36524) 3 := ⟨_, rfl⟩
  obtain ⟨r2, hr2⟩ : ∃ a, a = r1 - b * 36524 := ⟨_, rfl⟩
  obtain ⟨c, hc⟩ : ∃ a, a = r2 / 1461 := ⟨_, rfl⟩
  obtain ⟨r3, hr3⟩ : ∃ a, a = r2 % 1461 := ⟨_, rfl⟩
  obtain ⟨s, hs⟩ : ∃ a, a = min (r3 / 365) 3 := ⟨_, rfl⟩
  obtain ⟨g1, g2, g3⟩ := Cal.year_of r a r1 b r2 c r3 s (by omega) (by omega) ha hr1 hb hr2 hc hr3 hs
  obtain ⟨t, ht⟩ : ∃ x, x = 1 + a * 400 + (b * 100 + c * 4) + s := ⟨_, rfl⟩
  rw [← ht] at g1 g3
  have e := Cal.dby_succ t
  have ey : t = y := Cal.year_uniq (n := n) (by omega) (by omega) h.year.1 h.year.2
  subst ey
  have HR : Ending.returned (.tuple #[.int .i64 t, .int .i64 (n - 1 - Cal.dby t)]) = Ending.returned (.tuple #[.int .i64 t, .int .i64 (r3 - s * 365)]) := by
    rw [show n - 1 - Cal.dby t = r3 - s * 365 by omega]
  rw [HR]
  have hb' : 0 ≤ b ∧ b ≤ 3 := by omega
  have hr2' : 0 ≤ r2 ∧ r2 ≤ 36524 := by omega
  have hc' : 0 ≤ c ∧ c ≤ 24 := by omega
  have hr3' : 0 ≤ r3 ∧ r3 ≤ 1460 := by omega
  have hs' : 0 ≤ s ∧ s ≤ 3 := by omega
  have hr1' : 0 ≤ r1 ∧ r1 ≤ 146096 := by omega
  have ha' : 0 ≤ a ∧ a ≤ 25 := by omega
  have hr' : 0 ≤ r ∧ r ≤ 3652058 := by omega
  obtain ⟨x1, x2⟩ := hb'; obtain ⟨x3, x4⟩ := hr2'; obtain ⟨x5, x6⟩ := hc'; obtain ⟨x7, x8⟩ := hr3'; obtain ⟨x9, x10⟩ := hs'; obtain ⟨x11, x12⟩ := hr1'; obtain ⟨x13, x14⟩ := ha'; obtain ⟨x15, x16⟩ := hr'
  have E0 := hr.symm; have E1 := ha.symm; have E2 := hr1.symm
  have HB := Lib.hid hb; have HR2 := Lib.hid hr2; have HC := Lib.hid hc; have HR3 := Lib.hid hr3; have HS := Lib.hid hs; have HT := Lib.hid ht
  clear hr ha hr1 hb hr2 hc hr3 hs ht g1 g2 g3 e h HR
  go_enter Tryd.func61, Tryd.ntmps61
  go_wp2
  all_goals
    go_ret2
    have := HB.out; have := HR2.out; have := HC.out; have := HR3.out; have := HS.out; have := HT.out
    exact ⟨two_ints (by omega) (by omega), rfl⟩
set_option maxHeartbeats 1000000 in
theorem Split_ok (n y m d : Int) (h : Cal.IsDay n y m d) (w : World) (hl : Lens w) :
    Calls Tryd.prog 21 #[.int .i64 n] w fun e w' => e = .returned (.tuple #[.int .i64 y, .int .i64 m, .int .i64 d, .int .i64 0]) ∧ w = w' := by
  obtain ⟨n1, n2⟩ := h.bd
  have HD := Lib.hid h
  have hb := Cal.dby_bd y h.y1 (by have := h.y2; omega)
  obtain ⟨y1, y2, m1, m2, d1, d2, hn⟩ := h
  have HL := Lib.hid hl
  clear hl
  have HN := Lib.hid hn
  obtain ⟨r, hr⟩ : ∃ r, r = n - 1 - Cal.dby y := ⟨_, rfl⟩
  have hc := Cal.cum_bd y m m1 (by omega)
  have hdb := Cal.dim_bd y m
  have hr1 : 0 ≤ r ∧ r ≤ 400 := by omega
  have hrc : r = Cal.cum y m + d - 1 := by omega
  obtain ⟨hr1, hr2⟩ := hr1
  have HR := Lib.hid hr; have HC := Lib.hid hrc
  clear hn hrc hc hdb d2 d1 hr hb
  go_enter Tryd.func21, Tryd.ntmps21
  go_wp2_with (first
    | (go_at_call 60; refine (known_date n n1 n2 _).mono ?_; rintro e w' ⟨rfl, rfl⟩)
    | (go_at_call 61; refine (yearOf_any n y m d HD.out _).mono ?_; rintro e w' ⟨rfl, rfl⟩))
  rw [← HR.out]
  go_loop [7, 8] (fun t k => ∃ j : Int, 1 ≤ j ∧ j ≤ m ∧ k = .int .i64 j ∧ 0 ≤ r - Cal.cum y j ∧ t = .int .i64 (r - Cal.cum y j)) (fun _ k => (m - intOf k).toNat)
  case atStart => exact ⟨1, by omega, m1, rfl, by rw [Cal.cum_one]; omega, by rw [Cal.cum_one, Int.sub_zero]⟩
  case round =>
    obtain ⟨j, hj1, hj2, rfl, hj3, rfl⟩ := hrel
    have hcb := Cal.cum_bd y j hj1 (by omega)
    have hdb := Cal.dim_bd y j
    by_cases hlt : j < m
    · have hs := Cal.cum_succ y j hj1 (by omega)
      have hge : Cal.dim y j ≤ r - Cal.cum y j := by
        have := Cal.cum_mono y (j + 1) m (by omega) (by omega) (by omega)
        have := HC.out; have := HD.out.d1; omega
      have HS := Lib.hid hs
      clear hs
      go_wp2_with (go_at_call 56; refine (length_date y j y1 hj1 (by omega) _ HL.out).mono ?_; rintro e w' ⟨rfl, rfl⟩)
      go_round
      case rel => exact ⟨j + 1, by omega, by omega, rfl, by rw [HS.out]; omega, by rw [HS.out, Int.sub_sub]⟩
      case measure => simp [intOf]; omega
    · obtain rfl : j = m := by omega
      have hge : r - Cal.cum y j < Cal.dim y j := by have := HC.out; have := HD.out.d2; omega
      go_wp2_with (go_at_call 56; refine (length_date y j y1 hj1 (by omega) _ HL.out).mono ?_; rintro e w' ⟨rfl, rfl⟩)
      go_returns
      exact ⟨by rw [show r - Cal.cum y j + 1 = d by have := HC.out; omega], rfl⟩
theorem Split_bad (n : Int) (h : n < 1 ∨ 3652059 < n) (w : World) :
    Calls Tryd.prog 21 #[.int .i64 n] w fun e w' => e = .returned (.tuple #[.int .i64 0, .int .i64 0, .int .i64 0, .int .i64 1]) ∧ w = w' := by
  go_enter Tryd.func21, Tryd.ntmps21
  go_wp2_with (go_at_call 60; refine (known_no n h _).mono ?_; rintro e w' ⟨rfl, rfl⟩)
  go_returns
  exact ⟨rfl, rfl⟩
theorem DocSplit_bad (n : Int) (h : n < 1 ∨ 3652059 < n) (w : World) :
    Calls Tryd.prog 20 #[.int .i64 n] w fun e w' => e = .returned (.tuple #[.int .i64 0, .int .i64 0, .int .i64 0, .int .i64 1]) ∧ w = w' := by
  go_enter Tryd.func20, Tryd.ntmps20
  go_wp2_with (go_at_call 59; refine (is_no n h _).mono ?_; rintro e w' ⟨rfl, rfl⟩)
  go_returns
  exact ⟨rfl, rfl⟩
set_option maxHeartbeats 1000000 in
theorem DocSplit_ok (n y m d : Int) (h : Cal.IsDay n y m d) (w : World) :
    Calls Tryd.prog 20 #[.int .i64 n] w fun e w' => e = .returned (.tuple #[.int .i64 y, .int .i64 m, .int .i64 d, .int .i64 0]) ∧ w = w' := by
  obtain ⟨n1, n2⟩ := h.bd
  have HD := Lib.hid h
  obtain ⟨hY1, hY2⟩ := h.year
  have hb := Cal.dby_bd y h.y1 (by have := h.y2; omega)
  obtain ⟨y1, y2, m1, m2, d1, d2, hn⟩ := h
  have HN := Lib.hid hn
  have hc := Cal.cum_bd y m m1 (by omega)
  have hdb := Cal.dim_bd y m
  have hrc : n - Cal.dby y = Cal.cum y m + d := by omega
  have HC := Lib.hid hrc
  have HY2 := Lib.hid hY2
  clear hn hrc hc hdb d2 d1 hY2
  go_enter Tryd.func20, Tryd.ntmps20
  go_wp2_with (go_at_call 59; refine (is_ref n n1 n2 _).mono ?_; rintro e w' ⟨rfl, rfl⟩)
  go_loop [0, 6] (fun t k => ∃ j : Int, 1 ≤ j ∧ j ≤ y ∧ k = .int .i64 j ∧ 1 ≤ n - Cal.dby j ∧ t = .int .i64 (n - Cal.dby j)) (fun _ k => (y - intOf k).toNat)
  case atStart => exact ⟨1, by omega, y1, rfl, by rw [Cal.dby_one]; omega, by rw [Cal.dby_one, Int.sub_zero]⟩
  case round =>
    obtain ⟨j, hj1, hj2, rfl, hj3, rfl⟩ := hrel
    have hjb := Cal.dby_bd j hj1 (by omega)
    have hlp := Cal.lp_01 j
    by_cases hlt : j < y
    · have hs := Cal.dby_succ j
      have hge : 365 + Cal.lp j < n - Cal.dby j := by
        have := Cal.dby_mono (j + 1) y (by omega); omega
      have HS := Lib.hid hs
      clear hs
      go_wp2_with (go_at_call 57; refine (year_ref j hj1 _).mono ?_; rintro e w' ⟨rfl, rfl⟩)
      go_round
      case rel => exact ⟨j + 1, by omega, by omega, rfl, by rw [HS.out]; omega, by rw [HS.out]; exact int_eq (by omega)⟩
      case measure => simp [intOf]; omega
    · obtain rfl : j = y := by omega
      have hge : n - Cal.dby j ≤ 365 + Cal.lp j := by have := HY2.out; have := Cal.dby_succ j; omega
      go_wp2_with (go_at_call 57; refine (year_ref j hj1 _).mono ?_; rintro e w' ⟨rfl, rfl⟩)
      go_loop [0, 7] (fun t k => ∃ i : Int, 1 ≤ i ∧ i ≤ m ∧ k = .int .i64 i ∧ 1 ≤ n - Cal.dby j - Cal.cum j i ∧ t = .int .i64 (n - Cal.dby j - Cal.cum j i)) (fun _ k => (m - intOf k).toNat)
      case atStart => exact ⟨1, by omega, m1, rfl, by rw [Cal.cum_one]; omega, by rw [Cal.cum_one, Int.sub_zero]⟩
      case round =>
        obtain ⟨i, hi1, hi2, rfl, hi3, rfl⟩ := hrel
        have hcb := Cal.cum_bd j i hi1 (by omega)
        have hdb := Cal.dim_bd j i
        by_cases hlt2 : i < m
        · have hs := Cal.cum_succ j i hi1 (by omega)
          have hge2 : Cal.dim j i < n - Cal.dby j - Cal.cum j i := by
            have := Cal.cum_mono j (i + 1) m (by omega) (by omega) (by omega)
            have := HC.out; have := HD.out.d1; omega
          have HS := Lib.hid hs
          clear hs
          go_wp2_with (go_at_call 55; refine (month_ref j i y1 hi1 (by omega) _).mono ?_; rintro e w' ⟨rfl, rfl⟩)
          go_round
          case rel => exact ⟨i + 1, by omega, by omega, rfl, by rw [HS.out]; omega, by rw [HS.out, Int.sub_sub]⟩
          case measure => simp [intOf]; omega
        · obtain rfl : i = m := by omega
          have hge2 : n - Cal.dby j - Cal.cum j i ≤ Cal.dim j i := by have := HC.out; have := HD.out.d2; omega
          go_wp2_with (go_at_call 55; refine (month_ref j i y1 hi1 (by omega) _).mono ?_; rintro e w' ⟨rfl, rfl⟩)
          go_returns
          exact ⟨by rw [show n - Cal.dby j - Cal.cum j i = d by have := HC.out; omega], rfl⟩
set_option maxHeartbeats 1000000 in
theorem DocDay_ok (n y m d : Int) (h : Cal.IsDay n y m d) (w : World) :
    Calls Tryd.prog 16 #[.int .i64 y, .int .i64 m, .int .i64 d] w fun e w' => e = .returned (.tuple #[.int .i64 n, .int .i64 0]) ∧ w = w' := by
  obtain ⟨y1, y2, m1, m2, d1, d2, hn⟩ := h
  have hdb := Cal.dim_bd y m
  have HN := Lib.hid hn
  clear hn
  go_enter Tryd.func16, Tryd.ntmps16
  go_wp2_with (go_at_call 55; refine (month_ref y m y1 m1 m2 _).mono ?_; rintro e w' ⟨rfl, rfl⟩)
  go_loop [8, 9] (fun t k => ∃ j : Int, 1 ≤ j ∧ j ≤ y ∧ k = .int .i64 j ∧ t = .int .i64 (d + Cal.dby j)) (fun _ k => (y - intOf k).toNat)
  case atStart => exact ⟨1, by omega, y1, rfl, by rw [Cal.dby_one, Int.add_zero]⟩
  case round =>
    obtain ⟨j, hj1, hj2, rfl, rfl⟩ := hrel
    have hjb := Cal.dby_bd j hj1 (by omega)
    have hlp := Cal.lp_01 j
    by_cases hlt : j < y
    · have HS := Lib.hid (Cal.dby_succ j)
      go_wp2_with (go_at_call 57; refine (year_ref j hj1 _).mono ?_; rintro e w' ⟨rfl, rfl⟩)
      go_round
      case rel => exact ⟨j + 1, by omega, by omega, rfl, by rw [HS.out]; exact int_eq (by omega)⟩
      case measure => simp [intOf]; omega
    · obtain rfl : j = y := by omega
      go_wp2
      go_loop [8, 10] (fun t k => ∃ i : Int, 1 ≤ i ∧ i ≤ m ∧ k = .int .i64 i ∧ t = .int .i64 (d + Cal.dby j + Cal.cum j i)) (fun _ k => (m - intOf k).toNat)
      case atStart => exact ⟨1, by omega, m1, rfl, by rw [Cal.cum_one, Int.add_zero]⟩
      case round =>
        obtain ⟨i, hi1, hi2, rfl, rfl⟩ := hrel
        have hcb := Cal.cum_bd j i hi1 (by omega)
        have hdb := Cal.dim_bd j i
        by_cases hlt2 : i < m
        · have HS := Lib.hid (Cal.cum_succ j i hi1 (by omega))
          go_wp2_with (go_at_call 55; refine (month_ref j i y1 hi1 (by omega) _).mono ?_; rintro e w' ⟨rfl, rfl⟩)
          go_round
          case rel => exact ⟨i + 1, by omega, by omega, rfl, by rw [HS.out, Int.add_assoc]⟩
          case measure => simp [intOf]; omega
        · obtain rfl : i = m := by omega
          go_wp2
          go_ret2
          exact ⟨two_ints (by have := HN.out; omega) rfl, rfl⟩
theorem DocDay_bad (y m d : Int) (h : NoDay y m d) (w : World) :
    Calls Tryd.prog 16 #[.int .i64 y, .int .i64 m, .int .i64 d] w fun e w' => e = .returned (.tuple #[.int .i64 0, .int .i64 1]) ∧ w = w' := by
  rcases h with h | ⟨⟨y1, y2, m1, m2⟩, h | ⟨h, h'⟩⟩
  · rcases split_no_month h with h | ⟨h, h'⟩ | ⟨⟨h, h'⟩, h''⟩ | ⟨⟨h, h'⟩, h'', h3⟩
    all_goals
      go_enter Tryd.func16, Tryd.ntmps16
      go_wp2
      go_ret2
      exact ⟨rfl, rfl⟩
  · go_enter Tryd.func16, Tryd.ntmps16
    go_wp2
    go_ret2
    exact ⟨rfl, rfl⟩
  · go_enter Tryd.func16, Tryd.ntmps16
    go_wp2_with (go_at_call 55; refine (month_ref y m y1 m1 m2 _).mono ?_; rintro e w' ⟨rfl, rfl⟩)
    go_ret2
    exact ⟨rfl, rfl⟩
end Go.Proofs.YtcfgjhfgjckbbaaDoor
