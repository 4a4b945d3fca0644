/-
  Contracts of Length, Day, Weekday, Add and their likes in the document's answers.
-/
import Derived.Test.YtcfgjhfgjckbbaaDoorDateA
namespace Go.Proofs.YtcfgjhfgjckbbaaDoor
open Go.RowKit

set_option maxHeartbeats 1000000 in
theorem before_any (y m : Int) (hy1 : 1 ≤ y) (hy2 : y ≤ 9999) (m1 : 1 ≤ m) (m2 : m ≤ 12) (w : World) (hl : Lens w) :
    Calls Tryd.prog 58 #[.int .i64 y, .int .i64 m] w fun e w' => e = .returned (.int .i64 (Cal.dby y + Cal.cum y m)) ∧ w = w' := by
  have HL := Lib.hid hl
  clear hl
  have hbd := Cal.dby_bd y hy1 (by omega)
  go_enter Tryd.func58, Tryd.ntmps58
  go_wp2
  go_loop [6, 7] (fun d i => ∃ k : Int, 1 ≤ k ∧ k ≤ m ∧ i = .int .i64 k ∧ d = .int .i64 (Cal.dby y + Cal.cum y k)) (fun _ i => (m - intOf i).toNat)
  case atStart => exact ⟨1, by omega, m1, rfl, by rw [Cal.cum_one]; simp [Cal.dby]⟩
  case round =>
    obtain ⟨k, hk1, hk2, rfl, rfl⟩ := hrel
    have hcb := Cal.cum_bd y k hk1 (by omega)
    by_cases hlt : k < m
    · have hs := Lib.hid (Cal.cum_succ y k hk1 (by omega))
      have hdb := Cal.dim_bd y k
      go_wp2_with (go_at_call 56; refine (length_date y k hy1 hk1 (by omega) _ HL.out).mono ?_; rintro e w' ⟨rfl, rfl⟩)
      go_round
      case rel => exact ⟨k + 1, by omega, by omega, rfl, by rw [hs.out, Int.add_assoc]⟩
      case measure => simp [intOf]; omega
    · obtain rfl : k = m := by omega
      go_wp2
      go_ret
      exact ⟨rfl, rfl⟩
theorem known_date (n : Int) (h1 : 1 ≤ n) (h2 : n ≤ 3652059) (w : World) : Calls Tryd.prog 60 #[.int .i64 n] w fun e w' => e = .returned (.bool true) ∧ w = w' := by
  have h2' : decide (n ≤ 3652059) = true := by simpa using h2
  go_enter Tryd.func60, Tryd.ntmps60
  go_wp2
  go_ret
  exact ⟨rfl, rfl⟩
theorem known_no (n : Int) (h : n < 1 ∨ 3652059 < n) (w : World) : Calls Tryd.prog 60 #[.int .i64 n] w fun e w' => e = .returned (.bool false) ∧ w = w' := by
  by_cases h1 : n < 1
  · have h1' : decide (1 ≤ n) = false := by simpa using h1
    clear h
    go_enter Tryd.func60, Tryd.ntmps60
    go_wp2
    go_ret
    exact ⟨rfl, rfl⟩
  · have h3 : 1 ≤ n := by omega
    have h2' : decide (n ≤ 3652059) = false := by simp; omega
    clear h h1
    go_enter Tryd.func60, Tryd.ntmps60
    go_wp2
    go_ret
    exact ⟨rfl, rfl⟩
theorem is_ref (n : Int) (h1 : 1 ≤ n) (h2 : n ≤ 3652059) (w : World) : Calls Tryd.prog 59 #[.int .i64 n] w fun e w' => e = .returned (.bool true) ∧ w = w' := by
  have h2' : decide (n ≤ 3652059) = true := by simpa using h2
  go_enter Tryd.func59, Tryd.ntmps59
  go_wp2
  go_ret
  exact ⟨rfl, rfl⟩
theorem is_no (n : Int) (h : n < 1 ∨ 3652059 < n) (w : World) : Calls Tryd.prog 59 #[.int .i64 n] w fun e w' => e = .returned (.bool false) ∧ w = w' := by
  by_cases h1 : n < 1
  · have h1' : decide (1 ≤ n) = false := by simpa using h1
    clear h
    go_enter Tryd.func59, Tryd.ntmps59
    go_wp2
    go_ret
    exact ⟨rfl, rfl⟩
  · have h3 : 1 ≤ n := by omega
    have h2' : decide (n ≤ 3652059) = false := by simp; omega
    clear h h1
    go_enter Tryd.func59, Tryd.ntmps59
    go_wp2
    go_ret
    exact ⟨rfl, rfl⟩
/-- no month: the year or the month lies outside -/
def NoMonth (y m : Int) : Prop := y < 1 ∨ 9999 < y ∨ m < 1 ∨ 12 < m
theorem Length_ok (y m : Int) (hy1 : 1 ≤ y) (hy2 : y ≤ 9999) (m1 : 1 ≤ m) (m2 : m ≤ 12) (w : World) (hl : Lens w) :
    Calls Tryd.prog 15 #[.int .i64 y, .int .i64 m] w fun e w' => e = .returned (.tuple #[.int .i64 (Cal.dim y m), .int .i64 0]) ∧ w = w' := by
  have HL := Lib.hid hl
  clear hl
  go_enter Tryd.func15, Tryd.ntmps15
  go_wp2_with (go_at_call 56; refine (length_date y m hy1 m1 m2 _ HL.out).mono ?_; rintro e w' ⟨rfl, rfl⟩)
  go_ret2
  exact ⟨rfl, rfl⟩
theorem split_no_month {y m : Int} (h : NoMonth y m) : y < 1 ∨ (1 ≤ y ∧ 9999 < y) ∨ ((1 ≤ y ∧ y ≤ 9999) ∧ m < 1) ∨ ((1 ≤ y ∧ y ≤ 9999) ∧ 1 ≤ m ∧ 12 < m) := by unfold NoMonth at h; omega
theorem Length_bad (y m : Int) (h : NoMonth y m) (w : World) :
    Calls Tryd.prog 15 #[.int .i64 y, .int .i64 m] w fun e w' => e = .returned (.tuple #[.int .i64 0, .int .i64 1]) ∧ w = w' := by
  rcases split_no_month h with h | ⟨h, h'⟩ | ⟨⟨h, h'⟩, h''⟩ | ⟨⟨h, h'⟩, h'', h3⟩
  all_goals
    go_enter Tryd.func15, Tryd.ntmps15
    go_wp2
    go_ret2
    exact ⟨rfl, rfl⟩
theorem DocLength_ok (y m : Int) (hy1 : 1 ≤ y) (hy2 : y ≤ 9999) (m1 : 1 ≤ m) (m2 : m ≤ 12) (w : World) :
    Calls Tryd.prog 14 #[.int .i64 y, .int .i64 m] w fun e w' => e = .returned (.tuple #[.int .i64 (Cal.dim y m), .int .i64 0]) ∧ w = w' := by
  go_enter Tryd.func14, Tryd.ntmps14
  go_wp2_with (go_at_call 55; refine (month_ref y m hy1 m1 m2 _).mono ?_; rintro e w' ⟨rfl, rfl⟩)
  go_ret2
  exact ⟨rfl, rfl⟩
theorem DocLength_bad (y m : Int) (h : NoMonth y m) (w : World) :
    Calls Tryd.prog 14 #[.int .i64 y, .int .i64 m] w fun e w' => e = .returned (.tuple #[.int .i64 0, .int .i64 1]) ∧ w = w' := by
  rcases split_no_month h with h | ⟨h, h'⟩ | ⟨⟨h, h'⟩, h''⟩ | ⟨⟨h, h'⟩, h'', h3⟩
  all_goals
    go_enter Tryd.func14, Tryd.ntmps14
    go_wp2
    go_ret2
    exact ⟨rfl, rfl⟩
theorem Day_ok (n y m d : Int) (h : Cal.IsDay n y m d) (w : World) (hl : Lens w) :
    Calls Tryd.prog 17 #[.int .i64 y, .int .i64 m, .int .i64 d] w fun e w' => e = .returned (.tuple #[.int .i64 n, .int .i64 0]) ∧ w = w' := by
  obtain ⟨y1, y2, m1, m2, d1, d2, hn⟩ := h
  have HL := Lib.hid hl
  have hbd := Cal.dby_bd y y1 (by omega)
  have hcb := Cal.cum_bd y m m1 (by omega)
  have hdb := Cal.dim_bd y m
  subst hn
  clear hl
  go_enter Tryd.func17, Tryd.ntmps17
  go_wp2_with (first
    | (go_at_call 15; refine (Length_ok y m y1 y2 m1 m2 _ HL.out).mono ?_; rintro e w' ⟨rfl, rfl⟩)
    | (go_at_call 58; refine (before_any y m y1 y2 m1 m2 _ HL.out).mono ?_; rintro e w' ⟨rfl, rfl⟩))
  go_ret2
  exact ⟨rfl, rfl⟩
/-- no day: no such month, or the day lies outside of it -/
def NoDay (y m d : Int) : Prop := NoMonth y m ∨ ((1 ≤ y ∧ y ≤ 9999 ∧ 1 ≤ m ∧ m ≤ 12) ∧ (d < 1 ∨ (1 ≤ d ∧ Cal.dim y m < d)))
theorem Day_bad (y m d : Int) (h : NoDay y m d) (w : World) (hl : Lens w) :
    Calls Tryd.prog 17 #[.int .i64 y, .int .i64 m, .int .i64 d] w fun e w' => e = .returned (.tuple #[.int .i64 0, .int .i64 1]) ∧ w = w' := by
  have HL := Lib.hid hl
  clear hl
  rcases h with h | ⟨⟨y1, y2, m1, m2⟩, h | ⟨h, h'⟩⟩
  · go_enter Tryd.func17, Tryd.ntmps17
    go_wp2_with (go_at_call 15; refine (Length_bad y m h _).mono ?_; rintro e w' ⟨rfl, rfl⟩)
    go_ret2
    exact ⟨rfl, rfl⟩
  · go_enter Tryd.func17, Tryd.ntmps17
    go_wp2_with (go_at_call 15; refine (Length_ok y m y1 y2 m1 m2 _ HL.out).mono ?_; rintro e w' ⟨rfl, rfl⟩)
    go_ret2
    exact ⟨rfl, rfl⟩
  · go_enter Tryd.func17, Tryd.ntmps17
    go_wp2_with (go_at_call 15; refine (Length_ok y m y1 y2 m1 m2 _ HL.out).mono ?_; rintro e w' ⟨rfl, rfl⟩)
    go_ret2
    exact ⟨rfl, rfl⟩
theorem day_or (y m d : Int) : NoMonth y m ∨ (NoDay y m d ∧ 1 ≤ y ∧ y ≤ 9999 ∧ 1 ≤ m ∧ m ≤ 12) ∨ ∃ n, Cal.IsDay n y m d := by
  unfold NoDay NoMonth
  by_cases h : 1 ≤ y ∧ y ≤ 9999 ∧ 1 ≤ m ∧ m ≤ 12
  · by_cases h2 : 1 ≤ d ∧ d ≤ Cal.dim y m
    · exact .inr (.inr ⟨_, h.1, h.2.1, h.2.2.1, h.2.2.2, h2.1, h2.2, rfl⟩)
    · exact .inr (.inl ⟨.inr ⟨h, by omega⟩, h⟩)
  · exact .inl (by omega)
theorem Weekday_ok (n : Int) (h1 : 1 ≤ n) (h2 : n ≤ 3652059) (w : World) : Calls Tryd.prog 23 #[.int .i64 n] w fun e w' => e = .returned (.tuple #[.int .i64 ((n - 1) % 7 + 1), .int .i64 0]) ∧ w = w' := by
  go_enter Tryd.func23, Tryd.ntmps23
  go_wp2_with (go_at_call 60; refine (known_date n h1 h2 _).mono ?_; rintro e w' ⟨rfl, rfl⟩)
  go_ret2
  exact ⟨rfl, rfl⟩
theorem Weekday_bad (n : Int) (h : n < 1 ∨ 3652059 < n) (w : World) : Calls Tryd.prog 23 #[.int .i64 n] w fun e w' => e = .returned (.tuple #[.int .i64 0, .int .i64 1]) ∧ w = w' := by
  go_enter Tryd.func23, Tryd.ntmps23
  go_wp2_with (go_at_call 60; refine (known_no n h _).mono ?_; rintro e w' ⟨rfl, rfl⟩)
  go_ret2
  exact ⟨rfl, rfl⟩
theorem DocWeekday_ok (n : Int) (h1 : 1 ≤ n) (h2 : n ≤ 3652059) (w : World) : Calls Tryd.prog 22 #[.int .i64 n] w fun e w' => e = .returned (.tuple #[.int .i64 ((n - 1) % 7 + 1), .int .i64 0]) ∧ w = w' := by
  go_enter Tryd.func22, Tryd.ntmps22
  go_wp2_with (go_at_call 59; refine (is_ref n h1 h2 _).mono ?_; rintro e w' ⟨rfl, rfl⟩)
  go_ret2
  exact ⟨rfl, rfl⟩
theorem DocWeekday_bad (n : Int) (h : n < 1 ∨ 3652059 < n) (w : World) : Calls Tryd.prog 22 #[.int .i64 n] w fun e w' => e = .returned (.tuple #[.int .i64 0, .int .i64 1]) ∧ w = w' := by
  go_enter Tryd.func22, Tryd.ntmps22
  go_wp2_with (go_at_call 59; refine (is_no n h _).mono ?_; rintro e w' ⟨rfl, rfl⟩)
  go_ret2
  exact ⟨rfl, rfl⟩
end Go.Proofs.YtcfgjhfgjckbbaaDoor
