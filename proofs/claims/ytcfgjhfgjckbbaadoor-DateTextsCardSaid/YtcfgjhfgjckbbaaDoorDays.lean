/-
  The laws of package date's numbers (DateDays, DateSplits, DateSteps) answer true, given their own first question's answer.
-/
import Derived.Test.YtcfgjhfgjckbbaaDoorDateD
namespace Go.Proofs.YtcfgjhfgjckbbaaDoor
open Go.RowKit
attribute [local go_sem] setCell_drewN cell?_ext frozen?_ext shape?_ext setCell_ext lt_1' ne_1' en_1' le_1' lt_2' ne_2' en_2' le_2' lt_3' ne_3' en_3' le_3' lt_4' ne_4' en_4' le_4' lt_5' ne_5' en_5' le_5' lt_6' ne_6' en_6' le_6' lt_7' ne_7' en_7' le_7' lt_8' ne_8' en_8' le_8' lt_9' ne_9' en_9' le_9' lt_10' ne_10' en_10' le_10' lt_11' ne_11' en_11' le_11' lt_12' ne_12' en_12' le_12'

/-- the statements' own first question is answered yes, in every world in which X holds -/
def Known (X : World → Prop) : Prop := ∀ w, X w → Calls Tryd.prog 13 #[] w fun e w' => e = .returned (.bool true) ∧ Below w.heap.size w w'
set_option maxHeartbeats 2000000 in
theorem days_of (X : World → Prop) (hK : Known X) (y m d : Int) (w : World) (hx : X w) (hl : Lens w) :
    Calls Tryd.prog 3 #[.int .i64 y, .int .i64 m, .int .i64 d] w fun e w' => e = .returned (.bool true) ∧ Below w.heap.size w w' := by
  have HL := Lib.hid (fun os n => hl.ext os n)
  have HK := Lib.hid (hK w hx)
  clear hl hx hK
  rcases day_or y m d with h | ⟨h, y1, y2, m1, m2⟩ | ⟨n, h⟩
  · have h2 : NoDay y m d := .inl h
    go_enter Tryd.func3, Tryd.ntmps3
    go_wp2_with (first
      | (go_at_call 13; ((with_reducible refine (HK.out).mono ?_); rintro e w1 ⟨rfl, hb1⟩; obtain ⟨osA, dA, rfl⟩ := ext_of_below hb1; clear hb1))
      | (go_at_call 14; ((with_reducible refine (DocLength_bad y m h _).mono ?_); rintro e w' ⟨rfl, rfl⟩))
      | (go_at_call 15; ((with_reducible refine (Length_bad y m h _).mono ?_); rintro e w' ⟨rfl, rfl⟩))
      | (go_at_call 16; ((with_reducible refine (DocDay_bad y m d h2 _).mono ?_); rintro e w' ⟨rfl, rfl⟩))
      | (go_at_call 17; ((with_reducible refine (Day_bad y m d h2 _ (HL.out _ _)).mono ?_); rintro e w' ⟨rfl, rfl⟩))
      | (go_at_call 18; ((with_reducible refine (leap_date y _).mono ?_); rintro e w' ⟨rfl, rfl⟩))
      | (go_at_call 19; ((with_reducible refine (leap_ref y _).mono ?_); rintro e w' ⟨rfl, rfl⟩)))
    go_ret
    exact ⟨rfl, by (repeat' (first | (with_reducible exact Below.refl _ _) | (with_reducible assumption) | (with_reducible refine Below.alloc ?_ ?_ _) | (with_reducible refine below_drewN ?_ _) | (with_reducible refine below_drew ?_) | (with_reducible refine below_ext ?_ ?_ _ _) | (with_reducible refine Below.setCell ?_ ?_ _) | (simp; done) | (simp; omega) | omega))⟩
  · go_enter Tryd.func3, Tryd.ntmps3
    go_wp2_with (first
      | (go_at_call 13; ((with_reducible refine (HK.out).mono ?_); rintro e w1 ⟨rfl, hb1⟩; obtain ⟨osA, dA, rfl⟩ := ext_of_below hb1; clear hb1))
      | (go_at_call 14; ((with_reducible refine (DocLength_ok y m y1 y2 m1 m2 _).mono ?_); rintro e w' ⟨rfl, rfl⟩))
      | (go_at_call 15; ((with_reducible refine (Length_ok y m y1 y2 m1 m2 _ (HL.out _ _)).mono ?_); rintro e w' ⟨rfl, rfl⟩))
      | (go_at_call 16; ((with_reducible refine (DocDay_bad y m d h _).mono ?_); rintro e w' ⟨rfl, rfl⟩))
      | (go_at_call 17; ((with_reducible refine (Day_bad y m d h _ (HL.out _ _)).mono ?_); rintro e w' ⟨rfl, rfl⟩))
      | (go_at_call 18; ((with_reducible refine (leap_date y _).mono ?_); rintro e w' ⟨rfl, rfl⟩))
      | (go_at_call 19; ((with_reducible refine (leap_ref y _).mono ?_); rintro e w' ⟨rfl, rfl⟩)))
    go_ret
    exact ⟨rfl, by (repeat' (first | (with_reducible exact Below.refl _ _) | (with_reducible assumption) | (with_reducible refine Below.alloc ?_ ?_ _) | (with_reducible refine below_drewN ?_ _) | (with_reducible refine below_drew ?_) | (with_reducible refine below_ext ?_ ?_ _ _) | (with_reducible refine Below.setCell ?_ ?_ _) | (simp; done) | (simp; omega) | omega))⟩
  · have HD := Lib.hid h
    obtain ⟨y1, y2, m1, m2, d1, d2, hn⟩ := h
    clear hn d2
    go_enter Tryd.func3, Tryd.ntmps3
    go_wp2_with (first
      | (go_at_call 13; ((with_reducible refine (HK.out).mono ?_); rintro e w1 ⟨rfl, hb1⟩; obtain ⟨osA, dA, rfl⟩ := ext_of_below hb1; clear hb1))
      | (go_at_call 14; ((with_reducible refine (DocLength_ok y m y1 y2 m1 m2 _).mono ?_); rintro e w' ⟨rfl, rfl⟩))
      | (go_at_call 15; ((with_reducible refine (Length_ok y m y1 y2 m1 m2 _ (HL.out _ _)).mono ?_); rintro e w' ⟨rfl, rfl⟩))
      | (go_at_call 16; ((with_reducible refine (DocDay_ok n y m d HD.out _).mono ?_); rintro e w' ⟨rfl, rfl⟩))
      | (go_at_call 17; ((with_reducible refine (Day_ok n y m d HD.out _ (HL.out _ _)).mono ?_); rintro e w' ⟨rfl, rfl⟩))
      | (go_at_call 18; ((with_reducible refine (leap_date y _).mono ?_); rintro e w' ⟨rfl, rfl⟩))
      | (go_at_call 19; ((with_reducible refine (leap_ref y _).mono ?_); rintro e w' ⟨rfl, rfl⟩)))
    go_ret
    exact ⟨rfl, by (repeat' (first | (with_reducible exact Below.refl _ _) | (with_reducible assumption) | (with_reducible refine Below.alloc ?_ ?_ _) | (with_reducible refine below_drewN ?_ _) | (with_reducible refine below_drew ?_) | (with_reducible refine below_ext ?_ ?_ _ _) | (with_reducible refine Below.setCell ?_ ?_ _) | (simp; done) | (simp; omega) | omega))⟩
set_option maxHeartbeats 2000000 in
theorem splits_of (X : World → Prop) (hK : Known X) (n : Int) (w : World) (hx : X w) (hl : Lens w) :
    Calls Tryd.prog 4 #[.int .i64 n] w fun e w' => e = .returned (.bool true) ∧ Below w.heap.size w w' := by
  have HL := Lib.hid (fun os n => hl.ext os n)
  have HK := Lib.hid (hK w hx)
  clear hl hx hK
  by_cases h : 1 ≤ n ∧ n ≤ 3652059
  · obtain ⟨n1, n2⟩ := h
    obtain ⟨y, m, d, h⟩ := Cal.day_ex n n1 n2
    have HD := Lib.hid h
    clear h
    go_enter Tryd.func4, Tryd.ntmps4
    go_wp2_with (first
      | (go_at_call 13; ((with_reducible refine (HK.out).mono ?_); rintro e w1 ⟨rfl, hb1⟩; obtain ⟨osA, dA, rfl⟩ := ext_of_below hb1; clear hb1))
      | (go_at_call 20; ((with_reducible refine (DocSplit_ok n y m d HD.out _).mono ?_); rintro e w' ⟨rfl, rfl⟩))
      | (go_at_call 21; ((with_reducible refine (Split_ok n y m d HD.out _ (HL.out _ _)).mono ?_); rintro e w' ⟨rfl, rfl⟩))
      | (go_at_call 22; ((with_reducible refine (DocWeekday_ok n n1 n2 _).mono ?_); rintro e w' ⟨rfl, rfl⟩))
      | (go_at_call 23; ((with_reducible refine (Weekday_ok n n1 n2 _).mono ?_); rintro e w' ⟨rfl, rfl⟩)))
    go_ret
    exact ⟨rfl, by (repeat' (first | (with_reducible exact Below.refl _ _) | (with_reducible assumption) | (with_reducible refine Below.alloc ?_ ?_ _) | (with_reducible refine below_drewN ?_ _) | (with_reducible refine below_drew ?_) | (with_reducible refine below_ext ?_ ?_ _ _) | (with_reducible refine Below.setCell ?_ ?_ _) | (simp; done) | (simp; omega) | omega))⟩
  · have h' := Lib.hid (show n < 1 ∨ 3652059 < n by omega)
    clear h
    go_enter Tryd.func4, Tryd.ntmps4
    go_wp2_with (first
      | (go_at_call 13; ((with_reducible refine (HK.out).mono ?_); rintro e w1 ⟨rfl, hb1⟩; obtain ⟨osA, dA, rfl⟩ := ext_of_below hb1; clear hb1))
      | (go_at_call 20; ((with_reducible refine (DocSplit_bad n h'.out _).mono ?_); rintro e w' ⟨rfl, rfl⟩))
      | (go_at_call 21; ((with_reducible refine (Split_bad n h'.out _).mono ?_); rintro e w' ⟨rfl, rfl⟩))
      | (go_at_call 22; ((with_reducible refine (DocWeekday_bad n h'.out _).mono ?_); rintro e w' ⟨rfl, rfl⟩))
      | (go_at_call 23; ((with_reducible refine (Weekday_bad n h'.out _).mono ?_); rintro e w' ⟨rfl, rfl⟩)))
    go_ret
    exact ⟨rfl, by (repeat' (first | (with_reducible exact Below.refl _ _) | (with_reducible assumption) | (with_reducible refine Below.alloc ?_ ?_ _) | (with_reducible refine below_drewN ?_ _) | (with_reducible refine below_drew ?_) | (with_reducible refine below_ext ?_ ?_ _ _) | (with_reducible refine Below.setCell ?_ ?_ _) | (simp; done) | (simp; omega) | omega))⟩
/-- what Add and DocAdd answer alike -/
theorem adds_alike (n k : Int) (n1 : 1 ≤ n) (n2 : n ≤ 3652059) : ∃ a e : Int, (∀ w, Calls Tryd.prog 25 #[.int .i64 n, .int .i64 k] w fun x w' => x = .returned (.tuple #[.int .i64 a, .int .i64 e]) ∧ w = w')
    ∧ ∀ w, Calls Tryd.prog 24 #[.int .i64 n, .int .i64 k] w fun x w' => x = .returned (.tuple #[.int .i64 a, .int .i64 e]) ∧ w = w' := by
  by_cases h : 1 ≤ n + k ∧ n + k ≤ 3652059
  · exact ⟨n + k, 0, fun w => Add_ok n k n1 n2 h.1 h.2 w, fun w => DocAdd_ok n k n1 n2 h.1 h.2 w⟩
  · exact ⟨0, 17, fun w => Add_far n k n1 n2 (by omega) w, fun w => DocAdd_far n k n1 n2 (by omega) w⟩
/-- what Months and DocMonths answer alike -/
theorem months_alike (n y m d k : Int) (h : Cal.IsDay n y m d) : ∃ a e : Int, (∀ w, Lens w → Calls Tryd.prog 27 #[.int .i64 n, .int .i64 k] w fun x w' => x = .returned (.tuple #[.int .i64 a, .int .i64 e]) ∧ w = w')
    ∧ ∀ w, Calls Tryd.prog 26 #[.int .i64 n, .int .i64 k] w fun x w' => x = .returned (.tuple #[.int .i64 a, .int .i64 e]) ∧ w = w' := by
  by_cases g : 0 ≤ (y - 1) * 12 + (m - 1) + k ∧ (y - 1) * 12 + (m - 1) + k ≤ 119987
  · exact ⟨_, 0, fun w hl => Months_ok n y m d k _ _ _ h rfl g.1 g.2 rfl rfl w hl, fun w => DocMonths_ok n y m d k _ _ _ h rfl g.1 g.2 rfl rfl w⟩
  · exact ⟨0, 17, fun w hl => Months_far n y m d k h (by omega) w hl, fun w => DocMonths_far n y m d k h (by omega) w⟩
set_option maxHeartbeats 2000000 in
theorem steps_of (X : World → Prop) (hK : Known X) (n k : Int) (w : World) (hx : X w) (hl : Lens w) :
    Calls Tryd.prog 5 #[.int .i64 n, .int .i64 k] w fun e w' => e = .returned (.bool true) ∧ Below w.heap.size w w' := by
  have HL := Lib.hid (fun os n => hl.ext os n)
  have HK := Lib.hid (hK w hx)
  clear hl hx hK
  by_cases h : 1 ≤ n ∧ n ≤ 3652059
  · obtain ⟨n1, n2⟩ := h
    obtain ⟨y, m, d, h⟩ := Cal.day_ex n n1 n2
    obtain ⟨a, e1, hA, hB⟩ := adds_alike n k n1 n2
    obtain ⟨b, e2, hC, hD⟩ := months_alike n y m d k h
    have HA := Lib.hid hA; have HB := Lib.hid hB; have HC := Lib.hid hC; have HD := Lib.hid hD
    clear h hA hB hC hD
    go_enter Tryd.func5, Tryd.ntmps5
    go_wp2_with (first
      | (go_at_call 13; ((with_reducible refine (HK.out).mono ?_); rintro e w1 ⟨rfl, hb1⟩; obtain ⟨osA, dA, rfl⟩ := ext_of_below hb1; clear hb1))
      | (go_at_call 24; ((with_reducible refine (HB.out _).mono ?_); rintro e w' ⟨rfl, rfl⟩))
      | (go_at_call 25; ((with_reducible refine (HA.out _).mono ?_); rintro e w' ⟨rfl, rfl⟩))
      | (go_at_call 26; ((with_reducible refine (HD.out _).mono ?_); rintro e w' ⟨rfl, rfl⟩))
      | (go_at_call 27; ((with_reducible refine (HC.out _ (HL.out _ _)).mono ?_); rintro e w' ⟨rfl, rfl⟩)))
    go_ret
    exact ⟨rfl, by (repeat' (first | (with_reducible exact Below.refl _ _) | (with_reducible assumption) | (with_reducible refine Below.alloc ?_ ?_ _) | (with_reducible refine below_drewN ?_ _) | (with_reducible refine below_drew ?_) | (with_reducible refine below_ext ?_ ?_ _ _) | (with_reducible refine Below.setCell ?_ ?_ _) | (simp; done) | (simp; omega) | omega))⟩
  · have h' := Lib.hid (show n < 1 ∨ 3652059 < n by omega)
    clear h
    go_enter Tryd.func5, Tryd.ntmps5
    go_wp2_with (first
      | (go_at_call 13; ((with_reducible refine (HK.out).mono ?_); rintro e w1 ⟨rfl, hb1⟩; obtain ⟨osA, dA, rfl⟩ := ext_of_below hb1; clear hb1))
      | (go_at_call 24; ((with_reducible refine (DocAdd_bad n k h'.out _).mono ?_); rintro e w' ⟨rfl, rfl⟩))
      | (go_at_call 25; ((with_reducible refine (Add_bad n k h'.out _).mono ?_); rintro e w' ⟨rfl, rfl⟩))
      | (go_at_call 26; ((with_reducible refine (DocMonths_bad n k h'.out _).mono ?_); rintro e w' ⟨rfl, rfl⟩))
      | (go_at_call 27; ((with_reducible refine (Months_bad n k h'.out _).mono ?_); rintro e w' ⟨rfl, rfl⟩)))
    go_ret
    exact ⟨rfl, by (repeat' (first | (with_reducible exact Below.refl _ _) | (with_reducible assumption) | (with_reducible refine Below.alloc ?_ ?_ _) | (with_reducible refine below_drewN ?_ _) | (with_reducible refine below_drew ?_) | (with_reducible refine below_ext ?_ ?_ _ _) | (with_reducible refine Below.setCell ?_ ?_ _) | (simp; done) | (simp; omega) | omega))⟩
end Go.Proofs.YtcfgjhfgjckbbaaDoor
