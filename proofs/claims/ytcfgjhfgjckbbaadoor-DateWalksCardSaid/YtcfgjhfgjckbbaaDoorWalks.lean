/-
  The law DateWalks: next days, weeks, months there and back.
-/
import Derived.Test.YtcfgjhfgjckbbaaDoorPrint
import Derived.Deep.DeepCutAuto
namespace Go.Proofs.YtcfgjhfgjckbbaaDoor
open Go.RowKit
attribute [local go_sem] setCell_drewN cell?_ext frozen?_ext shape?_ext setCell_ext lt_1' ne_1' en_1' le_1' lt_2' ne_2' en_2' le_2' lt_3' ne_3' en_3' le_3' lt_4' ne_4' en_4' le_4' lt_5' ne_5' en_5' le_5' lt_6' ne_6' en_6' le_6' lt_7' ne_7' en_7' le_7' lt_8' ne_8' en_8' le_8' lt_9' ne_9' en_9' le_9' lt_10' ne_10' en_10' le_10' lt_11' ne_11' en_11' le_11' lt_12' ne_12' en_12' le_12'

theorem week_same (n : Int) : (n + 7 - 1) % 7 + 1 = (n - 1) % 7 + 1 := by omega
/-- months there and back: the month is the one we began in, the day no later -/
theorem back_home {y m d c c' z j z' j' k : Int} (y1 : 1 ≤ y) (y2 : y ≤ 9999) (m1 : 1 ≤ m) (m2 : m ≤ 12) (hc : c = (y - 1) * 12 + (m - 1) + k) (hz : z = c / 12 + 1) (hj : j = c % 12 + 1)
    (hc' : c' = (z - 1) * 12 + (j - 1) + -k) (hz' : z' = c' / 12 + 1) (hj' : j' = c' % 12 + 1) : z' = y ∧ j' = m ∧ 0 ≤ c' ∧ c' ≤ 119987 ∧ min (min d (Cal.dim z j)) (Cal.dim z' j') ≤ d := by omega
set_option maxRecDepth 100000 in
set_option maxHeartbeats 4000000 in
theorem walks_out (n k : Int) (h : n < 1 ∨ 3652059 < n) (w : World) (hl : Laid w) :
    Calls Tryd.prog 7 #[.int .i64 n, .int .i64 k] w fun e w' => e = .returned (.bool true) ∧ Below w.heap.size w w' := by
  have HK := Lib.hid (known_any w hl)
  have HN := Lib.hid h
  clear hl h
  by_cases h1 : n < 1
  · go_enter Tryd.func7, Tryd.ntmps7
    go_wp2_with (first
      | (go_at_call 13; ((with_reducible refine (HK.out).mono ?_); rintro e w1 ⟨rfl, hb1⟩; obtain ⟨osA, dA, rfl⟩ := ext_of_below hb1; clear hb1))
      | (go_at_call 21; ((with_reducible refine (Split_bad n HN.out _).mono ?_); rintro e w' ⟨rfl, rfl⟩))
      | (go_at_call 23; ((with_reducible refine (Weekday_bad n HN.out _).mono ?_); rintro e w' ⟨rfl, rfl⟩)))
    go_ret
    exact ⟨rfl, by (repeat' (first | (with_reducible exact Below.refl _ _) | (with_reducible assumption) | (with_reducible refine Below.alloc ?_ ?_ _) | (with_reducible refine below_drewN ?_ _) | (with_reducible refine below_drew ?_) | (with_reducible refine below_ext ?_ ?_ _ _) | (with_reducible refine Below.setCell ?_ ?_ _) | (simp; done) | (simp; omega) | omega))⟩
  · have h2 : 3652059 < n := by have := HN.out; omega
    have h3 : 1 ≤ n := by omega
    clear h1
    go_enter Tryd.func7, Tryd.ntmps7
    go_wp2_with (first
      | (go_at_call 13; ((with_reducible refine (HK.out).mono ?_); rintro e w1 ⟨rfl, hb1⟩; obtain ⟨osA, dA, rfl⟩ := ext_of_below hb1; clear hb1))
      | (go_at_call 21; ((with_reducible refine (Split_bad n HN.out _).mono ?_); rintro e w' ⟨rfl, rfl⟩))
      | (go_at_call 23; ((with_reducible refine (Weekday_bad n HN.out _).mono ?_); rintro e w' ⟨rfl, rfl⟩)))
    go_ret
    exact ⟨rfl, by (repeat' (first | (with_reducible exact Below.refl _ _) | (with_reducible assumption) | (with_reducible refine Below.alloc ?_ ?_ _) | (with_reducible refine below_drewN ?_ _) | (with_reducible refine below_drew ?_) | (with_reducible refine below_ext ?_ ?_ _ _) | (with_reducible refine Below.setCell ?_ ?_ _) | (simp; done) | (simp; omega) | omega))⟩
/-- which day is next -/
theorem next_day {n y m d : Int} (h : Cal.IsDay n y m d) (hn : n < 3652059) : ∃ z k c, Cal.IsDay (n + 1) z k c ∧ ((d < Cal.dim y m ∧ y = z ∧ m = k ∧ c = d + 1) ∨ (d = Cal.dim y m ∧ m < 12 ∧ y = z ∧ k = m + 1 ∧ c = 1) ∨ (d = Cal.dim y m ∧ m = 12 ∧ z = y + 1 ∧ k = 1 ∧ c = 1)) := by
  obtain ⟨h1, h2, h3⟩ := h.next hn
  by_cases hd : d < Cal.dim y m
  · exact ⟨_, _, _, h1 hd, .inl ⟨hd, rfl, rfl, rfl⟩⟩
  · have hd' : d = Cal.dim y m := by have := h.d2; omega
    by_cases hm : m < 12
    · exact ⟨_, _, _, h2 hd' hm, .inr (.inl ⟨hd', hm, rfl, rfl, rfl⟩)⟩
    · have hm' : m = 12 := by have := h.m2; omega
      exact ⟨_, _, _, h3 hd' hm', .inr (.inr ⟨hd', hm', rfl, rfl, rfl⟩)⟩
set_option maxRecDepth 100000 in
set_option maxHeartbeats 8000000 in
theorem walks_in (n y m d k : Int) (h : Cal.IsDay n y m d) (w : World) (hl : Laid w) :
    Calls Tryd.prog 7 #[.int .i64 n, .int .i64 k] w fun e w' => e = .returned (.bool true) ∧ Below w.heap.size w w' := by
  have HL := Lib.hid (fun os n => hl.lens.ext os n)
  have HK := Lib.hid (known_any w hl)
  have HD := Lib.hid h
  obtain ⟨n1, n2⟩ := h.bd
  obtain ⟨y1, y2, m1, m2, d1, d2, hnum⟩ := h
  clear hl hnum
  have hdb := Cal.dim_bd y m
  obtain ⟨s, e, hE, hW⟩ : ∃ s e : Int, (∀ w, Calls Tryd.prog 25 #[.int .i64 n, .int .i64 7] w fun x w' => x = .returned (.tuple #[.int .i64 s, .int .i64 e]) ∧ w = w') ∧ ((n + 7 ≤ 3652059 ∧ s = n + 7 ∧ e = 0) ∨ e = 17) := by
    by_cases h7 : n + 7 ≤ 3652059
    · exact ⟨n + 7, 0, fun w => Add_ok n 7 n1 n2 (by omega) h7 w, .inl ⟨h7, rfl, rfl⟩⟩
    · exact ⟨0, 17, fun w => Add_far n 7 n1 n2 (by omega) w, .inr rfl⟩
  have HE := Lib.hid hE; have HW := Lib.hid hW
  clear hE hW
  go_enter Tryd.func7, Tryd.ntmps7
  go_upto_if 105 with (first
      | (go_at_call 13; ((with_reducible refine (HK.out).mono ?_); rintro e w1 ⟨rfl, hb1⟩; obtain ⟨osA, dA, rfl⟩ := ext_of_below hb1; clear hb1))
      | (go_at_call 21; ((with_reducible refine (Split_ok n y m d HD.out _ (HL.out _ _)).mono ?_); rintro e w' ⟨rfl, rfl⟩))
      | (go_at_call 17; ((with_reducible refine (Day_ok n y m d HD.out _ (HL.out _ _)).mono ?_); rintro e w' ⟨rfl, rfl⟩))
      | (go_at_call 15; ((with_reducible refine (Length_ok y m y1 y2 m1 m2 _ (HL.out _ _)).mono ?_); rintro e w' ⟨rfl, rfl⟩)))
  go_cut [] (fun wx => wx = ext w osA dA)
  case first =>
    by_cases hn : n < 3652059
    · obtain ⟨z, k', c, hI, hz⟩ := next_day HD.out hn
      have HI := Lib.hid hI
      clear hI
      rcases hz with ⟨hd, rfl, rfl, rfl⟩ | ⟨hd, hm, rfl, rfl, rfl⟩ | ⟨hd, hm, rfl, rfl, rfl⟩
      · go_wp2_with (first
          | (go_at_call 21; ((with_reducible refine (Split_ok (n + 1) _ _ _ HI.out _ (HL.out _ _)).mono ?_); rintro e w' ⟨rfl, rfl⟩)))
        go_meet
        rfl
      · have hm12 : (m == 12) = false := by simp; omega
        have hd' : ¬ d < Cal.dim y m := by omega
        have hd'' : (d == Cal.dim y m) = true := by simp [hd]
        clear hd
        go_wp2_with (first
          | (go_at_call 21; ((with_reducible refine (Split_ok (n + 1) _ _ _ HI.out _ (HL.out _ _)).mono ?_); rintro e w' ⟨rfl, rfl⟩)))
        go_meet
        rfl
      · have hd' : ¬ d < Cal.dim y m := by omega
        have hd'' : (d == Cal.dim y m) = true := by simp [hd]
        subst hm
        clear hd
        go_wp2_with (first
          | (go_at_call 21; ((with_reducible refine (Split_ok (n + 1) _ _ _ HI.out _ (HL.out _ _)).mono ?_); rintro e w' ⟨rfl, rfl⟩)))
        go_meet
        rfl
    · go_wp2
      go_meet
      rfl
  case rest =>
    obtain rfl := hcut
    go_upto_if 186 with (first
      | (go_at_call 23; ((with_reducible refine (Weekday_ok n n1 n2 _).mono ?_); rintro e w' ⟨rfl, rfl⟩))
      | (go_at_call 25; ((with_reducible refine (HE.out _).mono ?_); rintro e w' ⟨rfl, rfl⟩)))
    go_cut [] (fun wx => wx = ext w osA dA)
    case first =>
      rcases HW.out with ⟨hw, rfl, rfl⟩ | rfl
      · have h71 : 1 ≤ n + 7 := by omega
        have hwk := Lib.hid (Weekday_ok (n + 7) h71 hw)
        rw [week_same n] at hwk
        go_wp2_with (first
          | (go_at_call 23; ((with_reducible refine (hwk.out _).mono ?_); rintro e w' ⟨rfl, rfl⟩)))
        go_meet
        rfl
      · go_wp2
        go_meet
        rfl
    case rest =>
      obtain rfl := hcut
      by_cases hk : 0 ≤ (y - 1) * 12 + (m - 1) + k ∧ (y - 1) * 12 + (m - 1) + k ≤ 119987
      · obtain ⟨hk1, hk2⟩ := hk
        have kb1 : -119987 ≤ k := by omega
        have kb2 : k ≤ 119987 := by omega
        obtain ⟨c, hc⟩ : ∃ c, c = (y - 1) * 12 + (m - 1) + k := ⟨_, rfl⟩
        obtain ⟨z, hz⟩ : ∃ z, z = c / 12 + 1 := ⟨_, rfl⟩
        obtain ⟨j, hj⟩ : ∃ j, j = c % 12 + 1 := ⟨_, rfl⟩
        obtain ⟨d2, hd2⟩ : ∃ d2, d2 = min d (Cal.dim z j) := ⟨_, rfl⟩
        obtain ⟨f, hf⟩ : ∃ f, f = Cal.dby z + Cal.cum z j + d2 := ⟨_, rfl⟩
        have hI := Cal.later c z j d (by omega) (by omega) hz hj d1
        rw [← hd2, ← hf] at hI
        have hM := Months_ok n y m d k c z j HD.out hc (by omega) (by omega) hz hj
        rw [← hd2, ← hf] at hM
        obtain ⟨c', hc'⟩ : ∃ c', c' = (z - 1) * 12 + (j - 1) + -k := ⟨_, rfl⟩
        obtain ⟨q1, q2, q3, q4, q5⟩ := back_home (d := d) y1 y2 m1 m2 hc hz hj hc' rfl rfl
        obtain ⟨d3, hd3⟩ : ∃ d3, d3 = min d2 (Cal.dim y m) := ⟨_, rfl⟩
        obtain ⟨g, hg⟩ : ∃ g, g = Cal.dby y + Cal.cum y m + d3 := ⟨_, rfl⟩
        have hM2 := Months_ok f z j d2 (-k) c' y m hI hc' (by omega) (by omega) q1.symm q2.symm
        rw [← hd3, ← hg] at hM2
        have hI2 := Cal.later c' y m d2 (by omega) (by omega) q1.symm q2.symm hI.d1
        rw [← hd3, ← hg] at hI2
        have hd3d : d3 ≤ d := by omega
        have HM := Lib.hid hM; have HM2 := Lib.hid hM2; have HI2 := Lib.hid hI2
        clear hM hM2 hI hI2 hc hz hj hd2 hf hc' q1 q2 q3 q4 q5 hd3 hg hk1 hk2
        go_wp2_with (first
          | (go_at_call 27; ((with_reducible refine (HM.out _ (HL.out _ _)).mono ?_); rintro e w' ⟨rfl, rfl⟩))
          | (go_at_call 27; ((with_reducible refine (HM2.out _ (HL.out _ _)).mono ?_); rintro e w' ⟨rfl, rfl⟩))
          | (go_at_call 21; ((with_reducible refine (Split_ok g y m d3 HI2.out _ (HL.out _ _)).mono ?_); rintro e w' ⟨rfl, rfl⟩)))
        go_ret
        exact ⟨rfl, by (repeat' (first | (with_reducible exact Below.refl _ _) | (with_reducible assumption) | (with_reducible refine Below.alloc ?_ ?_ _) | (with_reducible refine below_drewN ?_ _) | (with_reducible refine below_drew ?_) | (with_reducible refine below_ext ?_ ?_ _ _) | (with_reducible refine Below.setCell ?_ ?_ _) | (simp; done) | (simp; omega) | omega))⟩
      · have hk0 : (k != 0) = true := by simp; omega
        have HF := Lib.hid (Months_far n y m d k HD.out (by omega))
        clear hk
        go_wp2_with (first
          | (go_at_call 27; ((with_reducible refine (HF.out _ (HL.out _ _)).mono ?_); rintro e w' ⟨rfl, rfl⟩)))
        go_ret
        exact ⟨rfl, by (repeat' (first | (with_reducible exact Below.refl _ _) | (with_reducible assumption) | (with_reducible refine Below.alloc ?_ ?_ _) | (with_reducible refine below_drewN ?_ _) | (with_reducible refine below_drew ?_) | (with_reducible refine below_ext ?_ ?_ _ _) | (with_reducible refine Below.setCell ?_ ?_ _) | (simp; done) | (simp; omega) | omega))⟩
theorem walks_any (n k : Int) (w : World) (hl : Laid w) :
    Calls Tryd.prog 7 #[.int .i64 n, .int .i64 k] w fun e w' => e = .returned (.bool true) ∧ Below w.heap.size w w' := by
  by_cases h : 1 ≤ n ∧ n ≤ 3652059
  · obtain ⟨y, m, d, hI⟩ := Cal.day_ex n h.1 h.2
    exact walks_in n y m d k hI w hl
  · exact walks_out n k (by omega) w hl
end Go.Proofs.YtcfgjhfgjckbbaaDoor
