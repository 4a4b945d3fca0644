/-
  What the functions of the language take and answer: the document's table.
-/
import Derived.Test.YtalahkincccffaaGreatDoorBv
namespace Go.Proofs.YtalahkincccffaaGreatDoor
open Go.RowKit Word Txt
attribute [local go_sem] setCell_drewN cell?_ext frozen?_ext shape?_ext setCell_ext lt_1' ne_1' en_1' le_1' lt_2' ne_2' en_2' le_2' lt_3' ne_3' en_3' le_3' lt_4' ne_4' en_4' le_4' lt_5' ne_5' en_5' le_5' lt_6' ne_6' en_6' le_6' lt_7' ne_7' en_7' le_7' lt_8' ne_8' en_8' le_8' lt_9' ne_9' en_9' le_9' lt_10' ne_10' en_10' le_10' lt_11' ne_11' en_11' le_11' lt_12' ne_12' en_12' le_12'

set_option maxRecDepth 100000 in
set_option maxHeartbeats 4000000 in
theorem rfn_upper (w : World) : Calls Tryz.prog 87 #[.string (mkb [117, 112, 112, 101, 114])] w fun e w' => FnQ (some ([(3, 0)], (3, 0))) w e w' := by
  have HO := Lib.hid cof_any
  have HL := Lib.hid list_any
  go_enter Tryz.func87, Tryz.ntmps87
  go_wp2_with (first
    | (go_at_call 66; ((with_reducible refine (HO.out _ _).mono ?_); rintro e w1 ⟨rfl, hb1⟩; obtain ⟨os1, d1, rfl⟩ := ext_of_below hb1; clear hb1))
    | (go_at_call 88; ((with_reducible refine (HL.out _ _).mono ?_); rintro e w1 ⟨rfl, hb1⟩; obtain ⟨os1, d1, rfl⟩ := ext_of_below hb1; clear hb1)))
  all_goals
    try (go_region_with (first
    | (go_at_call 66; ((with_reducible refine (HO.out _ _).mono ?_); rintro e w1 ⟨rfl, hb1⟩; obtain ⟨os1, d1, rfl⟩ := ext_of_below hb1; clear hb1))
    | (go_at_call 88; ((with_reducible refine (HL.out _ _).mono ?_); rintro e w1 ⟨rfl, hb1⟩; obtain ⟨os1, d1, rfl⟩ := ext_of_below hb1; clear hb1))))
  all_goals
    go_wp2
    go_returns
    exact (show ∃ pv, _ from ⟨_, rfl, rl_1 (3, 0) (by first | (simp; done) | (simp; omega)) (by simp [go_sem]) (by simp [go_sem]), fre_lit (by first | (simp; done) | (simp; omega) | omega), by (repeat' (first | (with_reducible first | exact Below.refl _ _ | assumption | refine Below.alloc ?_ ?_ _ | refine below_drewN ?_ _ | refine below_drew ?_ | refine below_ext ?_ ?_ _ _ | refine Below.setCell ?_ ?_ _) | (simp; done) | (simp; omega) | omega))⟩)
set_option maxRecDepth 100000 in
set_option maxHeartbeats 4000000 in
theorem rfn_lower (w : World) : Calls Tryz.prog 87 #[.string (mkb [108, 111, 119, 101, 114])] w fun e w' => FnQ (some ([(3, 0)], (3, 0))) w e w' := by
  have HO := Lib.hid cof_any
  have HL := Lib.hid list_any
  go_enter Tryz.func87, Tryz.ntmps87
  go_wp2_with (first
    | (go_at_call 66; ((with_reducible refine (HO.out _ _).mono ?_); rintro e w1 ⟨rfl, hb1⟩; obtain ⟨os1, d1, rfl⟩ := ext_of_below hb1; clear hb1))
    | (go_at_call 88; ((with_reducible refine (HL.out _ _).mono ?_); rintro e w1 ⟨rfl, hb1⟩; obtain ⟨os1, d1, rfl⟩ := ext_of_below hb1; clear hb1)))
  all_goals
    try (go_region_with (first
    | (go_at_call 66; ((with_reducible refine (HO.out _ _).mono ?_); rintro e w1 ⟨rfl, hb1⟩; obtain ⟨os1, d1, rfl⟩ := ext_of_below hb1; clear hb1))
    | (go_at_call 88; ((with_reducible refine (HL.out _ _).mono ?_); rintro e w1 ⟨rfl, hb1⟩; obtain ⟨os1, d1, rfl⟩ := ext_of_below hb1; clear hb1))))
  all_goals
    go_wp2
    go_returns
    exact (show ∃ pv, _ from ⟨_, rfl, rl_1 (3, 0) (by first | (simp; done) | (simp; omega)) (by simp [go_sem]) (by simp [go_sem]), fre_lit (by first | (simp; done) | (simp; omega) | omega), by (repeat' (first | (with_reducible first | exact Below.refl _ _ | assumption | refine Below.alloc ?_ ?_ _ | refine below_drewN ?_ _ | refine below_drew ?_ | refine below_ext ?_ ?_ _ _ | refine Below.setCell ?_ ?_ _) | (simp; done) | (simp; omega) | omega))⟩)
set_option maxRecDepth 100000 in
set_option maxHeartbeats 4000000 in
theorem rfn_date (w : World) : Calls Tryz.prog 87 #[.string (mkb [100, 97, 116, 101])] w fun e w' => FnQ (some ([(3, 0)], (4, 0))) w e w' := by
  have HO := Lib.hid cof_any
  have HL := Lib.hid list_any
  go_enter Tryz.func87, Tryz.ntmps87
  go_wp2_with (first
    | (go_at_call 66; ((with_reducible refine (HO.out _ _).mono ?_); rintro e w1 ⟨rfl, hb1⟩; obtain ⟨os1, d1, rfl⟩ := ext_of_below hb1; clear hb1))
    | (go_at_call 88; ((with_reducible refine (HL.out _ _).mono ?_); rintro e w1 ⟨rfl, hb1⟩; obtain ⟨os1, d1, rfl⟩ := ext_of_below hb1; clear hb1)))
  all_goals
    try (go_region_with (first
    | (go_at_call 66; ((with_reducible refine (HO.out _ _).mono ?_); rintro e w1 ⟨rfl, hb1⟩; obtain ⟨os1, d1, rfl⟩ := ext_of_below hb1; clear hb1))
    | (go_at_call 88; ((with_reducible refine (HL.out _ _).mono ?_); rintro e w1 ⟨rfl, hb1⟩; obtain ⟨os1, d1, rfl⟩ := ext_of_below hb1; clear hb1))))
  all_goals
    go_wp2
    go_returns
    exact (show ∃ pv, _ from ⟨_, rfl, rl_1 (3, 0) (by first | (simp; done) | (simp; omega)) (by simp [go_sem]) (by simp [go_sem]), fre_lit (by first | (simp; done) | (simp; omega) | omega), by (repeat' (first | (with_reducible first | exact Below.refl _ _ | assumption | refine Below.alloc ?_ ?_ _ | refine below_drewN ?_ _ | refine below_drew ?_ | refine below_ext ?_ ?_ _ _ | refine Below.setCell ?_ ?_ _) | (simp; done) | (simp; omega) | omega))⟩)
set_option maxRecDepth 100000 in
set_option maxHeartbeats 4000000 in
theorem rfn_year (w : World) : Calls Tryz.prog 87 #[.string (mkb [121, 101, 97, 114])] w fun e w' => FnQ (some ([(4, 0)], (2, 0))) w e w' := by
  have HO := Lib.hid cof_any
  have HL := Lib.hid list_any
  go_enter Tryz.func87, Tryz.ntmps87
  go_wp2_with (first
    | (go_at_call 66; ((with_reducible refine (HO.out _ _).mono ?_); rintro e w1 ⟨rfl, hb1⟩; obtain ⟨os1, d1, rfl⟩ := ext_of_below hb1; clear hb1))
    | (go_at_call 88; ((with_reducible refine (HL.out _ _).mono ?_); rintro e w1 ⟨rfl, hb1⟩; obtain ⟨os1, d1, rfl⟩ := ext_of_below hb1; clear hb1)))
  all_goals
    try (go_region_with (first
    | (go_at_call 66; ((with_reducible refine (HO.out _ _).mono ?_); rintro e w1 ⟨rfl, hb1⟩; obtain ⟨os1, d1, rfl⟩ := ext_of_below hb1; clear hb1))
    | (go_at_call 88; ((with_reducible refine (HL.out _ _).mono ?_); rintro e w1 ⟨rfl, hb1⟩; obtain ⟨os1, d1, rfl⟩ := ext_of_below hb1; clear hb1))))
  all_goals
    go_wp2
    go_returns
    exact (show ∃ pv, _ from ⟨_, rfl, rl_1 (4, 0) (by first | (simp; done) | (simp; omega)) (by simp [go_sem]) (by simp [go_sem]), fre_lit (by first | (simp; done) | (simp; omega) | omega), by (repeat' (first | (with_reducible first | exact Below.refl _ _ | assumption | refine Below.alloc ?_ ?_ _ | refine below_drewN ?_ _ | refine below_drew ?_ | refine below_ext ?_ ?_ _ _ | refine Below.setCell ?_ ?_ _) | (simp; done) | (simp; omega) | omega))⟩)
set_option maxRecDepth 100000 in
set_option maxHeartbeats 4000000 in
theorem rfn_month (w : World) : Calls Tryz.prog 87 #[.string (mkb [109, 111, 110, 116, 104])] w fun e w' => FnQ (some ([(4, 0)], (2, 0))) w e w' := by
  have HO := Lib.hid cof_any
  have HL := Lib.hid list_any
  go_enter Tryz.func87, Tryz.ntmps87
  go_wp2_with (first
    | (go_at_call 66; ((with_reducible refine (HO.out _ _).mono ?_); rintro e w1 ⟨rfl, hb1⟩; obtain ⟨os1, d1, rfl⟩ := ext_of_below hb1; clear hb1))
    | (go_at_call 88; ((with_reducible refine (HL.out _ _).mono ?_); rintro e w1 ⟨rfl, hb1⟩; obtain ⟨os1, d1, rfl⟩ := ext_of_below hb1; clear hb1)))
  all_goals
    try (go_region_with (first
    | (go_at_call 66; ((with_reducible refine (HO.out _ _).mono ?_); rintro e w1 ⟨rfl, hb1⟩; obtain ⟨os1, d1, rfl⟩ := ext_of_below hb1; clear hb1))
    | (go_at_call 88; ((with_reducible refine (HL.out _ _).mono ?_); rintro e w1 ⟨rfl, hb1⟩; obtain ⟨os1, d1, rfl⟩ := ext_of_below hb1; clear hb1))))
  all_goals
    go_wp2
    go_returns
    exact (show ∃ pv, _ from ⟨_, rfl, rl_1 (4, 0) (by first | (simp; done) | (simp; omega)) (by simp [go_sem]) (by simp [go_sem]), fre_lit (by first | (simp; done) | (simp; omega) | omega), by (repeat' (first | (with_reducible first | exact Below.refl _ _ | assumption | refine Below.alloc ?_ ?_ _ | refine below_drewN ?_ _ | refine below_drew ?_ | refine below_ext ?_ ?_ _ _ | refine Below.setCell ?_ ?_ _) | (simp; done) | (simp; omega) | omega))⟩)
set_option maxRecDepth 100000 in
set_option maxHeartbeats 4000000 in
theorem rfn_day (w : World) : Calls Tryz.prog 87 #[.string (mkb [100, 97, 121])] w fun e w' => FnQ (some ([(4, 0)], (2, 0))) w e w' := by
  have HO := Lib.hid cof_any
  have HL := Lib.hid list_any
  go_enter Tryz.func87, Tryz.ntmps87
  go_wp2_with (first
    | (go_at_call 66; ((with_reducible refine (HO.out _ _).mono ?_); rintro e w1 ⟨rfl, hb1⟩; obtain ⟨os1, d1, rfl⟩ := ext_of_below hb1; clear hb1))
    | (go_at_call 88; ((with_reducible refine (HL.out _ _).mono ?_); rintro e w1 ⟨rfl, hb1⟩; obtain ⟨os1, d1, rfl⟩ := ext_of_below hb1; clear hb1)))
  all_goals
    try (go_region_with (first
    | (go_at_call 66; ((with_reducible refine (HO.out _ _).mono ?_); rintro e w1 ⟨rfl, hb1⟩; obtain ⟨os1, d1, rfl⟩ := ext_of_below hb1; clear hb1))
    | (go_at_call 88; ((with_reducible refine (HL.out _ _).mono ?_); rintro e w1 ⟨rfl, hb1⟩; obtain ⟨os1, d1, rfl⟩ := ext_of_below hb1; clear hb1))))
  all_goals
    go_wp2
    go_returns
    exact (show ∃ pv, _ from ⟨_, rfl, rl_1 (4, 0) (by first | (simp; done) | (simp; omega)) (by simp [go_sem]) (by simp [go_sem]), fre_lit (by first | (simp; done) | (simp; omega) | omega), by (repeat' (first | (with_reducible first | exact Below.refl _ _ | assumption | refine Below.alloc ?_ ?_ _ | refine below_drewN ?_ _ | refine below_drew ?_ | refine below_ext ?_ ?_ _ _ | refine Below.setCell ?_ ?_ _) | (simp; done) | (simp; omega) | omega))⟩)
set_option maxRecDepth 100000 in
set_option maxHeartbeats 4000000 in
theorem rfn_weekday (w : World) : Calls Tryz.prog 87 #[.string (mkb [119, 101, 101, 107, 100, 97, 121])] w fun e w' => FnQ (some ([(4, 0)], (2, 0))) w e w' := by
  have HO := Lib.hid cof_any
  have HL := Lib.hid list_any
  go_enter Tryz.func87, Tryz.ntmps87
  go_wp2_with (first
    | (go_at_call 66; ((with_reducible refine (HO.out _ _).mono ?_); rintro e w1 ⟨rfl, hb1⟩; obtain ⟨os1, d1, rfl⟩ := ext_of_below hb1; clear hb1))
    | (go_at_call 88; ((with_reducible refine (HL.out _ _).mono ?_); rintro e w1 ⟨rfl, hb1⟩; obtain ⟨os1, d1, rfl⟩ := ext_of_below hb1; clear hb1)))
  all_goals
    try (go_region_with (first
    | (go_at_call 66; ((with_reducible refine (HO.out _ _).mono ?_); rintro e w1 ⟨rfl, hb1⟩; obtain ⟨os1, d1, rfl⟩ := ext_of_below hb1; clear hb1))
    | (go_at_call 88; ((with_reducible refine (HL.out _ _).mono ?_); rintro e w1 ⟨rfl, hb1⟩; obtain ⟨os1, d1, rfl⟩ := ext_of_below hb1; clear hb1))))
  all_goals
    go_wp2
    go_returns
    exact (show ∃ pv, _ from ⟨_, rfl, rl_1 (4, 0) (by first | (simp; done) | (simp; omega)) (by simp [go_sem]) (by simp [go_sem]), fre_lit (by first | (simp; done) | (simp; omega) | omega), by (repeat' (first | (with_reducible first | exact Below.refl _ _ | assumption | refine Below.alloc ?_ ?_ _ | refine below_drewN ?_ _ | refine below_drew ?_ | refine below_ext ?_ ?_ _ _ | refine Below.setCell ?_ ?_ _) | (simp; done) | (simp; omega) | omega))⟩)
set_option maxRecDepth 100000 in
set_option maxHeartbeats 4000000 in
theorem rfn_days (w : World) : Calls Tryz.prog 87 #[.string (mkb [100, 97, 121, 115])] w fun e w' => FnQ (some ([(4, 0), (2, 0)], (4, 0))) w e w' := by
  have HO := Lib.hid cof_any
  have HL := Lib.hid list_any
  go_enter Tryz.func87, Tryz.ntmps87
  go_wp2_with (first
    | (go_at_call 66; ((with_reducible refine (HO.out _ _).mono ?_); rintro e w1 ⟨rfl, hb1⟩; obtain ⟨os1, d1, rfl⟩ := ext_of_below hb1; clear hb1))
    | (go_at_call 88; ((with_reducible refine (HL.out _ _).mono ?_); rintro e w1 ⟨rfl, hb1⟩; obtain ⟨os1, d1, rfl⟩ := ext_of_below hb1; clear hb1)))
  all_goals
    try (go_region_with (first
    | (go_at_call 66; ((with_reducible refine (HO.out _ _).mono ?_); rintro e w1 ⟨rfl, hb1⟩; obtain ⟨os1, d1, rfl⟩ := ext_of_below hb1; clear hb1))
    | (go_at_call 88; ((with_reducible refine (HL.out _ _).mono ?_); rintro e w1 ⟨rfl, hb1⟩; obtain ⟨os1, d1, rfl⟩ := ext_of_below hb1; clear hb1))))
  all_goals
    go_wp2
    go_returns
    exact (show ∃ pv, _ from ⟨_, rfl, rl_2 (4, 0) (2, 0) (by first | (simp; done) | (simp; omega)) (by simp [go_sem]) (by simp [go_sem]) (by simp [go_sem]) (by simp [go_sem]), fre_lit (by first | (simp; done) | (simp; omega) | omega), by (repeat' (first | (with_reducible first | exact Below.refl _ _ | assumption | refine Below.alloc ?_ ?_ _ | refine below_drewN ?_ _ | refine below_drew ?_ | refine below_ext ?_ ?_ _ _ | refine Below.setCell ?_ ?_ _) | (simp; done) | (simp; omega) | omega))⟩)
set_option maxRecDepth 100000 in
set_option maxHeartbeats 4000000 in
theorem rfn_months (w : World) : Calls Tryz.prog 87 #[.string (mkb [109, 111, 110, 116, 104, 115])] w fun e w' => FnQ (some ([(4, 0), (2, 0)], (4, 0))) w e w' := by
  have HO := Lib.hid cof_any
  have HL := Lib.hid list_any
  go_enter Tryz.func87, Tryz.ntmps87
  go_wp2_with (first
    | (go_at_call 66; ((with_reducible refine (HO.out _ _).mono ?_); rintro e w1 ⟨rfl, hb1⟩; obtain ⟨os1, d1, rfl⟩ := ext_of_below hb1; clear hb1))
    | (go_at_call 88; ((with_reducible refine (HL.out _ _).mono ?_); rintro e w1 ⟨rfl, hb1⟩; obtain ⟨os1, d1, rfl⟩ := ext_of_below hb1; clear hb1)))
  all_goals
    try (go_region_with (first
    | (go_at_call 66; ((with_reducible refine (HO.out _ _).mono ?_); rintro e w1 ⟨rfl, hb1⟩; obtain ⟨os1, d1, rfl⟩ := ext_of_below hb1; clear hb1))
    | (go_at_call 88; ((with_reducible refine (HL.out _ _).mono ?_); rintro e w1 ⟨rfl, hb1⟩; obtain ⟨os1, d1, rfl⟩ := ext_of_below hb1; clear hb1))))
  all_goals
    go_wp2
    go_returns
    exact (show ∃ pv, _ from ⟨_, rfl, rl_2 (4, 0) (2, 0) (by first | (simp; done) | (simp; omega)) (by simp [go_sem]) (by simp [go_sem]) (by simp [go_sem]) (by simp [go_sem]), fre_lit (by first | (simp; done) | (simp; omega) | omega), by (repeat' (first | (with_reducible first | exact Below.refl _ _ | assumption | refine Below.alloc ?_ ?_ _ | refine below_drewN ?_ _ | refine below_drew ?_ | refine below_ext ?_ ?_ _ _ | refine Below.setCell ?_ ?_ _) | (simp; done) | (simp; omega) | omega))⟩)
set_option maxRecDepth 100000 in
set_option maxHeartbeats 4000000 in
theorem rfn_negate (w : World) : Calls Tryz.prog 87 #[.string (mkb [110, 101, 103, 97, 116, 101])] w fun e w' => FnQ (some ([(1, 0)], (1, 0))) w e w' := by
  have HO := Lib.hid cof_any
  have HL := Lib.hid list_any
  go_enter Tryz.func87, Tryz.ntmps87
  go_wp2_with (first
    | (go_at_call 66; ((with_reducible refine (HO.out _ _).mono ?_); rintro e w1 ⟨rfl, hb1⟩; obtain ⟨os1, d1, rfl⟩ := ext_of_below hb1; clear hb1))
    | (go_at_call 88; ((with_reducible refine (HL.out _ _).mono ?_); rintro e w1 ⟨rfl, hb1⟩; obtain ⟨os1, d1, rfl⟩ := ext_of_below hb1; clear hb1)))
  all_goals
    try (go_region_with (first
    | (go_at_call 66; ((with_reducible refine (HO.out _ _).mono ?_); rintro e w1 ⟨rfl, hb1⟩; obtain ⟨os1, d1, rfl⟩ := ext_of_below hb1; clear hb1))
    | (go_at_call 88; ((with_reducible refine (HL.out _ _).mono ?_); rintro e w1 ⟨rfl, hb1⟩; obtain ⟨os1, d1, rfl⟩ := ext_of_below hb1; clear hb1))))
  all_goals
    go_wp2
    go_returns
    exact (show ∃ pv, _ from ⟨_, rfl, rl_1 (1, 0) (by first | (simp; done) | (simp; omega)) (by simp [go_sem]) (by simp [go_sem]), fre_lit (by first | (simp; done) | (simp; omega) | omega), by (repeat' (first | (with_reducible first | exact Below.refl _ _ | assumption | refine Below.alloc ?_ ?_ _ | refine below_drewN ?_ _ | refine below_drew ?_ | refine below_ext ?_ ?_ _ _ | refine Below.setCell ?_ ?_ _) | (simp; done) | (simp; omega) | omega))⟩)
set_option maxRecDepth 100000 in
set_option maxHeartbeats 4000000 in
theorem rfn_append (w : World) : Calls Tryz.prog 87 #[.string (mkb [97, 112, 112, 101, 110, 100])] w fun e w' => FnQ (some ([(5, 0), (0, 0)], (5, 0))) w e w' := by
  have HO := Lib.hid cof_any
  have HL := Lib.hid list_any
  go_enter Tryz.func87, Tryz.ntmps87
  go_wp2_with (first
    | (go_at_call 66; ((with_reducible refine (HO.out _ _).mono ?_); rintro e w1 ⟨rfl, hb1⟩; obtain ⟨os1, d1, rfl⟩ := ext_of_below hb1; clear hb1))
    | (go_at_call 88; ((with_reducible refine (HL.out _ _).mono ?_); rintro e w1 ⟨rfl, hb1⟩; obtain ⟨os1, d1, rfl⟩ := ext_of_below hb1; clear hb1)))
  all_goals
    try (go_region_with (first
    | (go_at_call 66; ((with_reducible refine (HO.out _ _).mono ?_); rintro e w1 ⟨rfl, hb1⟩; obtain ⟨os1, d1, rfl⟩ := ext_of_below hb1; clear hb1))
    | (go_at_call 88; ((with_reducible refine (HL.out _ _).mono ?_); rintro e w1 ⟨rfl, hb1⟩; obtain ⟨os1, d1, rfl⟩ := ext_of_below hb1; clear hb1))))
  all_goals
    go_wp2
    go_returns
    exact (show ∃ pv, _ from ⟨_, rfl, rl_2 (5, 0) (0, 0) (by first | (simp; done) | (simp; omega)) (by simp [go_sem]) (by simp [go_sem]) (by simp [go_sem]) (by simp [go_sem]), fre_lit (by first | (simp; done) | (simp; omega) | omega), by (repeat' (first | (with_reducible first | exact Below.refl _ _ | assumption | refine Below.alloc ?_ ?_ _ | refine below_drewN ?_ _ | refine below_drew ?_ | refine below_ext ?_ ?_ _ _ | refine Below.setCell ?_ ?_ _) | (simp; done) | (simp; omega) | omega))⟩)
set_option maxRecDepth 100000 in
set_option maxHeartbeats 4000000 in
theorem rfn_string (w : World) : Calls Tryz.prog 87 #[.string (mkb [115, 116, 114, 105, 110, 103])] w fun e w' => FnQ (some ([(0, 0)], (3, 0))) w e w' := by
  have HO := Lib.hid cof_any
  have HL := Lib.hid list_any
  go_enter Tryz.func87, Tryz.ntmps87
  go_wp2_with (first
    | (go_at_call 66; ((with_reducible refine (HO.out _ _).mono ?_); rintro e w1 ⟨rfl, hb1⟩; obtain ⟨os1, d1, rfl⟩ := ext_of_below hb1; clear hb1))
    | (go_at_call 88; ((with_reducible refine (HL.out _ _).mono ?_); rintro e w1 ⟨rfl, hb1⟩; obtain ⟨os1, d1, rfl⟩ := ext_of_below hb1; clear hb1)))
  all_goals
    try (go_region_with (first
    | (go_at_call 66; ((with_reducible refine (HO.out _ _).mono ?_); rintro e w1 ⟨rfl, hb1⟩; obtain ⟨os1, d1, rfl⟩ := ext_of_below hb1; clear hb1))
    | (go_at_call 88; ((with_reducible refine (HL.out _ _).mono ?_); rintro e w1 ⟨rfl, hb1⟩; obtain ⟨os1, d1, rfl⟩ := ext_of_below hb1; clear hb1))))
  all_goals
    go_wp2
    go_returns
    exact (show ∃ pv, _ from ⟨_, rfl, rl_1 (0, 0) (by first | (simp; done) | (simp; omega)) (by simp [go_sem]) (by simp [go_sem]), fre_lit (by first | (simp; done) | (simp; omega) | omega), by (repeat' (first | (with_reducible first | exact Below.refl _ _ | assumption | refine Below.alloc ?_ ?_ _ | refine below_drewN ?_ _ | refine below_drew ?_ | refine below_ext ?_ ?_ _ _ | refine Below.setCell ?_ ?_ _) | (simp; done) | (simp; omega) | omega))⟩)
end Go.Proofs.YtalahkincccffaaGreatDoor
