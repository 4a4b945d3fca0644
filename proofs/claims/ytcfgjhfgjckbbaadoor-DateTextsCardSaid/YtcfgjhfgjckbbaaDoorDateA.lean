/-
  Contracts of the small functions of package date and of the document's answers for it: leap years, months, years, days ahead.
-/
import Derived.Test.YtcfgjhfgjckbbaaDoorExt
import Derived.Test.YtcfgjhfgjckbbaaDoorCal
namespace Go.Proofs.YtcfgjhfgjckbbaaDoor
open Go.RowKit

theorem ret_int {k : IntKind} {a b : Int} (h : a = b) : Ending.returned (.int k a) = .returned (.int k b) := by rw [h]
/-- the rule for leap years, for any whole number -/
def leapB (y : Int) : Bool := (y.tmod 4 == 0) && (!(y.tmod 100 == 0) || (y.tmod 400 == 0))
theorem leap_date (y : Int) (w : World) : Calls Tryd.prog 18 #[.int .i64 y] w fun e w' => e = .returned (.bool (leapB y)) ∧ w = w' := by
  by_cases h4 : y.tmod 4 = 0
  · by_cases h100 : y.tmod 100 = 0
    · rw [show leapB y = (y.tmod 400 == 0) by simp [leapB, h4, h100]]
      go_enter Tryd.func18, Tryd.ntmps18
      go_wp2
      go_ret
      exact ⟨rfl, rfl⟩
    · rw [show leapB y = true by simp [leapB, h4, h100]]
      go_enter Tryd.func18, Tryd.ntmps18
      go_wp2
      go_ret
      exact ⟨rfl, rfl⟩
  · rw [show leapB y = false by simp [leapB, h4]]
    go_enter Tryd.func18, Tryd.ntmps18
    go_wp2
    go_ret
    exact ⟨rfl, rfl⟩
theorem leap_ref (y : Int) (w : World) : Calls Tryd.prog 19 #[.int .i64 y] w fun e w' => e = .returned (.bool (leapB y)) ∧ w = w' := by
  by_cases h4 : y.tmod 4 = 0
  · by_cases h100 : y.tmod 100 = 0
    · rw [show leapB y = (y.tmod 400 == 0) by simp [leapB, h4, h100]]
      go_enter Tryd.func19, Tryd.ntmps19
      go_wp2
      go_ret
      exact ⟨rfl, rfl⟩
    · rw [show leapB y = true by simp [leapB, h4, h100]]
      go_enter Tryd.func19, Tryd.ntmps19
      go_wp2
      go_ret
      exact ⟨rfl, rfl⟩
  · rw [show leapB y = false by simp [leapB, h4]]
    go_enter Tryd.func19, Tryd.ntmps19
    go_wp2
    go_ret
    exact ⟨rfl, rfl⟩
theorem leapB_in (y : Int) (hy : 1 ≤ y) : (leapB y = true ∧ Cal.lp y = 1) ∨ (leapB y = false ∧ Cal.lp y = 0) := by
  have e4 : y.tmod 4 = y % 4 := Int.tmod_eq_emod_of_nonneg (by omega)
  have e100 : y.tmod 100 = y % 100 := Int.tmod_eq_emod_of_nonneg (by omega)
  have e400 : y.tmod 400 = y % 400 := Int.tmod_eq_emod_of_nonneg (by omega)
  unfold leapB Cal.lp
  rw [e4, e100, e400]
  by_cases h4 : y % 4 = 0 <;> by_cases h100 : y % 100 = 0 <;> by_cases h400 : y % 400 = 0 <;> simp [h4, h100, h400]
theorem leap_yes {y : Int} (hb : leapB y = true) (w : World) : Calls Tryd.prog 18 #[.int .i64 y] w fun e w' => e = .returned (.bool true) ∧ w = w' := by
  have := leap_date y w; rw [hb] at this; exact this
theorem leap_no {y : Int} (hb : leapB y = false) (w : World) : Calls Tryd.prog 18 #[.int .i64 y] w fun e w' => e = .returned (.bool false) ∧ w = w' := by
  have := leap_date y w; rw [hb] at this; exact this
theorem rleap_yes {y : Int} (hb : leapB y = true) (w : World) : Calls Tryd.prog 19 #[.int .i64 y] w fun e w' => e = .returned (.bool true) ∧ w = w' := by
  have := leap_ref y w; rw [hb] at this; exact this
theorem rleap_no {y : Int} (hb : leapB y = false) (w : World) : Calls Tryd.prog 19 #[.int .i64 y] w fun e w' => e = .returned (.bool false) ∧ w = w' := by
  have := leap_ref y w; rw [hb] at this; exact this

/-- the list of the months' lengths, as the program's text lays it -/
def lensList : List Int := [31, 28, 31, 30, 31, 30, 31, 31, 30, 31, 30, 31]
def Lens (w : World) : Prop := 0 < w.heap.size ∧ ∀ j, j < 12 → w.cell? ⟨0, j, none⟩ = some (.int .i64 (lensList.getD j 0))
theorem Lens.ext {w : World} (h : Lens w) (os : Array Obj) (d : Nat) : Lens (ext w os d) :=
  ⟨by rw [ext_size]; have := h.1; omega, fun j hj => (cell?_ext w os d _ _ (by have := h.1; omega)).trans (h.2 j hj)⟩
theorem Lens.below {w w' : World} (h : Lens w) (hb : Below w.heap.size w w') : Lens w' := by
  obtain ⟨os, d, rfl⟩ := ext_of_below hb
  exact h.ext os d
theorem dim_lens (y m : Int) (j : Nat) (h1 : 1 ≤ m) (h2 : m ≤ 12) (h : m ≠ 2) (hj : m = (j : Int) + 1) : lensList.getD j 0 = Cal.dim y m := by
  subst hj
  have : j = 0 ∨ j = 2 ∨ j = 3 ∨ j = 4 ∨ j = 5 ∨ j = 6 ∨ j = 7 ∨ j = 8 ∨ j = 9 ∨ j = 10 ∨ j = 11 := by omega
  rcases this with rfl | rfl | rfl | rfl | rfl | rfl | rfl | rfl | rfl | rfl | rfl <;> simp [lensList, Cal.dim]
theorem length_date (y m : Int) (hy : 1 ≤ y) (h1 : 1 ≤ m) (h2 : m ≤ 12) (w : World) (hl : Lens w) : Calls Tryd.prog 56 #[.int .i64 y, .int .i64 m] w fun e w' => e = .returned (.int .i64 (Cal.dim y m)) ∧ w = w' := by
  by_cases hm : m = 2
  · subst hm
    rcases leapB_in y hy with ⟨hb, hlp⟩ | ⟨hb, hlp⟩
    · have hd : Cal.dim y 2 = 29 := by simp [Cal.dim, hlp]
      rw [hd]
      have HB := Lib.hid hb
      clear hb hlp hl hd
      go_enter Tryd.func56, Tryd.ntmps56
      go_wp2_with (go_at_call 18; refine (leap_yes HB.out _).mono ?_; rintro e w' ⟨rfl, rfl⟩)
      go_ret
      exact ⟨rfl, rfl⟩
    · have hd : Cal.dim y 2 = 28 := by simp [Cal.dim, hlp]
      rw [hd]
      have HB := Lib.hid hb
      have hc := hl.2 1 (by decide)
      clear hb hlp hl hd
      simp only [lensList, List.getD_cons_succ, List.getD_cons_zero] at hc
      go_enter Tryd.func56, Tryd.ntmps56
      go_wp2_with (go_at_call 18; refine (leap_no HB.out _).mono ?_; rintro e w' ⟨rfl, rfl⟩)
      go_ret
      exact ⟨rfl, rfl⟩
  · obtain ⟨j, hj⟩ : ∃ j : Nat, m = (j : Int) + 1 := ⟨(m - 1).toNat, by omega⟩
    have hd := dim_lens y m j h1 h2 hm hj
    have hc := hl.2 j (by omega)
    rw [hd] at hc
    subst hj
    have hjj : (j : Int) + 1 - 1 = j := by omega
    have hb1 : (j : Int) < 12 := by omega
    have hm2 : ((j : Int) + 1 == 2) = false := by simpa using hm
    have hn : j < 12 := by omega
    clear hd hl hm
    go_enter Tryd.func56, Tryd.ntmps56
    go_wp2
    go_ret
    exact ⟨rfl, rfl⟩
/-- the document's month, year -/
theorem month_ref (y m : Int) (hy : 1 ≤ y) (h1 : 1 ≤ m) (h2 : m ≤ 12) (w : World) : Calls Tryd.prog 55 #[.int .i64 y, .int .i64 m] w fun e w' => e = .returned (.int .i64 (Cal.dim y m)) ∧ w = w' := by
  rcases Cal.months h1 h2 with rfl | rfl | rfl | rfl | rfl | rfl | rfl | rfl | rfl | rfl | rfl | rfl
  case inr.inl =>
    rcases leapB_in y hy with ⟨hb, hlp⟩ | ⟨hb, hlp⟩
    · have hd : Cal.dim y 2 = 29 := by simp [Cal.dim, hlp]
      rw [hd]
      have HB := Lib.hid hb
      clear hb hlp hd
      go_enter Tryd.func55, Tryd.ntmps55
      go_wp2_with (go_at_call 19; refine (rleap_yes HB.out _).mono ?_; rintro e w' ⟨rfl, rfl⟩)
      go_ret
      exact ⟨rfl, rfl⟩
    · have hd : Cal.dim y 2 = 28 := by simp [Cal.dim, hlp]
      rw [hd]
      have HB := Lib.hid hb
      clear hb hlp hd
      go_enter Tryd.func55, Tryd.ntmps55
      go_wp2_with (go_at_call 19; refine (rleap_no HB.out _).mono ?_; rintro e w' ⟨rfl, rfl⟩)
      go_ret
      exact ⟨rfl, rfl⟩
  all_goals
    simp only [Cal.dim]
    go_enter Tryd.func55, Tryd.ntmps55
    go_wp2
    go_ret
    exact ⟨rfl, rfl⟩
theorem year_ref (y : Int) (hy : 1 ≤ y) (w : World) : Calls Tryd.prog 57 #[.int .i64 y] w fun e w' => e = .returned (.int .i64 (365 + Cal.lp y)) ∧ w = w' := by
  rcases leapB_in y hy with ⟨hb, hlp⟩ | ⟨hb, hlp⟩
  · rw [hlp]
    have HB := Lib.hid hb
    clear hb hlp
    go_enter Tryd.func57, Tryd.ntmps57
    go_wp2_with (go_at_call 19; refine (rleap_yes HB.out _).mono ?_; rintro e w' ⟨rfl, rfl⟩)
    go_ret
    exact ⟨rfl, rfl⟩
  · rw [hlp]
    have HB := Lib.hid hb
    clear hb hlp
    go_enter Tryd.func57, Tryd.ntmps57
    go_wp2_with (go_at_call 19; refine (rleap_no HB.out _).mono ?_; rintro e w' ⟨rfl, rfl⟩)
    go_ret
    exact ⟨rfl, rfl⟩
end Go.Proofs.YtcfgjhfgjckbbaaDoor
