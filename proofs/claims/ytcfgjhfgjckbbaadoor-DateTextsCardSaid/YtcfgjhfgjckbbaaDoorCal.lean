/-
  The calendar in plain numbers: days ahead of a year, of a month; which year, month and day a number is.
-/
namespace Cal
def lp (y : Int) : Int := if y % 4 = 0 ∧ (¬ y % 100 = 0 ∨ y % 400 = 0) then 1 else 0
theorem lp_01 (y : Int) : 0 ≤ lp y ∧ lp y ≤ 1 := by unfold lp; split <;> omega
def dby (y : Int) : Int := (y - 1) * 365 + (y - 1) / 4 - (y - 1) / 100 + (y - 1) / 400
theorem dby_succ (y : Int) : dby (y + 1) = dby y + 365 + lp y := by unfold dby lp; split <;> omega
theorem dby_mono (a b : Int) (h : a ≤ b) : dby a ≤ dby b := by unfold dby; omega
theorem dby_bd (a : Int) (h0 : 1 ≤ a) (h : a ≤ 10000) : 0 ≤ dby a ∧ dby a ≤ 3652059 := by unfold dby; omega
theorem dby_one : dby 1 = 0 := by decide
def dim (y m : Int) : Int := if m = 2 then 28 + lp y else if m = 4 ∨ m = 6 ∨ m = 9 ∨ m = 11 then 30 else 31
theorem dim_bd (y m : Int) : 28 ≤ dim y m ∧ dim y m ≤ 31 := by
  have := lp_01 y
  unfold dim; split
  · omega
  · split <;> omega
def cum (y m : Int) : Int :=
  if m ≤ 1 then 0 else if m = 2 then 31 else if m = 3 then 59 + lp y else if m = 4 then 90 + lp y else if m = 5 then 120 + lp y
  else if m = 6 then 151 + lp y else if m = 7 then 181 + lp y else if m = 8 then 212 + lp y else if m = 9 then 243 + lp y
  else if m = 10 then 273 + lp y else if m = 11 then 304 + lp y else if m = 12 then 334 + lp y else 365 + lp y
theorem months {m : Int} (h1 : 1 ≤ m) (h2 : m ≤ 12) : m = 1 ∨ m = 2 ∨ m = 3 ∨ m = 4 ∨ m = 5 ∨ m = 6 ∨ m = 7 ∨ m = 8 ∨ m = 9 ∨ m = 10 ∨ m = 11 ∨ m = 12 := by omega
theorem cum_succ (y m : Int) (h1 : 1 ≤ m) (h2 : m ≤ 12) : cum y (m + 1) = cum y m + dim y m := by
  rcases months h1 h2 with rfl | rfl | rfl | rfl | rfl | rfl | rfl | rfl | rfl | rfl | rfl | rfl <;> simp [cum, dim] <;> omega
theorem cum_one (y : Int) : cum y 1 = 0 := rfl
theorem cum_13 (y : Int) : cum y 13 = 365 + lp y := rfl
theorem cum_mono (y m k : Int) (h1 : 1 ≤ m) (h : m ≤ k) (h2 : k ≤ 13) : cum y m ≤ cum y k := by
  have h13 : k = 13 ∨ k ≤ 12 := by omega
  have h13' : m = 13 ∨ m ≤ 12 := by omega
  have := lp_01 y
  rcases h13 with rfl | hk
  · rcases h13' with rfl | hm
    · omega
    · rcases months h1 hm with rfl | rfl | rfl | rfl | rfl | rfl | rfl | rfl | rfl | rfl | rfl | rfl <;> simp [cum] <;> omega
  · rcases months (by omega) hk with rfl | rfl | rfl | rfl | rfl | rfl | rfl | rfl | rfl | rfl | rfl | rfl <;>
    rcases months h1 (by omega) with rfl | rfl | rfl | rfl | rfl | rfl | rfl | rfl | rfl | rfl | rfl | rfl <;> simp [cum] <;> omega
theorem cum_bd (y m : Int) (h1 : 1 ≤ m) (h2 : m ≤ 13) : 0 ≤ cum y m ∧ cum y m ≤ 366 := by
  have a := cum_mono y 1 m (by omega) h1 h2
  have b := cum_mono y m 13 h1 h2 (by omega)
  have := lp_01 y
  rw [cum_one] at a; rw [cum_13] at b
  omega
/-- the number n is the day d of the month m of the year y -/
structure IsDay (n y m d : Int) : Prop where
  y1 : 1 ≤ y
  y2 : y ≤ 9999
  m1 : 1 ≤ m
  m2 : m ≤ 12
  d1 : 1 ≤ d
  d2 : d ≤ dim y m
  num : dby y + cum y m + d = n
theorem IsDay.bd {n y m d : Int} (h : IsDay n y m d) : 1 ≤ n ∧ n ≤ 3652059 := by
  obtain ⟨y1, y2, m1, m2, d1, d2, hn⟩ := h
  have a := cum_succ y m m1 m2
  have b := cum_bd y m m1 (by omega)
  have c := cum_mono y (m + 1) 13 (by omega) (by omega) (by omega)
  have e := dby_succ y
  have f := dby_bd y y1 (by omega)
  have g := dby_bd (y + 1) (by omega) (by omega)
  rw [cum_13] at c
  omega
/-- its year is the one in whose days it lies -/
theorem IsDay.year {n y m d : Int} (h : IsDay n y m d) : dby y < n ∧ n ≤ dby (y + 1) := by
  obtain ⟨y1, y2, m1, m2, d1, d2, hn⟩ := h
  have a := cum_succ y m m1 m2
  have b := cum_bd y m m1 (by omega)
  have c := cum_mono y (m + 1) 13 (by omega) (by omega) (by omega)
  have e := dby_succ y
  rw [cum_13] at c
  omega
theorem year_uniq {n y z : Int} (h1 : dby y < n) (h2 : n ≤ dby (y + 1)) (h3 : dby z < n) (h4 : n ≤ dby (z + 1)) : y = z := by
  rcases Int.lt_trichotomy y z with h | h | h
  · have := dby_mono (y + 1) z (by omega); omega
  · exact h
  · have := dby_mono (z + 1) y (by omega); omega
theorem month_uniq {y r m k : Int} (hm1 : 1 ≤ m) (hm2 : m ≤ 12) (hk1 : 1 ≤ k) (hk2 : k ≤ 12) (h1 : cum y m < r) (h2 : r ≤ cum y (m + 1)) (h3 : cum y k < r) (h4 : r ≤ cum y (k + 1)) : m = k := by
  rcases Int.lt_trichotomy m k with h | h | h
  · have := cum_mono y (m + 1) k (by omega) (by omega) (by omega); omega
  · exact h
  · have := cum_mono y (k + 1) m (by omega) (by omega) (by omega); omega
theorem IsDay.uniq {n y m d z k c : Int} (h : IsDay n y m d) (g : IsDay n z k c) : y = z ∧ m = k ∧ d = c := by
  have e1 := year_uniq h.year.1 h.year.2 g.year.1 g.year.2
  subst e1
  have h7 := h.num; have g7 := g.num; have hd1 := h.d1; have hd2 := h.d2; have gd1 := g.d1; have gd2 := g.d2
  have s1 := cum_succ y m h.m1 h.m2
  have s2 := cum_succ y k g.m1 g.m2
  have e2 : m = k := month_uniq (y := y) (r := n - dby y) h.m1 h.m2 g.m1 g.m2 (by omega) (by omega) (by omega) (by omega)
  subst e2
  exact ⟨rfl, rfl, by omega⟩
/-- the year by centuries, by fours and by ones -/
theorem year_of (r a r1 b r2 c r3 s : Int) (_h0 : 0 ≤ r) (_h1 : r ≤ 3652058) (ha : a = r / 146097) (hr1 : r1 = r % 146097) (hb : b = min (r1 / 36524) 3) (hr2 : r2 = r1 - b * 36524)
    (hc : c = r2 / 1461) (hr3 : r3 = r2 % 1461) (hs : s = min (r3 / 365) 3) :
    dby (1 + a * 400 + (b * 100 + c * 4) + s) + (r3 - s * 365) = r ∧ 0 ≤ r3 - s * 365 ∧ r3 - s * 365 < 365 + lp (1 + a * 400 + (b * 100 + c * 4) + s) := by
  have hb' : 0 ≤ b ∧ b ≤ 3 := by omega
  have hr2' : 0 ≤ r2 ∧ r2 ≤ 36524 := by omega
  have hc' : 0 ≤ c ∧ c ≤ 24 := by omega
  have hr3' : 0 ≤ r3 ∧ r3 ≤ 1460 := by omega
  have hs' : 0 ≤ s ∧ s ≤ 3 := by omega
  have e4 : (1 + a * 400 + (b * 100 + c * 4) + s - 1) / 4 = a * 100 + b * 25 + c := by omega
  have e100 : (1 + a * 400 + (b * 100 + c * 4) + s - 1) / 100 = a * 4 + b := by omega
  have e400 : (1 + a * 400 + (b * 100 + c * 4) + s - 1) / 400 = a := by omega
  have g1 : r = a * 146097 + r1 := by omega
  have g2 : r2 = c * 1461 + r3 := by omega
  refine ⟨?_, by omega, ?_⟩
  · unfold dby; rw [e4, e100, e400]; omega
  · by_cases h3 : r3 = 1460
    · have hs3 : s = 3 := by omega
      have : lp (1 + a * 400 + (b * 100 + c * 4) + s) = 1 := by
        unfold lp
        refine if_pos ⟨by omega, ?_⟩
        by_cases h24 : c = 24
        · right; have : b = 3 := by omega
          omega
        · left; omega
      omega
    · have := lp_01 (1 + a * 400 + (b * 100 + c * 4) + s)
      omega
theorem year_in (r y rest : Int) (h0 : 0 ≤ r) (h1 : r ≤ 3652058) (h : dby y + rest = r) (h2 : 0 ≤ rest) (h3 : rest < 365 + lp y) : 1 ≤ y ∧ y ≤ 9999 := by
  have e := dby_succ y
  constructor
  · rcases Int.lt_or_le y 1 with hy | hy
    · have := dby_mono (y + 1) 1 (by omega); rw [dby_one] at this; omega
    · exact hy
  · rcases Int.lt_or_le 9999 y with hy | hy
    · have := dby_mono 10000 y (by omega); have e : dby 10000 = 3652059 := by decide
      omega
    · exact hy
theorem month_ex (y r : Int) (h0 : 0 ≤ r) (h1 : r < 365 + lp y) : ∃ m, 1 ≤ m ∧ m ≤ 12 ∧ cum y m ≤ r ∧ r < cum y (m + 1) := by
  have key : ∀ k : Nat, k ≤ 12 → (∃ m : Int, 1 ≤ m ∧ m ≤ 12 ∧ cum y m ≤ r ∧ r < cum y (m + 1)) ∨ cum y ((k : Int) + 1) ≤ r := by
    intro k
    induction k with
    | zero => intro _; right; exact h0
    | succ k ih =>
      intro hk
      rcases ih (by omega) with h | h
      · exact .inl h
      · by_cases h2 : r < cum y ((k : Int) + 1 + 1)
        · exact .inl ⟨(k : Int) + 1, by omega, by omega, h, h2⟩
        · right; rw [show ((k + 1 : Nat) : Int) + 1 = (k : Int) + 1 + 1 by omega]; omega
  rcases key 12 (by omega) with h | h
  · exact h
  · have : cum y (((12 : Nat) : Int) + 1) = 365 + lp y := rfl
    omega
theorem day_of (n y rest : Int) (h : 1 ≤ n) (h' : n ≤ 3652059) (g1 : dby y + rest = n - 1) (g2 : 0 ≤ rest) (g3 : rest < 365 + lp y) : ∃ m, IsDay n y m (rest - cum y m + 1) := by
  obtain ⟨y1, y2⟩ := year_in _ _ _ (by omega) (by omega) g1 g2 g3
  obtain ⟨m, m1, m2, c1, c2⟩ := month_ex _ _ g2 g3
  have := cum_succ y m m1 m2
  exact ⟨m, y1, y2, m1, m2, by omega, by omega, by omega⟩
theorem day_ex (n : Int) (h1 : 1 ≤ n) (h2 : n ≤ 3652059) : ∃ y m d, IsDay n y m d := by
  obtain ⟨g1, g2, g3⟩ := year_of (n - 1) _ _ _ _ _ _ _ (by omega) (by omega) rfl rfl rfl rfl rfl rfl rfl
  obtain ⟨m, h⟩ := day_of n _ _ h1 h2 g1 g2 g3
  exact ⟨_, m, _, h⟩
/-- the day behind a day -/
theorem IsDay.next {n y m d : Int} (h : IsDay n y m d) (hn : n < 3652059) :
    (d < dim y m → IsDay (n + 1) y m (d + 1)) ∧ (d = dim y m → m < 12 → IsDay (n + 1) y (m + 1) 1) ∧ (d = dim y m → m = 12 → IsDay (n + 1) (y + 1) 1 1) := by
  obtain ⟨y1, y2, m1, m2, d1, d2, hnum⟩ := h
  have s := cum_succ y m m1 m2
  refine ⟨fun hl => ⟨y1, y2, m1, m2, by omega, by omega, by omega⟩, fun he hm => ⟨y1, y2, by omega, by omega, by omega, ?_, by omega⟩, fun he hm => ?_⟩
  · have := dim_bd y (m + 1); omega
  · subst hm
    have e := dby_succ y
    have f : cum y (12 + 1) = 365 + lp y := rfl
    have hy : y ≤ 9998 := by
      rcases Int.lt_or_le 9998 y with h | h
      · have : y = 9999 := by omega
        subst this
        have : dby (9999 + 1) = 3652059 := by decide
        omega
      · exact h
    refine ⟨by omega, by omega, by omega, by omega, by omega, ?_, ?_⟩
    · have := dim_bd (y + 1) 1; omega
    · rw [cum_one]; omega
/-- so many months later -/
theorem later (c y m d : Int) (h0 : 0 ≤ c) (h1 : c ≤ 119987) (hy : y = c / 12 + 1) (hm : m = c % 12 + 1) (hd : 1 ≤ d) : IsDay (dby y + cum y m + min d (dim y m)) y m (min d (dim y m)) := by
  have := dim_bd y m
  exact ⟨by omega, by omega, by omega, by omega, by omega, by omega, rfl⟩
end Cal
