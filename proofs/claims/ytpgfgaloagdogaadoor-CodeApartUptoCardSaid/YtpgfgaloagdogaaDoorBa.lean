/-
  Plain facts about fractions that are rounded and fitted: no program stands in this text.
  Plain facts about numbers of two and of four words of 64 bits: no program stands in this text.
  Plain facts about the estimated digit of a long division: no program stands in this text.
  Plain facts under a division of two words by one: numbers, no program.
  Plain facts under a division of four words by two: numbers, no program.
  Plain facts about decimal digits of natural numbers, least digit first: no program stands in this text.
  Texts in plain words: which characters stand in them, decoded from a place on.
  Texts cut in two by characters, in plain words: steps from character to character.
  The calendar in plain numbers: days ahead of a year, of a month; which year, month and day a number is.
  Plain facts about lists of decimal digits: doubling, halving, sums, differences, products. No program stands in this text.
  Plain facts about the words of a difference, and about the two halves of four words: no program stands in this text.
  Plain facts about long division by digits. No program stands in this text.
-/
import Derived.Lib.ValidLaws
import Derived.Lib.FieldsU
import Derived.Lib.QuoteLoop
import Derived.Lib.RuneCount
import Derived.Lib.Strings
namespace Go.Proofs.YtpgfgaloagdogaaDoor.Fit

def near (n t : Nat) : Nat := if t < n % t + n % t then n / t + 1 else if n % t + n % t = t then (if n / t % 2 = 1 then n / t + 1 else n / t) else n / t
/-- m is the nearest, ties to even, by inequalities alone -/
def NearTo (n t m : Nat) : Prop := (2 * (m * t) < 2 * n + t ∧ 2 * n < 2 * (m * t) + t) ∨ (2 * (m * t) = 2 * n + t ∧ m % 2 = 0) ∨ (2 * n = 2 * (m * t) + t ∧ m % 2 = 0)
theorem near_to (n t : Nat) (ht : 0 < t) : NearTo n t (near n t) := by
  unfold near NearTo
  have h1 := Nat.div_add_mod n t
  have h2 := Nat.mod_lt n ht
  rw [Nat.mul_comm] at h1
  have e : (n / t + 1) * t = n / t * t + t := by rw [Nat.add_mul, Nat.one_mul]
  generalize n / t = q at *
  generalize n % t = r at *
  subst h1
  split
  · rw [e]; omega
  · split
    · split
      · rw [e]; omega
      · omega
    · omega
theorem nearTo_lt {n t m m' : Nat} (ht : 0 < t) (h : NearTo n t m) (h' : NearTo n t m') : ¬ m < m' := by
  intro hlt
  obtain ⟨d, rfl⟩ : ∃ d, m' = m + 1 + d := ⟨m' - (m + 1), by omega⟩
  unfold NearTo at h h'
  have e : (m + 1 + d) * t = m * t + t + d * t := by rw [Nat.add_mul, Nat.add_mul, Nat.one_mul]
  rw [e] at h'
  rcases Nat.eq_zero_or_pos d with rfl | hd
  · rw [Nat.zero_mul] at h'
    generalize m * t = M at *
    omega
  · have hdt : t ≤ d * t := Nat.le_mul_of_pos_left _ hd
    generalize m * t = M at *
    generalize d * t = D at *
    omega
theorem nearTo_one {n t m m' : Nat} (ht : 0 < t) (h : NearTo n t m) (h' : NearTo n t m') : m = m' := by
  have h1 := nearTo_lt ht h h'
  have h2 := nearTo_lt ht h' h
  omega
theorem near_eq {n t m : Nat} (ht : 0 < t) (h : NearTo n t m) : near n t = m := nearTo_one ht (near_to n t ht) h
theorem nearTo_ratio {n t n' t' m : Nat} (ht : 0 < t) (he : n * t' = n' * t) (ht' : 0 < t') (h : NearTo n t m) : NearTo n' t' m := by
  unfold NearTo at *
  have e1 : (2 * (m * t')) * t = (2 * (m * t)) * t' := by simp only [Nat.mul_assoc, Nat.mul_comm t']
  have e2 : (2 * n' + t') * t = (2 * n + t) * t' := by rw [Nat.add_mul, Nat.add_mul, Nat.mul_assoc, Nat.mul_assoc, he, Nat.mul_comm t']
  have e3 : (2 * n') * t = (2 * n) * t' := by rw [Nat.mul_assoc, Nat.mul_assoc, he]
  have e4 : (2 * (m * t') + t') * t = (2 * (m * t) + t) * t' := by rw [Nat.add_mul, Nat.add_mul, e1, Nat.mul_comm t']
  rcases h with ⟨a, b⟩ | ⟨a, b⟩ | ⟨a, b⟩
  · refine .inl ⟨Nat.lt_of_mul_lt_mul_right (a := t) ?_, Nat.lt_of_mul_lt_mul_right (a := t) ?_⟩
    · rw [e1, e2]; exact Nat.mul_lt_mul_of_pos_right a ht'
    · rw [e3, e4]; exact Nat.mul_lt_mul_of_pos_right b ht'
  · refine .inr (.inl ⟨Nat.eq_of_mul_eq_mul_right ht ?_, b⟩)
    rw [e1, e2, a]
  · refine .inr (.inr ⟨Nat.eq_of_mul_eq_mul_right ht ?_, b⟩)
    rw [e3, e4, a]
theorem near_ratio {n t n' t' : Nat} (ht : 0 < t) (ht' : 0 < t') (he : n * t' = n' * t) : near n t = near n' t' :=
  (near_eq ht' (nearTo_ratio ht he ht' (near_to n t ht))).symm
theorem near_whole (n t : Nat) (ht : 0 < t) : near (n * t) t = n := near_eq ht (.inl (by omega))
theorem near_le (n t : Nat) : near n t ≤ n + 1 := by
  have h := Nat.div_le_self n t
  unfold near
  split
  · omega
  · split
    · split <;> omega
    · omega
theorem near_zero (t : Nat) (ht : 0 < t) : near 0 t = 0 := near_eq ht (.inl (by omega))
theorem pp (k : Nat) : 0 < 10 ^ k := Nat.pow_pos (by decide)
theorem near_ten (n s c : Nat) (h : s ≤ c) : near (n * 10 ^ s) (10 ^ c) = near n (10 ^ (c - s)) := by
  refine near_ratio (pp _) (pp _) ?_
  rw [Nat.mul_assoc, ← Nat.pow_add, show s + (c - s) = c by omega]
/-- the greatest scale below k that has room, with the number at it -/
def fitS (n t : Nat) : Nat → Option (Nat × Nat)
  | 0 => none
  | s + 1 => if near (n * 10 ^ s) t < 10 ^ 34 then some (near (n * 10 ^ s) t, s) else fitS n t s
theorem fitS_ratio {n t n' t' : Nat} (ht : 0 < t) (ht' : 0 < t') (he : n * t' = n' * t) (k : Nat) : fitS n t k = fitS n' t' k := by
  induction k with
  | zero => rfl
  | succ s ih =>
    have e : near (n * 10 ^ s) t = near (n' * 10 ^ s) t' := near_ratio ht ht' (by rw [Nat.mul_right_comm, he, Nat.mul_right_comm])
    unfold fitS
    rw [e, ih]
/-- without noughts at the end, as far as there is a scale -/
def strip (c : Nat) : Nat → Nat × Nat
  | 0 => (c, 0)
  | s + 1 => if c % 10 = 0 then strip (c / 10) s else (c, s + 1)
theorem strip_ten (c s : Nat) : strip (c * 10) (s + 1) = strip c s := by
  rw [strip, if_pos (by omega), Nat.mul_div_cancel _ (by decide)]
theorem strip_tens (c s : Nat) : ∀ j, strip (c * 10 ^ j) (s + j) = strip c s
  | 0 => by rw [Nat.pow_zero, Nat.mul_one, Nat.add_zero]
  | j + 1 => by rw [Nat.pow_succ, ← Nat.mul_assoc, show s + (j + 1) = (s + j) + 1 by omega, strip_ten, strip_tens c s j]
theorem strip_zero : ∀ s, strip 0 s = (0, 0)
  | 0 => rfl
  | s + 1 => by rw [strip, if_pos rfl, Nat.zero_div, strip_zero s]
theorem strip_stop {c s : Nat} (h : c % 10 ≠ 0) : strip c s = (c, s) := by
  cases s with
  | zero => rfl
  | succ s => rw [strip, if_neg h]
/-- of a number with z noughts at its end -/
theorem strip_trim {c t z : Nat} (h : c = t * 10 ^ z) (ht : t % 10 ≠ 0) : ∀ s, strip c s = (c / 10 ^ min z s, s - min z s) := by
  intro s
  rcases Nat.le_total z s with hz | hz
  · rw [Nat.min_eq_left hz, h, Nat.mul_div_cancel _ (pp _)]
    obtain ⟨r, rfl⟩ : ∃ r, s = r + z := ⟨s - z, by omega⟩
    rw [strip_tens, strip_stop ht, Nat.add_sub_cancel]
  · rw [Nat.min_eq_right hz, Nat.sub_self]
    obtain ⟨r, rfl⟩ : ∃ r, z = r + s := ⟨z - s, by omega⟩
    have e : c = t * 10 ^ r * 10 ^ s := by rw [h, Nat.pow_add, Nat.mul_assoc]
    have h2 := strip_tens (t * 10 ^ r) 0 s
    rw [Nat.zero_add, ← e] at h2
    rw [h2, e, Nat.mul_div_cancel _ (pp _)]
    rfl
theorem strip_le (c : Nat) : ∀ s, (strip c s).1 ≤ c ∧ (strip c s).2 ≤ s := by
  intro s
  induction s generalizing c with
  | zero => exact ⟨Nat.le_refl _, Nat.le_refl _⟩
  | succ s ih =>
    unfold strip
    split
    · have := ih (c / 10)
      have h := Nat.div_le_self c 10
      exact ⟨Nat.le_trans this.1 h, by omega⟩
    · exact ⟨Nat.le_refl _, Nat.le_refl _⟩
theorem strip_pos {c : Nat} (h : 0 < c) : ∀ s, 0 < (strip c s).1 := by
  intro s
  induction s generalizing c with
  | zero => exact h
  | succ s ih =>
    unfold strip
    split
    · exact ih (by omega)
    · exact h
/-- the fitted number in form; none: there is no room -/
def fit (n t k : Nat) : Option (Nat × Nat) := (fitS n t k).map fun x => strip x.1 x.2
theorem fit_ratio {n t n' t' : Nat} (ht : 0 < t) (ht' : 0 < t') (he : n * t' = n' * t) (k : Nat) : fit n t k = fit n' t' k := by
  unfold fit; rw [fitS_ratio ht ht' he]
theorem near_up (n c j : Nat) : near (n * 10 ^ (c + j)) (10 ^ c) = n * 10 ^ j := by
  rw [show n * 10 ^ (c + j) = n * 10 ^ j * 10 ^ c by rw [Nat.pow_add, Nat.mul_assoc, Nat.mul_comm (10 ^ c)]]
  exact near_whole _ _ (pp _)
theorem fit_succ (n t s : Nat) : fit n t (s + 1) = if near (n * 10 ^ s) t < 10 ^ 34 then some (strip (near (n * 10 ^ s) t) s) else fit n t s := by
  unfold fit
  rw [fitS]
  split <;> rfl
theorem fit_room (n c : Nat) : ∀ j, n * 10 ^ j < 10 ^ 34 → fit n (10 ^ c) (c + j + 1) = some (strip n c) := by
  intro j h
  rw [fit_succ, near_up, if_pos h, strip_tens]
theorem fit_more (n c : Nat) : ∀ j, fit n (10 ^ c) (c + 1 + j) = fit n (10 ^ c) (c + 1)
  | 0 => rfl
  | j + 1 => by
    by_cases h : n * 10 ^ (j + 1) < 10 ^ 34
    · have h0 : n * 10 ^ 0 < 10 ^ 34 := Nat.lt_of_le_of_lt (Nat.mul_le_mul_left n (Nat.pow_le_pow_right (by decide) (Nat.zero_le _))) h
      have e1 := fit_room n c (j + 1) h
      have e2 := fit_room n c 0 h0
      rw [show c + 1 + (j + 1) = c + (j + 1) + 1 by omega, e1]
      exact e2.symm
    · have e := fit_more n c j
      rw [← e, show c + 1 + (j + 1) = (c + (j + 1)) + 1 by omega, fit_succ, near_up, if_neg h]
      congr 1; omega
/-- the greatest scale that need be looked at is the number's own -/
theorem fit_own (n c : Nat) : fit n (10 ^ c) (min c 18 + 1) = fit n (10 ^ c) 19 := by
  rcases Nat.le_total c 18 with h | h
  · rw [Nat.min_eq_left h]
    have := fit_more n c (18 - c)
    rw [← this]; congr 1; omega
  · rw [Nat.min_eq_right h]
/-- one digit more stands for all that a quotient leaves -/
theorem near_push {A B q U : Nat} (hB : 0 < B) (hU : 0 < U) (h1 : q * B < A) (h2 : A < (q + 1) * B) (h5 : U % 5 = 0) : near (10 * q + 1) (10 * (2 * U)) = near A (B * (2 * U)) := by
  have ht : 0 < 10 * (2 * U) := by omega
  refine (near_eq (Nat.mul_pos hB (by omega)) ?_).symm
  have h := near_to (10 * q + 1) (10 * (2 * U)) ht
  generalize near (10 * q + 1) (10 * (2 * U)) = m at *
  obtain ⟨V, rfl⟩ : ∃ V, U = 5 * V := ⟨U / 5, by omega⟩
  unfold NearTo at h ⊢
  obtain ⟨M, hM⟩ : ∃ M, M = m * V := ⟨_, rfl⟩
  have e1 : m * (10 * (2 * (5 * V))) = 100 * M := by rw [hM, ← Nat.mul_assoc 10 2, ← Nat.mul_assoc (10 * 2) 5, Nat.mul_left_comm]
  rw [e1] at h
  have a1 : 10 * M ≤ q + 5 * V := by omega
  have a2 : q + 1 ≤ 10 * M + 5 * V := by omega
  have e2 : m * (B * (2 * (5 * V))) = 10 * M * B := by
    rw [hM, ← Nat.mul_assoc 2 5, Nat.mul_left_comm B, Nat.mul_left_comm m, Nat.mul_comm B V, ← Nat.mul_assoc m V, Nat.mul_assoc (2 * 5)]
  have e3 : B * (2 * (5 * V)) = 2 * (5 * V * B) := by rw [Nat.mul_left_comm, Nat.mul_comm B]
  rw [e2, e3]
  have b1 : 10 * M * B ≤ q * B + 5 * V * B := by rw [← Nat.add_mul]; exact Nat.mul_le_mul_right _ a1
  have b2 : (q + 1) * B ≤ 10 * M * B + 5 * V * B := by rw [← Nat.add_mul]; exact Nat.mul_le_mul_right _ a2
  generalize 10 * M * B = X at *
  generalize 5 * V * B = Y at *
  generalize q * B = Q at *
  generalize (q + 1) * B = R at *
  exact .inl ⟨by omega, by omega⟩
theorem ten_split (s : Nat) (h : s ≤ 18) : 10 ^ (19 - s) = 2 * (5 * 10 ^ (18 - s)) ∧ 10 ^ (20 - s) = 10 * (2 * (5 * 10 ^ (18 - s))) := by
  have h1 : 10 ^ (19 - s) = 10 ^ (18 - s) * 10 := by rw [← Nat.pow_succ]; congr 1; omega
  have h2 : 10 ^ (20 - s) = 10 ^ (18 - s) * 10 * 10 := by rw [← Nat.pow_succ, ← Nat.pow_succ]; congr 1; omega
  rw [h1, h2]
  generalize 10 ^ (18 - s) = x
  omega
theorem near_den (A B s : Nat) (hB : 0 < B) (hs : s ≤ 19) : near (A * 10 ^ s) (B * 10 ^ 19) = near A (B * 10 ^ (19 - s)) := by
  refine near_ratio (Nat.mul_pos hB (pp _)) (Nat.mul_pos hB (pp _)) ?_
  have e : 10 ^ 19 = 10 ^ s * 10 ^ (19 - s) := by rw [← Nat.pow_add]; congr 1; omega
  rw [e, Nat.mul_assoc, Nat.mul_left_comm (10 ^ s)]
theorem fit_push {A B q : Nat} (hB : 0 < B) (h1 : q * B < A) (h2 : A < (q + 1) * B) : ∀ k, k ≤ 19 → fit (10 * q + 1) (10 ^ 20) k = fit A (B * 10 ^ 19) k
  | 0, _ => rfl
  | s + 1, hs => by
    obtain ⟨e1, e2⟩ := ten_split s (by omega)
    have e : near ((10 * q + 1) * 10 ^ s) (10 ^ 20) = near (A * 10 ^ s) (B * 10 ^ 19) := by
      rw [near_ten _ s 20 (by omega), near_den A B s hB (by omega), e1, e2]
      exact near_push hB (Nat.mul_pos (by decide) (pp _)) h1 h2 (Nat.mul_mod_right _ _)
    rw [fit_succ, fit_succ, e, fit_push hB h1 h2 s (by omega)]
theorem fit_quot {A B q : Nat} (hB : 0 < B) (h : q * B = A) (k : Nat) : fit q (10 ^ 19) k = fit A (B * 10 ^ 19) k := by
  refine fit_ratio (pp _) (Nat.mul_pos hB (pp _)) ?_ k
  rw [← h, Nat.mul_assoc]
/-- the number in units of 10^-18 -/
def uni (c s : Nat) : Nat := c * 10 ^ (18 - s)
theorem uni_raised (c s m : Nat) (h1 : s ≤ m) (h2 : m ≤ 18) : uni c s = c * 10 ^ (m - s) * 10 ^ (18 - m) := by
  unfold uni
  rw [Nat.mul_assoc, ← Nat.pow_add]
  congr 2; omega
/-- a size at a scale, fitted, is that of its units -/
theorem fit_uni (x m : Nat) (h : m ≤ 18) (k : Nat) : fit x (10 ^ m) k = fit (x * 10 ^ (18 - m)) (10 ^ 18) k := by
  refine fit_ratio (pp _) (pp _) ?_ k
  rw [Nat.mul_assoc, ← Nat.pow_add, show 18 - m + m = 18 by omega]
/-- the sum of signed sizes -/
def sumN (an : Bool) (a : Nat) (bn : Bool) (b : Nat) : Bool × Nat := if an = bn then (an, a + b) else if b ≤ a then (an, a - b) else (bn, b - a)
theorem sumN_scale (an : Bool) (a : Nat) (bn : Bool) (b P : Nat) (hP : 0 < P) : sumN an (a * P) bn (b * P) = ((sumN an a bn b).1, (sumN an a bn b).2 * P) := by
  unfold sumN
  split
  · rw [Nat.add_mul]
  · by_cases h : b ≤ a
    · rw [if_pos h, if_pos (Nat.mul_le_mul_right _ h), Nat.sub_mul]
    · rw [if_neg h, if_neg (fun h2 => h (Nat.le_of_mul_le_mul_right h2 hP)), Nat.sub_mul]
/-- the order, as the program and the document tell it -/
def ordN (an : Bool) (a : Nat) (bn : Bool) (b : Nat) : Int := if an = bn then (if a = b then 0 else if (a < b) = (an = false) then -1 else 1) else if an then -1 else 1
theorem fit_exact {q S : Nat} (h : q < 10 ^ 34) (hS : S ≤ 18) : fit q (10 ^ S) 19 = some (strip q S) := by
  rw [← fit_own, Nat.min_eq_left hS]
  exact fit_room q S 0 (by rwa [Nat.pow_zero, Nat.mul_one])
/-- the number that the program tries at a scale -/
def nbQ (x : Nat) (away : Bool) (P : Nat) : Nat := if away = true then x / P + 1 else if x % P = 0 then x / P - 1 else x / P
/-- the neighbour by units, as the program looks for it -/
def nbP (x : Nat) (away : Bool) : Nat → Option (Nat × Nat)
  | 0 => none
  | S + 1 => if nbQ x away (10 ^ (18 - S)) < 10 ^ 34 then some (strip (nbQ x away (10 ^ (18 - S))) S) else nbP x away S
/-- the same, as the document looks for it -/
def upR (x : Nat) (down : Bool) : Nat → Option (Nat × Nat)
  | 0 => none
  | S + 1 => if down = true ∧ x ≤ 10 ^ (52 - S) then fit (x - 10 ^ (18 - S)) (10 ^ 18) 19 else if down = false ∧ x < 10 ^ (52 - S) ∧ (0 < S ∨ x + 10 ^ (18 - S) < 10 ^ 52) then fit (x + 10 ^ (18 - S)) (10 ^ 18) 19 else upR x down S
theorem room_whole {x c s S : Nat} (hx : x = c * 10 ^ (18 - s)) (hc : c < 10 ^ 34) (h : S = 18 ∨ (S ≤ 17 ∧ 10 ^ (51 - S) ≤ x)) : ∃ q, x = q * 10 ^ (18 - S) := by
  rcases h with rfl | ⟨hS, h⟩
  · exact ⟨x, by rw [Nat.sub_self, Nat.pow_zero, Nat.mul_one]⟩
  · by_cases hs : s ≤ S
    · refine ⟨c * 10 ^ (S - s), ?_⟩
      rw [hx, Nat.mul_assoc, ← Nat.pow_add]
      congr 2; omega
    · exfalso
      have h1 : 10 ^ (18 - s) ≤ 10 ^ (17 - S) := Nat.pow_le_pow_right (by decide) (by omega)
      have h2 : c * 10 ^ (18 - s) ≤ c * 10 ^ (17 - S) := Nat.mul_le_mul_left _ h1
      have h3 : c * 10 ^ (17 - S) < 10 ^ 34 * 10 ^ (17 - S) := Nat.mul_lt_mul_of_pos_right hc (pp _)
      have h4 : 10 ^ (51 - S) = 10 ^ 34 * 10 ^ (17 - S) := by rw [← Nat.pow_add]; congr 1; omega
      omega
theorem down_same {x c s : Nat} (hx : x = c * 10 ^ (18 - s)) (hc : c < 10 ^ 34) (h0 : 0 < x) : ∀ k, k ≤ 19 → (k = 19 ∨ (k ≤ 18 ∧ 10 ^ (52 - k) ≤ x)) → nbP x false k = upR x true k
  | 0, _, _ => rfl
  | S + 1, hk, h => by
    obtain ⟨q, hq⟩ := room_whole (S := S) hx hc (by
      rcases h with h | ⟨h, h2⟩
      · exact .inl (by omega)
      · exact .inr ⟨by omega, by rwa [show 51 - S = 52 - (S + 1) by omega]⟩)
    have hP : 0 < 10 ^ (18 - S) := pp _
    have e52 : 10 ^ (52 - S) = 10 ^ 34 * 10 ^ (18 - S) := by rw [← Nat.pow_add]; congr 1; omega
    have hfu := fun y => fit_uni y S (by omega) 19
    have ih := down_same hx hc h0 S (by omega)
    rw [nbP, upR]
    generalize hPP : 10 ^ (18 - S) = P at *
    have hq0 : 0 < q := by
      rcases Nat.eq_zero_or_pos q with r | r
      · rw [r, Nat.zero_mul] at hq; omega
      · exact r
    have hQ : nbQ x false P = q - 1 := by
      unfold nbQ
      rw [if_neg (by decide), hq, Nat.mul_mod_left, if_pos rfl, Nat.mul_div_cancel _ hP]
    rw [hQ]
    by_cases hle : q ≤ 10 ^ 34
    · rw [if_pos (by omega), if_pos ⟨rfl, by rw [e52, hq]; exact Nat.mul_le_mul_right _ hle⟩]
      have e : x - P = (q - 1) * P := by rw [hq, Nat.sub_mul, Nat.one_mul]
      rw [e, ← hfu, fit_exact (by omega) (by omega)]
    · have hgt : 10 ^ 34 * P ≤ x := by rw [hq]; exact Nat.mul_le_mul_right _ (by omega)
      have hgt2 : ¬ x ≤ 10 ^ (52 - S) := by
        rw [e52, hq]; intro h3
        exact hle (Nat.le_of_mul_le_mul_right h3 hP)
      rw [if_neg (by omega), if_neg (fun h3 => hgt2 h3.2), if_neg (fun h3 => by cases h3.1)]
      exact ih (.inr ⟨by omega, by rw [e52]; exact hgt⟩)
theorem up_same {x c s : Nat} (hx : x = c * 10 ^ (18 - s)) (hc : c < 10 ^ 34) : ∀ k, k ≤ 19 → (k = 19 ∨ (k ≤ 18 ∧ 10 ^ (52 - k) ≤ x)) → nbP x true k = upR x false k
  | 0, _, _ => rfl
  | S + 1, hk, h => by
    obtain ⟨q, hq⟩ := room_whole (S := S) hx hc (by
      rcases h with h | ⟨h, h2⟩
      · exact .inl (by omega)
      · exact .inr ⟨by omega, by rwa [show 51 - S = 52 - (S + 1) by omega]⟩)
    have hP : 0 < 10 ^ (18 - S) := pp _
    have e52 : 10 ^ (52 - S) = 10 ^ 34 * 10 ^ (18 - S) := by rw [← Nat.pow_add]; congr 1; omega
    have e520 : S = 0 → 10 ^ 52 = 10 ^ 34 * 10 ^ (18 - S) := fun h => by rw [h]
    have hfu := fun y => fit_uni y S (by omega) 19
    have ih := up_same hx hc S (by omega)
    rw [nbP, upR]
    have hten : 0 < S → 10 ^ (18 - (S - 1)) = 10 * 10 ^ (18 - S) := fun h => by rw [show 18 - (S - 1) = 18 - S + 1 by omega, Nat.pow_succ, Nat.mul_comm]
    generalize hPP : 10 ^ (18 - S) = P at *
    have hQ : nbQ x true P = q + 1 := by
      unfold nbQ
      rw [if_pos rfl, hq, Nat.mul_div_cancel _ hP]
    have e : x + P = (q + 1) * P := by rw [hq, Nat.add_mul, Nat.one_mul]
    rw [hQ]
    by_cases hlt : q + 1 < 10 ^ 34
    · have hx1 : x < 10 ^ (52 - S) := by rw [e52, hq]; exact Nat.mul_lt_mul_of_pos_right (by omega) hP
      have hx2 : 0 < S ∨ x + P < 10 ^ 52 := by
        rcases Nat.eq_zero_or_pos S with h0 | h0
        · right; rw [e520 h0, e]; exact Nat.mul_lt_mul_of_pos_right hlt hP
        · exact .inl h0
      rw [if_pos hlt, if_neg (fun h3 => by cases h3.1), if_pos ⟨rfl, hx1, hx2⟩, e, ← hfu, fit_exact hlt (by omega)]
    · rw [if_neg hlt, if_neg (fun h3 => by cases h3.1)]
      by_cases hq1 : q + 1 = 10 ^ 34
      · have hx1 : x < 10 ^ (52 - S) := by rw [e52, hq]; exact Nat.mul_lt_mul_of_pos_right (by omega) hP
        rcases Nat.eq_zero_or_pos S with h0 | h0
        · rw [if_neg (fun h3 => by
            rcases h3.2.2 with h4 | h4
            · omega
            · rw [e520 h0, e, hq1] at h4; exact Nat.lt_irrefl _ h4)]
          subst h0
          rfl
        · rw [if_pos ⟨rfl, hx1, .inl h0⟩, e, hq1]
          obtain ⟨Z, rfl⟩ : ∃ Z, S = Z + 1 := ⟨S - 1, by omega⟩
          have ht := hten h0
          rw [Nat.add_sub_cancel] at ht
          have hd : x / (10 * P) = 10 ^ 33 - 1 := by
            rw [Nat.mul_comm, ← Nat.div_div_eq_div_mul, hq, Nat.mul_div_cancel _ hP, show q = 10 ^ 34 - 1 by omega]
          have hQ2 : nbQ x true (10 * P) = 10 ^ 33 := by
            unfold nbQ; rw [if_pos rfl, hd]
          have e3 : 10 ^ 34 * P = 10 ^ 33 * 10 ^ (18 - Z) := by rw [ht, ← Nat.mul_assoc]
          rw [nbP, ht, hQ2, if_pos (by decide), e3, ← fit_uni _ Z (by omega), fit_exact (by decide) (by omega)]
      · have hge : 10 ^ 34 * P ≤ x := by rw [hq]; exact Nat.mul_le_mul_right _ (by omega)
        rw [if_neg (fun h3 => by rw [e52] at h3; omega)]
        exact ih (.inr ⟨by omega, by rw [e52]; exact hge⟩)
end Go.Proofs.YtpgfgaloagdogaaDoor.Fit
namespace Go.Proofs.YtpgfgaloagdogaaDoor.Word

def hi (n : Nat) : Nat := n / 18446744073709551616
def lo (n : Nat) : Nat := n % 18446744073709551616
def w0 (n : Nat) : Nat := n % 18446744073709551616
def w1 (n : Nat) : Nat := n / 18446744073709551616 % 18446744073709551616
def w2 (n : Nat) : Nat := n / 340282366920938463463374607431768211456 % 18446744073709551616
def w3 (n : Nat) : Nat := n / 6277101735386680763835789423207666416102355444464034512896 % 18446744073709551616
/-- the bounds of a number of two words, of four words -/
def top2 : Nat := 340282366920938463463374607431768211456
def top4 : Nat := 115792089237316195423570985008687907853269984665640564039457584007913129639936
def sumLo (x y c : Nat) : Nat := (x + y + c) % 18446744073709551616
def sumHi (x y c : Nat) : Nat := (x + y + c) / 18446744073709551616
def difLo (x y c : Nat) : Nat := (x + 18446744073709551616 - y - c) % 18446744073709551616
def difHi (x y c : Nat) : Nat := if x < y + c then 1 else 0
def mulLo (x y : Nat) : Nat := x * y % 18446744073709551616
def mulHi (x y : Nat) : Nat := x * y / 18446744073709551616

theorem hi_lt {n : Nat} (h : n < top2) : hi n < 18446744073709551616 := by unfold hi top2 at *; omega
theorem lo_lt (n : Nat) : lo n < 18446744073709551616 := by unfold lo; omega
theorem w0_lt (n : Nat) : w0 n < 18446744073709551616 := by unfold w0; omega
theorem w1_lt (n : Nat) : w1 n < 18446744073709551616 := by unfold w1; omega
theorem w2_lt (n : Nat) : w2 n < 18446744073709551616 := by unfold w2; omega
theorem w3_lt (n : Nat) : w3 n < 18446744073709551616 := by unfold w3; omega
theorem sumLo_lt (x y c : Nat) : sumLo x y c < 18446744073709551616 := by unfold sumLo; omega
theorem sumHi_le {x y c : Nat} (hx : x < 18446744073709551616) (hy : y < 18446744073709551616) (hc : c ≤ 1) : sumHi x y c ≤ 1 := by unfold sumHi; omega
theorem difLo_lt (x y c : Nat) : difLo x y c < 18446744073709551616 := by unfold difLo; omega
theorem difHi_le (x y c : Nat) : difHi x y c ≤ 1 := by unfold difHi; split <;> omega
theorem mulLo_lt (x y : Nat) : mulLo x y < 18446744073709551616 := by unfold mulLo; omega
theorem mulHi_lt {x y : Nat} (hx : x < 18446744073709551616) (hy : y < 18446744073709551616) : mulHi x y < 18446744073709551616 := by
  unfold mulHi
  rw [Nat.div_lt_iff_lt_mul (by decide)]
  have h1 : x * y ≤ 18446744073709551615 * 18446744073709551615 := Nat.mul_le_mul (by omega) (by omega)
  omega
theorem hilo (n : Nat) : hi n * 18446744073709551616 + lo n = n := by unfold hi lo; omega
theorem of_words {h l : Nat} (hl : l < 18446744073709551616) : hi (h * 18446744073709551616 + l) = h ∧ lo (h * 18446744073709551616 + l) = l := by
  unfold hi lo; omega
theorem of_words4 {a b c d : Nat} (ha : a < 18446744073709551616) (hb : b < 18446744073709551616) (hc : c < 18446744073709551616) (hd : d < 18446744073709551616) :
    w0 (a + b * 18446744073709551616 + c * 340282366920938463463374607431768211456 + d * 6277101735386680763835789423207666416102355444464034512896) = a ∧
    w1 (a + b * 18446744073709551616 + c * 340282366920938463463374607431768211456 + d * 6277101735386680763835789423207666416102355444464034512896) = b ∧
    w2 (a + b * 18446744073709551616 + c * 340282366920938463463374607431768211456 + d * 6277101735386680763835789423207666416102355444464034512896) = c ∧
    w3 (a + b * 18446744073709551616 + c * 340282366920938463463374607431768211456 + d * 6277101735386680763835789423207666416102355444464034512896) = d ∧
    a + b * 18446744073709551616 + c * 340282366920938463463374607431768211456 + d * 6277101735386680763835789423207666416102355444464034512896 < top4 := by
  unfold w0 w1 w2 w3 top4; omega
theorem words4 {n : Nat} (h : n < top4) : w0 n + w1 n * 18446744073709551616 + w2 n * 340282366920938463463374607431768211456 + w3 n * 6277101735386680763835789423207666416102355444464034512896 = n := by
  unfold w0 w1 w2 w3 top4 at *; omega
/-- a number of two words as one of four -/
theorem long_words {n : Nat} (h : n < top2) : w0 n = lo n ∧ w1 n = hi n ∧ w2 n = 0 ∧ w3 n = 0 := by
  unfold w0 w1 w2 w3 lo hi top2 at *; omega
theorem narrow_words {n : Nat} (h : n < top4) : (w2 n = 0 ∧ w3 n = 0 ↔ n < top2) ∧ (n < top2 → hi n = w1 n ∧ lo n = w0 n) := by
  unfold w0 w1 w2 w3 lo hi top2 top4 at *; omega
theorem add_words {a b : Nat} (ha : a < top2) (hb : b < top2) :
    lo (a + b) = sumLo (lo a) (lo b) 0 ∧ (a + b < top2 → hi (a + b) = sumLo (hi a) (hi b) (sumHi (lo a) (lo b) 0) ∧ sumHi (hi a) (hi b) (sumHi (lo a) (lo b) 0) = 0) ∧
    (top2 ≤ a + b → sumHi (hi a) (hi b) (sumHi (lo a) (lo b) 0) = 1) := by
  unfold sumLo sumHi lo hi top2 at *; omega
theorem sub_words {a b : Nat} (ha : a < top2) (hb : b < top2) :
    (b ≤ a → lo (a - b) = difLo (lo a) (lo b) 0 ∧ hi (a - b) = difLo (hi a) (hi b) (difHi (lo a) (lo b) 0) ∧ difHi (hi a) (hi b) (difHi (lo a) (lo b) 0) = 0) ∧
    (a < b → lo (top2 + a - b) = difLo (lo a) (lo b) 0 ∧ hi (top2 + a - b) = difLo (hi a) (hi b) (difHi (lo a) (lo b) 0) ∧ difHi (hi a) (hi b) (difHi (lo a) (lo b) 0) = 1) := by
  unfold difLo difHi lo hi top2 at *
  by_cases h : a % 18446744073709551616 < b % 18446744073709551616 + 0
  · rw [if_pos h]
    by_cases h2 : a / 18446744073709551616 < b / 18446744073709551616 + 1
    · rw [if_pos h2]; omega
    · rw [if_neg h2]; omega
  · rw [if_neg h]
    by_cases h2 : a / 18446744073709551616 < b / 18446744073709551616 + 0
    · rw [if_pos h2]; omega
    · rw [if_neg h2]; omega
/-- the carry into word k of a sum -/
def car (a b : Nat) : Nat → Nat
  | 0 => 0
  | 1 => sumHi (w0 a) (w0 b) 0
  | 2 => sumHi (w1 a) (w1 b) (sumHi (w0 a) (w0 b) 0)
  | 3 => sumHi (w2 a) (w2 b) (sumHi (w1 a) (w1 b) (sumHi (w0 a) (w0 b) 0))
  | _ => sumHi (w3 a) (w3 b) (sumHi (w2 a) (w2 b) (sumHi (w1 a) (w1 b) (sumHi (w0 a) (w0 b) 0)))
/-- the words by their place -/
def wd (n : Nat) : Nat → Nat
  | 0 => w0 n
  | 1 => w1 n
  | 2 => w2 n
  | _ => w3 n
theorem wd_lt (n k : Nat) : wd n k < 18446744073709551616 := by
  unfold wd; split
  · exact w0_lt n
  · exact w1_lt n
  · exact w2_lt n
  · exact w3_lt n
theorem car_le (a b k : Nat) : car a b k ≤ 1 := by
  have h1 := sumHi_le (w0_lt a) (w0_lt b) (Nat.zero_le 1)
  have h2 := sumHi_le (w1_lt a) (w1_lt b) h1
  have h3 := sumHi_le (w2_lt a) (w2_lt b) h2
  have h4 := sumHi_le (w3_lt a) (w3_lt b) h3
  unfold car; split
  · omega
  · exact h1
  · exact h2
  · exact h3
  · exact h4
theorem car_succ {k : Nat} (hk : k < 4) (a b : Nat) : sumHi (wd a k) (wd b k) (car a b k) = car a b (k + 1) := by
  match k, hk with
  | 0, _ => rfl
  | 1, _ => rfl
  | 2, _ => rfl
  | 3, _ => rfl
theorem sumEq (x y c : Nat) : x + y + c = sumLo x y c + sumHi x y c * 18446744073709551616 := by unfold sumLo sumHi; omega
theorem sum_all {a b : Nat} (ha : a < top4) (hb : b < top4) (h : a + b < top4) :
    w0 (a + b) = sumLo (w0 a) (w0 b) 0 ∧ w1 (a + b) = sumLo (w1 a) (w1 b) (car a b 1) ∧ w2 (a + b) = sumLo (w2 a) (w2 b) (car a b 2) ∧ w3 (a + b) = sumLo (w3 a) (w3 b) (car a b 3) := by
  have e0 := sumEq (w0 a) (w0 b) 0
  have e1 := sumEq (w1 a) (w1 b) (car a b 1)
  have e2 := sumEq (w2 a) (w2 b) (car a b 2)
  have e3 := sumEq (w3 a) (w3 b) (car a b 3)
  have c1 : sumHi (w0 a) (w0 b) 0 = car a b 1 := rfl
  have c2 : sumHi (w1 a) (w1 b) (car a b 1) = car a b 2 := rfl
  have c3 : sumHi (w2 a) (w2 b) (car a b 2) = car a b 3 := rfl
  have c4 : sumHi (w3 a) (w3 b) (car a b 3) = car a b 4 := rfl
  rw [c1] at e0
  rw [c2] at e1
  rw [c3] at e2
  rw [c4] at e3
  have l0 := sumLo_lt (w0 a) (w0 b) 0
  have l1 := sumLo_lt (w1 a) (w1 b) (car a b 1)
  have l2 := sumLo_lt (w2 a) (w2 b) (car a b 2)
  have l3 := sumLo_lt (w3 a) (w3 b) (car a b 3)
  have wa := words4 ha
  have wb := words4 hb
  have key := of_words4 l0 l1 l2 l3
  clear c1 c2 c3 c4
  generalize car a b 1 = c1 at *
  generalize car a b 2 = c2 at *
  generalize car a b 3 = c3 at *
  generalize car a b 4 = c4 at *
  generalize sumLo (w0 a) (w0 b) 0 = s0 at *
  generalize sumLo (w1 a) (w1 b) c1 = s1 at *
  generalize sumLo (w2 a) (w2 b) c2 = s2 at *
  generalize sumLo (w3 a) (w3 b) c3 = s3 at *
  obtain ⟨k0, k1, k2, k3, k4⟩ := key
  have hs : a + b = s0 + s1 * 18446744073709551616 + s2 * 340282366920938463463374607431768211456 + s3 * 6277101735386680763835789423207666416102355444464034512896 := by
    clear k0 k1 k2 k3
    unfold top4 at *
    omega
  rw [hs]
  exact ⟨k0, k1, k2, k3⟩
theorem sum_wd {a b k : Nat} (hk : k < 4) (ha : a < top4) (hb : b < top4) (h : a + b < top4) : sumLo (wd a k) (wd b k) (car a b k) = wd (a + b) k := by
  obtain ⟨h0, h1, h2, h3⟩ := sum_all ha hb h
  match k, hk with
  | 0, _ => exact h0.symm
  | 1, _ => exact h1.symm
  | 2, _ => exact h2.symm
  | 3, _ => exact h3.symm
theorem mul_words (a b : Nat) : a * b = lo a * lo b + (hi a * lo b + lo a * hi b) * 18446744073709551616 + hi a * hi b * 340282366920938463463374607431768211456 := by
  have h : (hi a * 18446744073709551616 + lo a) * (hi b * 18446744073709551616 + lo b) = a * b := by rw [hilo, hilo]
  rw [← h, Nat.add_mul, Nat.mul_add, Nat.mul_add]
  have e1 : hi a * 18446744073709551616 * (hi b * 18446744073709551616) = hi a * hi b * 340282366920938463463374607431768211456 := by
    rw [Nat.mul_mul_mul_comm]
  have e2 : hi a * 18446744073709551616 * lo b = hi a * lo b * 18446744073709551616 := Nat.mul_right_comm _ _ _
  have e3 : lo a * (hi b * 18446744073709551616) = lo a * hi b * 18446744073709551616 := (Nat.mul_assoc _ _ _).symm
  rw [e1, e2, e3]
  omega
end Go.Proofs.YtpgfgaloagdogaaDoor.Word
namespace Go.Proofs.YtpgfgaloagdogaaDoor.Est

/-- q * y1 + r = x; q isn't below the true digit of (x * B + z) / (y1 * B + y0), and above it by little. -/
structure Ok (B x z y1 y0 q r : Nat) : Prop where
  eq : q * y1 + r = x
  lo : (x * B + z) / (y1 * B + y0) ≤ q
  hi : q ≤ B + 1

theorem mul_split (q y1 y0 B : Nat) : q * (y1 * B + y0) = q * y1 * B + q * y0 := by
  rw [Nat.mul_add, Nat.mul_assoc]

theorem start {B x z y1 y0 : Nat} (hx : x < y1 * B + y0) (hy0 : y0 < B) (hB : B ≤ 2 * y1) (hz : z < B) : Ok B x z y1 y0 (x / y1) (x % y1) := by
  have h1 : 0 < y1 := by omega
  have hq : x / y1 ≤ B + 1 := by
    rw [← Nat.lt_succ_iff, Nat.div_lt_iff_lt_mul h1]
    have : (B + 1 + 1) * y1 = y1 * B + 2 * y1 := by rw [Nat.mul_comm, Nat.mul_add, Nat.mul_add]; omega
    show x < (B + 1 + 1) * y1
    omega
  refine ⟨by rw [Nat.mul_comm]; exact Nat.div_add_mod x y1, ?_, hq⟩
  have hpos : 0 < y1 * B + y0 := by omega
  rw [← Nat.lt_succ_iff, Nat.div_lt_iff_lt_mul hpos]
  have h2 : x < (x / y1 + 1) * y1 := by
    have := Nat.lt_div_mul_add h1 (a := x); rw [Nat.add_mul, Nat.one_mul]; exact this
  have h3 : (x + 1) * B ≤ (x / y1 + 1) * y1 * B := Nat.mul_le_mul_right _ h2
  have h4 : (x / y1).succ * (y1 * B + y0) = (x / y1 + 1) * y1 * B + (x / y1 + 1) * y0 := mul_split _ _ _ _
  rw [h4]
  rw [Nat.add_mul, Nat.one_mul] at h3
  omega

theorem test {B x z y1 y0 q r : Nat} (h : Ok B x z y1 y0 q r) : r * B + z < q * y0 ↔ x * B + z < q * (y1 * B + y0) := by
  rw [mul_split, ← h.eq, Nat.add_mul]
  omega

theorem lt_of_test {B x z y1 y0 q : Nat} (h : x * B + z < q * (y1 * B + y0)) : (x * B + z) / (y1 * B + y0) < q := by
  have hpos : 0 < y1 * B + y0 := by
    rcases Nat.eq_zero_or_pos (y1 * B + y0) with h0 | h0
    · rw [h0, Nat.mul_zero] at h; omega
    · exact h0
  rwa [Nat.div_lt_iff_lt_mul hpos]

theorem big {B x z y1 y0 q : Nat} (hx : x < y1 * B + y0) (hz : z < B) (hq : B ≤ q) : x * B + z < q * (y1 * B + y0) := by
  have h1 : (x + 1) * B ≤ (y1 * B + y0) * B := Nat.mul_le_mul_right _ hx
  have h2 : B * (y1 * B + y0) ≤ q * (y1 * B + y0) := Nat.mul_le_mul_right _ hq
  rw [Nat.mul_comm] at h2
  rw [Nat.add_mul, Nat.one_mul] at h1
  omega

theorem step {B x z y1 y0 q r : Nat} (h : Ok B x z y1 y0 q r) (ht : x * B + z < q * (y1 * B + y0)) : 1 ≤ q ∧ Ok B x z y1 y0 (q - 1) (r + y1) ∧ q - 1 ≤ B := by
  have h1 : _ + 1 ≤ q := lt_of_test ht
  have h2 := h.hi
  have h3 : 1 ≤ q := Nat.le_trans (Nat.le_add_left 1 _) h1
  refine ⟨h3, ⟨?_, Nat.le_sub_of_add_le h1, by omega⟩, by omega⟩
  have := h.eq
  obtain ⟨k, rfl⟩ : ∃ k, q = k + 1 := ⟨q - 1, by omega⟩
  rw [Nat.add_mul, Nat.one_mul] at this
  simp only [Nat.add_sub_cancel]
  omega

theorem done {B x z y1 y0 q r : Nat} (h : Ok B x z y1 y0 q r) (hp : 0 < y1 * B + y0) (ht : ¬ x * B + z < q * (y1 * B + y0)) : q = (x * B + z) / (y1 * B + y0) := by
  have h1 := h.lo
  have h2 : q ≤ (x * B + z) / (y1 * B + y0) := (Nat.le_div_iff_mul_le hp).2 (by omega)
  omega

theorem over {B x z y1 y0 q r : Nat} (h : Ok B x z y1 y0 q r) (hy0 : y0 < B) (hr : B ≤ r) (hq : q ≤ B) : ¬ x * B + z < q * (y1 * B + y0) := by
  rw [← test h]
  have h1 : q * y0 ≤ B * y0 := Nat.mul_le_mul_right _ hq
  have h2 : B * y0 ≤ B * B := Nat.mul_le_mul_left _ (by omega)
  have h3 : B * B ≤ r * B := Nat.mul_le_mul_right _ hr
  omega
end Go.Proofs.YtpgfgaloagdogaaDoor.Est
namespace Go.Proofs.YtpgfgaloagdogaaDoor.DivM
theorem fin {N Q y V P : Nat} (hP : 0 < P) (h : N * P = Q * (y * P) + V) (hV : V < y * P) : Q = N / y ∧ V / P = N % y := by
  have h1 : Q * y * P ≤ N * P := by rw [h, ← Nat.mul_assoc]; omega
  have h2 : Q * y ≤ N := Nat.le_of_mul_le_mul_right h1 hP
  obtain ⟨v, hv⟩ : ∃ v, N = Q * y + v := ⟨N - Q * y, by omega⟩
  have h3 : V = v * P := by
    have : N * P = Q * y * P + v * P := by rw [hv, Nat.add_mul]
    rw [← Nat.mul_assoc] at h
    omega
  have h4 : v < y := by
    rw [h3] at hV
    exact Nat.lt_of_mul_lt_mul_right hV
  have hy : 0 < y := by omega
  rw [h3, Nat.mul_div_cancel _ hP, hv]
  constructor
  · rw [Nat.mul_comm, Nat.mul_add_div hy, Nat.div_eq_of_lt h4]; omega
  · rw [Nat.mul_comm, Nat.mul_add_mod, Nat.mod_eq_of_lt h4]
/-- what s bits of shift do to the two words h, l and the divisor y -/
theorem norm {h l y s : Nat} (hs : s ≤ 63) (hy1 : 2 ^ (63 - s) ≤ y) (hy2 : y < 2 ^ (64 - s)) (hh : h < y) (hl : l < 18446744073709551616) :
    9223372036854775808 ≤ y * 2 ^ s ∧ y * 2 ^ s < 18446744073709551616 ∧ h * 2 ^ s < 18446744073709551616 ∧ l / 2 ^ (64 - s) < 2 ^ s ∧
    h * 2 ^ s + l / 2 ^ (64 - s) < y * 2 ^ s ∧ (h * 18446744073709551616 + l) * 2 ^ s = (h * 2 ^ s + l / 2 ^ (64 - s)) * 18446744073709551616 + l * 2 ^ s % 18446744073709551616 := by
  have e64 : 2 ^ (64 - s) * 2 ^ s = 18446744073709551616 := by rw [← Nat.pow_add, show 64 - s + s = 64 by omega]
  have e63 : 2 ^ (63 - s) * 2 ^ s = 9223372036854775808 := by rw [← Nat.pow_add, show 63 - s + s = 63 by omega]
  have hp : 0 < 2 ^ s := Nat.two_pow_pos s
  have hp2 : 0 < 2 ^ (64 - s) := Nat.two_pow_pos _
  have a1 : 9223372036854775808 ≤ y * 2 ^ s := by rw [← e63]; exact Nat.mul_le_mul_right _ hy1
  have a2 : y * 2 ^ s < 18446744073709551616 := by rw [← e64]; exact Nat.mul_lt_mul_of_pos_right hy2 hp
  have a3 : (h + 1) * 2 ^ s ≤ y * 2 ^ s := Nat.mul_le_mul_right _ hh
  rw [Nat.add_mul, Nat.one_mul] at a3
  have a4 : l / 2 ^ (64 - s) < 2 ^ s := by
    rw [Nat.div_lt_iff_lt_mul hp2, Nat.mul_comm, e64]; exact hl
  refine ⟨a1, a2, by omega, a4, by omega, ?_⟩
  have a5 : l * 2 ^ s = l / 2 ^ (64 - s) * 18446744073709551616 + l % 2 ^ (64 - s) * 2 ^ s := by
    have := Nat.div_add_mod l (2 ^ (64 - s))
    calc l * 2 ^ s = (2 ^ (64 - s) * (l / 2 ^ (64 - s)) + l % 2 ^ (64 - s)) * 2 ^ s := by rw [this]
      _ = _ := by rw [Nat.add_mul, Nat.mul_right_comm, e64, Nat.mul_comm 18446744073709551616]
  have a6 : l % 2 ^ (64 - s) * 2 ^ s < 18446744073709551616 := by
    rw [← e64]; exact Nat.mul_lt_mul_of_pos_right (Nat.mod_lt _ hp2) hp
  have a7 : l * 2 ^ s % 18446744073709551616 = l % 2 ^ (64 - s) * 2 ^ s := by rw [a5]; omega
  rw [a7, Nat.add_mul, Nat.add_mul, a5, Nat.mul_right_comm h]
  omega
/-- two halves of a quotient -/
theorem halvesK {X z1 z0 Y q u q0 v K : Nat} (h1 : X * K + z1 = q * Y + u) (h2 : u * K + z0 = q0 * Y + v) :
    X * K * K + (z1 * K + z0) = (q * K + q0) * Y + v := by
  have e1 : (X * K + z1) * K = (q * Y + u) * K := by rw [h1]
  have e2 : (q * K + q0) * Y = q * Y * K + q0 * Y := by rw [Nat.add_mul, Nat.mul_right_comm q]
  rw [Nat.add_mul, Nat.add_mul] at e1
  rw [e2]
  omega
theorem halves {X z1 z0 Y q u q0 v : Nat} (h1 : X * 4294967296 + z1 = q * Y + u) (h2 : u * 4294967296 + z0 = q0 * Y + v) :
    X * 18446744073709551616 + (z1 * 4294967296 + z0) = (q * 4294967296 + q0) * Y + v := by
  have h := halvesK h1 h2
  rw [Nat.mul_assoc X, show 4294967296 * 4294967296 = 18446744073709551616 from rfl] at h
  exact h
/-- a difference modulo the word is the true one where that is a word -/
theorem wrap_rest {a p z u : Nat} (h : a + z = p + u) (hu : u < 18446744073709551616) : ((((a % 18446744073709551616 : Nat) : Int) + (z : Int) - ((p % 18446744073709551616 : Nat) : Int)) % 18446744073709551616) = (u : Int) := by omega
theorem quo_le {X z Y : Nat} (hz : z < 4294967296) (hX : X < Y) : (X * 4294967296 + z) / Y < 4294967296 := by
  rw [Nat.div_lt_iff_lt_mul (by omega)]
  have : (X + 1) * 4294967296 ≤ Y * 4294967296 := Nat.mul_le_mul_right _ hX
  rw [Nat.mul_comm]
  omega
end Go.Proofs.YtpgfgaloagdogaaDoor.DivM
namespace Go.Proofs.YtpgfgaloagdogaaDoor.DivP
theorem shl_split {x s : Nat} (hs : s ≤ 64) : x * 2 ^ s = x / 2 ^ (64 - s) * 18446744073709551616 + x * 2 ^ s % 18446744073709551616 := by
  have e : 2 ^ (64 - s) * 2 ^ s = 18446744073709551616 := by rw [← Nat.pow_add, show 64 - s + s = 64 by omega]
  have h : x * 2 ^ s / 18446744073709551616 = x / 2 ^ (64 - s) := by
    rw [← e]; exact Nat.mul_div_mul_right _ _ (Nat.two_pow_pos s)
  rw [← h]
  exact (Nat.div_add_mod' _ _).symm
theorem shr_lt {x s : Nat} (hs : s ≤ 64) (hx : x < 18446744073709551616) : x / 2 ^ (64 - s) < 2 ^ s := by
  have e : 2 ^ (64 - s) * 2 ^ s = 18446744073709551616 := by rw [← Nat.pow_add, show 64 - s + s = 64 by omega]
  rw [Nat.div_lt_iff_lt_mul (Nat.two_pow_pos _), Nat.mul_comm, e]; exact hx
theorem dist {n a0 a1 a2 a3 K K2 K3 P : Nat} (hn : a0 + a1 * K + a2 * K2 + a3 * K3 = n) : n * P = a0 * P + a1 * P * K + a2 * P * K2 + a3 * P * K3 := by
  subst hn
  rw [Nat.add_mul, Nat.add_mul, Nat.add_mul, Nat.mul_right_comm a1, Nat.mul_right_comm a2, Nat.mul_right_comm a3]
/-- a number of four words, shifted, in five words -/
theorem five {n a0 a1 a2 a3 s : Nat} (hs : s ≤ 64)
    (hn : a0 + a1 * 18446744073709551616 + a2 * 340282366920938463463374607431768211456 + a3 * 6277101735386680763835789423207666416102355444464034512896 = n) :
    n * 2 ^ s = (a3 / 2 ^ (64 - s) * 18446744073709551616 + (a3 * 2 ^ s % 18446744073709551616 + a2 / 2 ^ (64 - s))) * 6277101735386680763835789423207666416102355444464034512896 +
      (a2 * 2 ^ s % 18446744073709551616 + a1 / 2 ^ (64 - s)) * 340282366920938463463374607431768211456 + (a1 * 2 ^ s % 18446744073709551616 + a0 / 2 ^ (64 - s)) * 18446744073709551616 + a0 * 2 ^ s % 18446744073709551616 := by
  have h := dist (P := 2 ^ s) hn
  have s0 := shl_split (x := a0) hs
  have s1 := shl_split (x := a1) hs
  have s2 := shl_split (x := a2) hs
  have s3 := shl_split (x := a3) hs
  revert h s0 s1 s2 s3
  generalize a0 * 2 ^ s % 18446744073709551616 = r0
  generalize a1 * 2 ^ s % 18446744073709551616 = r1
  generalize a2 * 2 ^ s % 18446744073709551616 = r2
  generalize a3 * 2 ^ s % 18446744073709551616 = r3
  generalize a0 / 2 ^ (64 - s) = c0
  generalize a1 / 2 ^ (64 - s) = c1
  generalize a2 / 2 ^ (64 - s) = c2
  generalize a3 / 2 ^ (64 - s) = c3
  generalize a0 * 2 ^ s = p0
  generalize a1 * 2 ^ s = p1
  generalize a2 * 2 ^ s = p2
  generalize a3 * 2 ^ s = p3
  generalize n * 2 ^ s = p
  intro h s0 s1 s2 s3
  clear hn
  omega
theorem chain {N D K K2 K3 T0 T1 T2 T3 m2 m1 m0 q2 q1 q0 : Nat} (hK2 : K2 = K * K) (hK3 : K3 = K * K * K) (hn : N = T0 * K3 + m2 * K2 + m1 * K + m0)
    (h2 : T0 * K + m2 = q2 * D + T1) (h1 : T1 * K + m1 = q1 * D + T2) (h0 : T2 * K + m0 = q0 * D + T3) : N = (q0 + q1 * K + q2 * K2) * D + T3 := by
  subst hK2 hK3
  have e2 : (T0 * K + m2) * (K * K) = q2 * D * (K * K) + T1 * K * K := by rw [h2, Nat.add_mul, Nat.mul_assoc T1]
  have e1 : (T1 * K + m1) * K = q1 * D * K + T2 * K := by rw [h1, Nat.add_mul]
  have e3 : T0 * (K * K * K) = T0 * K * (K * K) := by rw [Nat.mul_assoc K, Nat.mul_assoc T0]
  have g : (q0 + q1 * K + q2 * (K * K)) * D = q0 * D + q1 * D * K + q2 * D * (K * K) := by
    rw [Nat.add_mul, Nat.add_mul, Nat.mul_right_comm q1, Nat.mul_right_comm q2]
  rw [Nat.add_mul] at e2 e1
  rw [g, hn, e3]
  omega
/-- the words of a number of two words divided by a power of two -/
theorem shr_words {V s : Nat} (hs : s ≤ 64) :
    V / 2 ^ s / 18446744073709551616 = V / 18446744073709551616 / 2 ^ s ∧
    V / 2 ^ s % 18446744073709551616 = V % 18446744073709551616 / 2 ^ s + V / 18446744073709551616 * 2 ^ (64 - s) % 18446744073709551616 := by
  have e : 2 ^ s * 2 ^ (64 - s) = 18446744073709551616 := by rw [← Nat.pow_add, show s + (64 - s) = 64 by omega]
  have hp : 0 < 2 ^ s := Nat.two_pow_pos s
  have h1 : V / 2 ^ s = V / 18446744073709551616 * 2 ^ (64 - s) + V % 18446744073709551616 / 2 ^ s := by
    have h := Nat.div_add_mod' V 18446744073709551616
    have h3 : V = V % 18446744073709551616 + 2 ^ s * (V / 18446744073709551616 * 2 ^ (64 - s)) := by
      rw [Nat.mul_left_comm, e]; omega
    have h4 : V / 2 ^ s = (V % 18446744073709551616 + 2 ^ s * (V / 18446744073709551616 * 2 ^ (64 - s))) / 2 ^ s := by rw [← h3]
    rw [h4, Nat.add_mul_div_left _ _ hp]; omega
  have h2 : V % 18446744073709551616 / 2 ^ s < 2 ^ (64 - s) := by
    rw [Nat.div_lt_iff_lt_mul hp, Nat.mul_comm, e]; exact Nat.mod_lt _ (by decide)
  constructor
  · rw [Nat.div_div_eq_div_mul, Nat.div_div_eq_div_mul, Nat.mul_comm]
  · have h5 := shl_split (x := V / 18446744073709551616) (s := 64 - s) (by omega)
    rw [show 64 - (64 - s) = s by omega] at h5
    rw [h1]
    have h6 : V / 18446744073709551616 * 2 ^ (64 - s) % 18446744073709551616 % 2 ^ (64 - s) = 0 := by
      have hd : 2 ^ (64 - s) ∣ 18446744073709551616 := ⟨2 ^ s, by rw [Nat.mul_comm, e]⟩
      rw [Nat.mod_mod_of_dvd _ hd, Nat.mul_mod_left]
    have h7 : V / 18446744073709551616 * 2 ^ (64 - s) % 18446744073709551616 + 2 ^ (64 - s) ≤ 18446744073709551616 := by
      have h8 : V / 18446744073709551616 * 2 ^ (64 - s) % 18446744073709551616 < 18446744073709551616 := Nat.mod_lt _ (by decide)
      generalize V / 18446744073709551616 * 2 ^ (64 - s) % 18446744073709551616 = a at *
      obtain ⟨b, hb⟩ := Nat.dvd_of_mod_eq_zero h6
      rw [hb, ← e, Nat.mul_comm (2 ^ s)] at h8
      have h9 : b < 2 ^ s := Nat.lt_of_mul_lt_mul_left h8
      have h10 : 2 ^ (64 - s) * (b + 1) ≤ 2 ^ (64 - s) * 2 ^ s := Nat.mul_le_mul_left _ h9
      rw [Nat.mul_add, Nat.mul_one, ← hb, Nat.mul_comm (2 ^ (64 - s)) (2 ^ s), e] at h10
      exact h10
    generalize V / 18446744073709551616 * 2 ^ (64 - s) = a at *
    generalize V % 18446744073709551616 / 2 ^ s = b at *
    generalize 2 ^ (64 - s) = c at *
    omega
end Go.Proofs.YtpgfgaloagdogaaDoor.DivP
namespace Go.Proofs.YtpgfgaloagdogaaDoor.Num

def dg : Nat → List Nat
  | 0 => []
  | n + 1 => ((n + 1) % 10) :: dg ((n + 1) / 10)
termination_by n => n
decreasing_by omega

def lv : List Nat → Nat
  | [] => 0
  | d :: l => d + 10 * lv l

theorem dg_zero : dg 0 = [] := by simp [dg]
theorem dg_pos {n : Nat} (h : 0 < n) : dg n = n % 10 :: dg (n / 10) := by
  match n, h with
  | n + 1, _ => rw [dg]
theorem lv_dg (n : Nat) : lv (dg n) = n := by
  induction n using Nat.strongRecOn with
  | _ n ih =>
    rcases Nat.eq_zero_or_pos n with h | h
    · subst h; simp [dg_zero, lv]
    · rw [dg_pos h, lv, ih (n / 10) (by omega)]; omega
theorem dg_lt (n : Nat) : ∀ d ∈ dg n, d < 10 := by
  induction n using Nat.strongRecOn with
  | _ n ih =>
    rcases Nat.eq_zero_or_pos n with h | h
    · subst h; simp [dg_zero]
    · rw [dg_pos h]
      intro d hd
      rcases List.mem_cons.1 hd with rfl | hd
      · omega
      · exact ih (n / 10) (by omega) d hd
theorem div_pow_succ (n j : Nat) : n / 10 ^ (j + 1) = n / 10 ^ j / 10 := by
  rw [Nat.pow_succ, Nat.div_div_eq_div_mul]
theorem div_pow_succ' (n j : Nat) : n / 10 ^ (j + 1) = n / 10 / 10 ^ j := by
  rw [Nat.pow_succ, Nat.mul_comm, Nat.div_div_eq_div_mul]
theorem dg_len_le {n k : Nat} : (dg n).length ≤ k ↔ n < 10 ^ k := by
  induction k generalizing n with
  | zero =>
    rcases Nat.eq_zero_or_pos n with h | h
    · subst h; simp [dg_zero]
    · rw [dg_pos h]; simp; omega
  | succ k ih =>
    rcases Nat.eq_zero_or_pos n with h | h
    · subst h; simp [dg_zero, Nat.pow_pos]
    · rw [dg_pos h, List.length_cons, Nat.add_le_add_iff_right, ih, Nat.pow_succ]; omega
theorem dg_len_lt {n k : Nat} : k < (dg n).length ↔ 10 ^ k ≤ n := by
  rw [← Nat.not_le, dg_len_le, Nat.not_lt]
theorem dg_getElem? (n j : Nat) : (dg n)[j]? = if 10 ^ j ≤ n then some (n / 10 ^ j % 10) else none := by
  induction j generalizing n with
  | zero =>
    rcases Nat.eq_zero_or_pos n with h | h
    · subst h; simp [dg_zero]
    · rw [dg_pos h]; simp; omega
  | succ j ih =>
    rcases Nat.eq_zero_or_pos n with h | h
    · subst h; simp [dg_zero]
    · rw [dg_pos h, List.getElem?_cons_succ, ih, div_pow_succ']
      have e : 10 ^ j ≤ n / 10 ↔ 10 ^ (j + 1) ≤ n := by rw [Nat.pow_succ]; omega
      simp only [e]
theorem dg_drop (n k : Nat) : (dg n).drop k = dg (n / 10 ^ k) := by
  induction k generalizing n with
  | zero => simp
  | succ k ih =>
    rcases Nat.eq_zero_or_pos n with h | h
    · subst h; simp [dg_zero]
    · rw [dg_pos h, List.drop_succ_cons, ih, div_pow_succ']
theorem lv_append (a b : List Nat) : lv (a ++ b) = lv a + 10 ^ a.length * lv b := by
  induction a with
  | nil => simp [lv]
  | cons d l ih =>
    simp only [List.cons_append, lv, ih, List.length_cons, Nat.pow_succ]
    rw [Nat.mul_add, Nat.mul_comm (10 ^ l.length) 10, Nat.mul_assoc]; omega
theorem lv_zeros (k : Nat) : lv (List.replicate k 0) = 0 := by
  induction k with
  | zero => rfl
  | succ k ih => rw [List.replicate_succ, lv, ih]
theorem lv_lt {l : List Nat} (h : ∀ d ∈ l, d < 10) : lv l < 10 ^ l.length := by
  induction l with
  | nil => simp [lv]
  | cons d l ih =>
    have h1 := h d (by simp)
    have h2 := ih fun x hx => h x (by simp [hx])
    rw [lv, List.length_cons, Nat.pow_succ]; omega
/-- the numbers below ten at the places below k -/
def pad (k n : Nat) : List Nat := (List.range k).map fun j => n / 10 ^ j % 10
theorem pad_len (k n : Nat) : (pad k n).length = k := by simp [pad]
theorem pad_zero (n : Nat) : pad 0 n = [] := rfl
theorem pad_succ (k n : Nat) : pad (k + 1) n = pad k n ++ [n / 10 ^ k % 10] := by
  simp [pad, List.range_succ]
theorem pad_lt (k n : Nat) : ∀ d ∈ pad k n, d < 10 := by
  intro d hd
  obtain ⟨j, _, rfl⟩ := List.mem_map.1 hd
  omega
theorem pad_getElem? (k n j : Nat) : (pad k n)[j]? = if j < k then some (n / 10 ^ j % 10) else none := by
  unfold pad
  rw [List.getElem?_map]
  by_cases h : j < k
  · simp [h]
  · rw [if_neg h, List.getElem?_eq_none (by simp; omega)]; rfl
theorem lv_pad (k n : Nat) : lv (pad k n) = n % 10 ^ k := by
  induction k with
  | zero => simp [pad, lv]; omega
  | succ k ih =>
    rw [pad_succ, lv_append, ih, pad_len, lv, lv, Nat.mul_zero, Nat.add_zero, Nat.pow_succ, Nat.mod_mul]
/-- a list of digits whose last one isn't nought is the digits of its number -/
theorem eq_dg {l : List Nat} (h : ∀ d ∈ l, d < 10) (hl : ∀ d, l.getLast? = some d → d ≠ 0) : l = dg (lv l) := by
  induction l with
  | nil => simp [lv, dg_zero]
  | cons d l ih =>
    have h1 := h d (by simp)
    have h2 := ih (fun x hx => h x (by simp [hx]))
    rcases l with _ | ⟨e, l⟩
    · have h3 := hl d rfl
      have hp : 0 < lv [d] := by simp [lv]; omega
      rw [dg_pos hp]
      simp only [lv]
      have e1 : (d + 10 * 0) % 10 = d := by omega
      have e2 : (d + 10 * 0) / 10 = 0 := by omega
      rw [e1, e2, dg_zero]
    · have h3 := h2 (fun x hx => hl x (by simpa using hx))
      have hp : 0 < lv (e :: l) := by
        rcases Nat.eq_zero_or_pos (lv (e :: l)) with h0 | h0
        · rw [h0, dg_zero] at h3; cases h3
        · exact h0
      have hq : 0 < lv (d :: e :: l) := by rw [lv]; omega
      rw [dg_pos hq]
      have e1 : lv (d :: e :: l) % 10 = d := by rw [lv]; omega
      have e2 : lv (d :: e :: l) / 10 = lv (e :: l) := by rw [lv]; omega
      rw [e1, e2, ← h3]
theorem dg_pad {n k : Nat} (h : (dg n).length = k) : dg n = pad k n := by
  apply List.ext_getElem?
  intro j
  rw [dg_getElem?, pad_getElem?]
  have e : 10 ^ j ≤ n ↔ j < k := by rw [← h, dg_len_lt]
  simp only [e]
theorem dg_last_ne {n d : Nat} (h : (dg n).getLast? = some d) : d ≠ 0 := by
  rw [List.getLast?_eq_getElem?, dg_getElem?] at h
  split at h
  · rename_i h1
    have h2 : n < 10 ^ (dg n).length := dg_len_le.1 (Nat.le_refl _)
    have h3 : 0 < (dg n).length := by
      rcases Nat.eq_zero_or_pos (dg n).length with h0 | h0
      · rw [h0] at h1 h2; simp at h1 h2; omega
      · exact h0
    obtain ⟨k, hk⟩ : ∃ k, (dg n).length = k + 1 := ⟨(dg n).length - 1, by omega⟩
    rw [hk] at h1 h2 h
    simp only [Nat.add_sub_cancel] at h1 h
    injection h with h
    have h4 : n / 10 ^ k < 10 := by
      rw [Nat.div_lt_iff_lt_mul (Nat.pow_pos (by decide))]; rw [Nat.pow_succ] at h2; omega
    have h5 : 1 ≤ n / 10 ^ k := (Nat.le_div_iff_mul_le (Nat.pow_pos (by decide))).2 (by omega)
    omega
  · cases h
theorem dg_shift {n : Nat} (h : 0 < n) (k : Nat) : List.replicate k 0 ++ dg n = dg (n * 10 ^ k) := by
  have hl : lv (List.replicate k 0 ++ dg n) = n * 10 ^ k := by
    rw [lv_append, lv_zeros, lv_dg, List.length_replicate, Nat.zero_add, Nat.mul_comm]
  rw [← hl]
  apply eq_dg
  · intro d hd
    rcases List.mem_append.1 hd with hd | hd
    · have := List.eq_of_mem_replicate hd; omega
    · exact dg_lt n d hd
  · intro d hd
    have hne : dg n ≠ [] := by rw [dg_pos h]; simp
    rw [List.getLast?_append] at hd
    cases hg : (dg n).getLast? with
    | none => exact absurd (List.getLast?_eq_none_iff.1 hg) hne
    | some x =>
      rw [hg] at hd
      have : x = d := by simpa using hd
      subst this
      exact dg_last_ne hg
end Go.Proofs.YtpgfgaloagdogaaDoor.Num
namespace Txt
open Go Go.Lib
/-- a character of a text -/
def okI (r : Int) : Bool := decide (r = 9 ∨ r = 10 ∨ r = 13 ∨ (32 ≤ r ∧ r ≤ 55295) ∨ (57344 ≤ r ∧ r ≤ 65533) ∨ (65536 ≤ r ∧ r ≤ 1114111))
/-- a character of a text begins at a place -/
def good (s : ByteArray) (i : Nat) : Bool := !decide ((Utf8.decode s i).1 = 65533 ∧ (Utf8.decode s i).2 = 1) && okI ((Utf8.decode s i).1 : Int)
def textFrom (s : ByteArray) : Nat → Nat → Bool
  | 0, _ => true
  | f + 1, pos => if pos < s.size then good s pos && textFrom s f (pos + (Utf8.decode s pos).2) else true
def isText (s : ByteArray) : Bool := textFrom s s.size 0
theorem textFrom_end (s : ByteArray) (f pos : Nat) (h : ¬ pos < s.size) : textFrom s f pos = true := by
  cases f with
  | zero => rfl
  | succ f => simp [textFrom, h]
theorem textFrom_step (s : ByteArray) (f pos : Nat) (h : pos < s.size) : textFrom s (f + 1) pos = (good s pos && textFrom s f (pos + (Utf8.decode s pos).2)) := by simp [textFrom, h]
theorem width_pos (s : ByteArray) (pos : Nat) : 1 ≤ (Utf8.decode s pos).2 := Lib.width_pos s pos
theorem width_in (s : ByteArray) (pos : Nat) (h : pos < s.size) : pos + (Utf8.decode s pos).2 ≤ s.size := by
  have : (Utf8.decode s pos).2 ≤ s.size - pos := by rw [decode_at]; exact decodeN_width_le _ _ _ _ _ (by omega)
  omega
/-- enough fuel is enough -/
theorem textFrom_fuel (s : ByteArray) : ∀ (f g pos : Nat), s.size ≤ pos + f → s.size ≤ pos + g → textFrom s f pos = textFrom s g pos
  | 0, g, pos, hf, _ => by rw [textFrom_end s 0 pos (by omega), textFrom_end s g pos (by omega)]
  | f + 1, 0, pos, _, hg => by rw [textFrom_end s _ pos (by omega), textFrom_end s 0 pos (by omega)]
  | f + 1, g + 1, pos, hf, hg => by
    by_cases h : pos < s.size
    · have := width_pos s pos
      rw [textFrom_step s f pos h, textFrom_step s g pos h, textFrom_fuel s f g _ (by omega) (by omega)]
    · rw [textFrom_end s _ pos h, textFrom_end s _ pos h]
theorem valid_of_text (s : ByteArray) : ∀ (f pos : Nat), s.size ≤ pos + f → textFrom s f pos = true → validD (s.data.toList.drop pos) = true
  | 0, pos, hf, _ => by
    rw [List.drop_eq_nil_of_le (by simpa using hf)]
    rfl
  | f + 1, pos, hf, h => by
    by_cases hp : pos < s.size
    · rw [textFrom_step s f pos hp, Bool.and_eq_true] at h
      have hw := width_pos s pos
      have ih := valid_of_text s f _ (by omega) h.2
      have hne : s.data.toList.drop pos ≠ [] := by simp; omega
      rw [validD_step _ hne, decodeL_drop, List.drop_drop]
      have hg := h.1
      unfold good at hg
      rw [Bool.and_eq_true, Bool.not_eq_true', decide_eq_false_iff_not] at hg
      rw [if_neg hg.1]
      exact ih
    · rw [List.drop_eq_nil_of_le (by simp; omega)]
      rfl
theorem not_text_of_invalid (s : ByteArray) (h : validD s.data.toList = false) : isText s = false := by
  cases ht : isText s with
  | false => rfl
  | true =>
    have := valid_of_text s s.size 0 (by omega) ht
    rw [List.drop_zero] at this
    rw [this] at h
    cases h
/-- of a valid string what is left is valid, and no character is a broken one -/
theorem valid_at (s : ByteArray) (pos : Nat) (hp : pos < s.size) (h : validD (s.data.toList.drop pos) = true) :
    ¬ ((Utf8.decode s pos).1 = 65533 ∧ (Utf8.decode s pos).2 = 1) ∧ validD (s.data.toList.drop (pos + (Utf8.decode s pos).2)) = true := by
  have hne : s.data.toList.drop pos ≠ [] := by simp; omega
  rw [validD_step _ hne, decodeL_drop, List.drop_drop] at h
  by_cases hb : (Utf8.decode s pos).1 = 65533 ∧ (Utf8.decode s pos).2 = 1
  · rw [if_pos hb] at h; cases h
  · rw [if_neg hb] at h; exact ⟨hb, h⟩
theorem good_of_valid (s : ByteArray) (pos : Nat) (h : ¬ ((Utf8.decode s pos).1 = 65533 ∧ (Utf8.decode s pos).2 = 1)) : good s pos = okI ((Utf8.decode s pos).1 : Int) := by
  unfold good
  rw [decide_eq_false h]
  rfl
/-- what the document's decoder answers, by the bytes' numbers -/
def Rel (s : ByteArray) (i : Nat) (c n : Int) (ok : Bool) : Prop :=
  (ok = true ∧ okI c = true ∧ good s i = true ∧ c = ((Utf8.decode s i).1 : Int) ∧ n = ((Utf8.decode s i).2 : Int)) ∨ (good s i = false ∧ (ok = false ∨ okI c = false))
theorem okI_big {c : Int} (h : 1114111 < c) : okI c = false := by unfold okI; exact decide_eq_false (by omega)
theorem okI_sur {c : Int} (h : 55296 ≤ c) (h' : c < 57344) : okI c = false := by unfold okI; exact decide_eq_false (by omega)
/-- the decoder's answer c, n, ok and the model's own agree -/
theorem rel_of (s : ByteArray) (i : Nat) (c n : Int) (ok : Bool) (D : Nat × Nat) (hD : Utf8.decode s i = D) (h : (ok = true ∧ c = (D.1 : Int) ∧ n = (D.2 : Int) ∧ ¬ (D.1 = 65533 ∧ D.2 = 1)) ∨ (D = (65533, 1) ∧ (ok = false ∨ 1114111 < c ∨ (55296 ≤ c ∧ c < 57344)))) : Rel s i c n ok := by
  unfold Rel good
  rw [hD]
  rcases h with ⟨rfl, rfl, rfl, h⟩ | ⟨rfl, h⟩
  · rw [decide_eq_false h]
    cases hk : okI (D.1 : Int) with
    | true => exact .inl ⟨rfl, rfl, rfl, rfl, rfl⟩
    | false => exact .inr ⟨rfl, .inr rfl⟩
  · refine .inr ⟨rfl, ?_⟩
    rcases h with h | h | h
    · exact .inl h
    · exact .inr (okI_big h)
    · exact .inr (okI_sur h.1 h.2)
theorem get_of (s : ByteArray) (i : Nat) (h : i < s.size) : s.get! i = s[i] := by
  cases s with
  | mk d => exact getElem!_pos d i h
end Txt
namespace Txt
open Go Go.Lib
/-- so many characters stand between two placesT -/
inductive Path (s : ByteArray) : Nat → Nat → Nat → Prop
  | zero (p : Nat) : Path s p 0 p
  | step {p n q : Nat} (hp : p < s.size) (hg : good s p = true) (h : Path s (p + (Utf8.decode s p).2) n q) : Path s p (n + 1) q
theorem Path.le {s : ByteArray} {p n q : Nat} (h : Path s p n q) : p ≤ q := by
  induction h with
  | zero p => exact Nat.le_refl p
  | step hp hg h ih => omega
theorem Path.len {s : ByteArray} {p n q : Nat} (h : Path s p n q) : n ≤ q - p := by
  induction h with
  | zero p => omega
  | @step p n q hp hg h ih => have := width_pos s p; have := h.le; omega
theorem Path.append {s : ByteArray} {p n q m r : Nat} (h : Path s p n q) (g : Path s q m r) : Path s p (n + m) r := by
  induction h with
  | zero p => rw [Nat.zero_add]; exact g
  | @step p n q hp hg h ih => rw [Nat.add_right_comm]; exact .step hp hg (ih g)
theorem Path.fn {s : ByteArray} {p n q : Nat} (h : Path s p n q) : ∀ r, Path s p n r → q = r := by
  induction h with
  | zero p => intro r g; cases g; rfl
  | @step p n q hp hg h ih => intro r g; cases g with
    | step hp2 hg2 g2 => exact ih r g2
theorem path_of_text (s : ByteArray) : ∀ (f pos : Nat), s.size ≤ pos + f → pos ≤ s.size → textFrom s f pos = true → ∃ n, Path s pos n s.size ∧ runeCountFrom s f pos = n
  | 0, pos, hf, hp, _ => by
    obtain rfl : pos = s.size := by omega
    exact ⟨0, .zero _, rfl⟩
  | f + 1, pos, hf, hp, h => by
    by_cases hlt : pos < s.size
    · rw [textFrom_step s f pos hlt, Bool.and_eq_true] at h
      have hw := width_pos s pos
      have hi := width_in s pos hlt
      obtain ⟨n, h1, h2⟩ := path_of_text s f _ (by omega) hi h.2
      refine ⟨n + 1, .step hlt h.1 h1, ?_⟩
      simp only [runeCountFrom, if_pos hlt, h2]
      omega
    · obtain rfl : pos = s.size := by omega
      exact ⟨0, .zero _, runeCountFrom_end s _ _ hlt⟩
theorem Path.text {s : ByteArray} {p n q : Nat} (h : Path s p n q) : q = s.size → ∀ f, s.size ≤ p + f → textFrom s f p = true ∧ runeCountFrom s f p = n := by
  induction h with
  | zero p =>
    intro e f hf
    exact ⟨textFrom_end s f p (by omega), runeCountFrom_end s f p (by omega)⟩
  | @step p n q hp hg h ih =>
    intro e f hf
    have hw := width_pos s p
    cases f with
    | zero => omega
    | succ f =>
      obtain ⟨h1, h2⟩ := ih e f (by omega)
      refine ⟨by rw [textFrom_step s f p hp, hg, h1]; rfl, ?_⟩
      simp only [runeCountFrom, if_pos hp, h2]
      omega
theorem Path.split {s : ByteArray} {p N q : Nat} (h : Path s p N q) : ∀ n, n ≤ N → ∃ r, Path s p n r ∧ Path s r (N - n) q := by
  induction h with
  | zero p => intro n hn; obtain rfl : n = 0 := by omega
              exact ⟨p, .zero p, .zero p⟩
  | @step p N q hp hg h ih =>
    intro n hn
    cases n with
    | zero => exact ⟨p, .zero p, .step hp hg h⟩
    | succ n =>
      obtain ⟨r, h1, h2⟩ := ih n (by omega)
      exact ⟨r, .step hp hg h1, by rw [Nat.add_sub_add_right]; exact h2⟩
/-- the place behind so many characters; the end, if there are no more -/
def placeFrom (s : ByteArray) : Nat → Nat → Nat → Nat
  | 0, _, _ => s.size
  | f + 1, pos, n => if pos < s.size then (if n = 0 then pos else placeFrom s f (pos + (Utf8.decode s pos).2) (n - 1)) else s.size
def place (s : ByteArray) (n : Nat) : Nat := placeFrom s s.size 0 n
theorem placeFrom_end (s : ByteArray) (f pos n : Nat) (h : ¬ pos < s.size) : placeFrom s f pos n = s.size := by
  cases f with
  | zero => rfl
  | succ f => simp [placeFrom, h]
theorem placeFrom_le (s : ByteArray) : ∀ (f pos n : Nat), placeFrom s f pos n ≤ s.size
  | 0, _, _ => Nat.le_refl _
  | f + 1, pos, n => by
    unfold placeFrom
    split
    · split
      · omega
      · exact placeFrom_le s f _ _
    · exact Nat.le_refl _
theorem place_le (s : ByteArray) (n : Nat) : place s n ≤ s.size := placeFrom_le s _ _ _
theorem Path.place {s : ByteArray} {p n q : Nat} (h : Path s p n q) : ∀ f, s.size ≤ p + f → q ≤ s.size → placeFrom s f p n = q := by
  induction h with
  | zero p =>
    intro f hf hq
    cases f with
    | zero => unfold placeFrom; omega
    | succ f =>
      unfold placeFrom
      split
      · rfl
      · omega
  | @step p n q hp hg h ih =>
    intro f hf hq
    have hw := width_pos s p
    cases f with
    | zero => omega
    | succ f =>
      unfold placeFrom
      rw [if_pos hp, if_neg (by omega), Nat.add_sub_cancel]
      exact ih f (by omega) hq
/-- with characters to spare the place is the end -/
theorem placeFrom_big (s : ByteArray) : ∀ (f pos n : Nat), s.size ≤ pos + f → runeCountFrom s f pos ≤ n → placeFrom s f pos n = s.size
  | 0, _, _, _, _ => rfl
  | f + 1, pos, n, hf, h => by
    unfold placeFrom
    split
    next hp =>
      have hw := width_pos s pos
      simp only [runeCountFrom, if_pos hp] at h
      rw [if_neg (by omega)]
      exact placeFrom_big s f _ _ (by omega) (by omega)
    · rfl
theorem ext_data (s : ByteArray) (a b : Nat) : (s.extract a b).data.toList = (s.data.toList.take b).drop a := by
  rw [Lib.extract_data, List.drop_take]
theorem decode_suffix (s : ByteArray) (p k : Nat) : Utf8.decode (s.extract p s.size) k = Utf8.decode s (p + k) := by
  rw [← decodeL_drop, ← decodeL_drop, ext_data, List.take_of_length_le (by simp), List.drop_drop]
theorem size_suffix (s : ByteArray) (p : Nat) : (s.extract p s.size).size = s.size - p := by simp
theorem size_prefix (s : ByteArray) (q : Nat) (h : q ≤ s.size) : (s.extract 0 q).size = q := by simp; omega
theorem decodeN_cut (n m b0 b1 b2 b3 c1 c2 c3 : Nat) (w : Nat × Nat) (h : decodeN n b0 b1 b2 b3 = w) (hok : ¬ (w.1 = 65533 ∧ w.2 = 1)) (hw : w.2 ≤ m)
    (e1 : 1 < m → c1 = b1) (e2 : 2 < m → c2 = b2) (e3 : 3 < m → c3 = b3) : decodeN m b0 c1 c2 c3 = w := by
  subst h
  unfold decodeN at hok hw ⊢
  by_cases h0 : b0 < 128
  · simp only [if_pos h0]
  simp only [if_neg h0] at hok hw ⊢
  by_cases h1 : b0 / 32 = 6 ∧ (1 < n ∧ b1 / 64 = 2)
  · simp only [if_pos h1] at hok hw ⊢
    by_cases g : b0 % 32 * 64 + b1 % 64 ≥ 128
    · simp only [if_pos g] at hw ⊢
      rw [e1 (by omega)]
      rw [if_pos ⟨h1.1, by omega, h1.2.2⟩, if_pos g]
    · simp only [if_neg g] at hok
      exact absurd ⟨trivial, trivial⟩ hok
  simp only [if_neg h1] at hok hw ⊢
  by_cases h2 : b0 / 16 = 14 ∧ (1 < n ∧ b1 / 64 = 2) ∧ (2 < n ∧ b2 / 64 = 2)
  · simp only [if_pos h2] at hok hw ⊢
    have g32 : ¬ b0 / 32 = 6 := by omega
    rw [if_neg (fun h => g32 h.1)]
    by_cases g : b0 % 16 * 4096 + b1 % 64 * 64 + b2 % 64 ≥ 2048 ∧ (b0 % 16 * 4096 + b1 % 64 * 64 + b2 % 64 < 55296 ∨ (57344 ≤ b0 % 16 * 4096 + b1 % 64 * 64 + b2 % 64 ∧ b0 % 16 * 4096 + b1 % 64 * 64 + b2 % 64 ≤ 1114111))
    · simp only [if_pos g] at hw ⊢
      rw [e1 (by omega), e2 (by omega)]
      rw [if_pos ⟨h2.1, ⟨by omega, h2.2.1.2⟩, by omega, h2.2.2.2⟩, if_pos g]
    · simp only [if_neg g] at hok
      exact absurd ⟨trivial, trivial⟩ hok
  simp only [if_neg h2] at hok hw ⊢
  by_cases h3 : b0 / 8 = 30 ∧ (1 < n ∧ b1 / 64 = 2) ∧ (2 < n ∧ b2 / 64 = 2) ∧ (3 < n ∧ b3 / 64 = 2)
  · simp only [if_pos h3] at hok hw ⊢
    have g32 : ¬ b0 / 32 = 6 := by omega
    have g16 : ¬ b0 / 16 = 14 := by omega
    rw [if_neg (fun h => g32 h.1), if_neg (fun h => g16 h.1)]
    by_cases g : b0 % 8 * 262144 + b1 % 64 * 4096 + b2 % 64 * 64 + b3 % 64 ≥ 65536 ∧ (b0 % 8 * 262144 + b1 % 64 * 4096 + b2 % 64 * 64 + b3 % 64 < 55296 ∨ (57344 ≤ b0 % 8 * 262144 + b1 % 64 * 4096 + b2 % 64 * 64 + b3 % 64 ∧ b0 % 8 * 262144 + b1 % 64 * 4096 + b2 % 64 * 64 + b3 % 64 ≤ 1114111))
    · simp only [if_pos g] at hw ⊢
      rw [e1 (by omega), e2 (by omega), e3 (by omega)]
      rw [if_pos ⟨h3.1, ⟨by omega, h3.2.1.2⟩, ⟨by omega, h3.2.2.1.2⟩, by omega, h3.2.2.2.2⟩, if_pos g]
    · simp only [if_neg g] at hok
      exact absurd ⟨trivial, trivial⟩ hok
  · simp only [if_neg h3] at hok
    exact absurd ⟨trivial, trivial⟩ hok
theorem good_ok {s : ByteArray} {p : Nat} (h : good s p = true) : ¬ ((Utf8.decode s p).1 = 65533 ∧ (Utf8.decode s p).2 = 1) := by
  unfold good at h
  rw [Bool.and_eq_true, Bool.not_eq_true', decide_eq_false_iff_not] at h
  exact h.1
theorem get_prefix (s : ByteArray) (q i : Nat) (hq : q ≤ s.size) (hi : i < q) : (s.extract 0 q).get! i = s.get! i := by
  rw [get_of (s.extract 0 q) i (by rw [size_prefix s q hq]; exact hi), get_of s i (by omega), ByteArray.getElem_extract]
  simp
theorem decode_prefix (s : ByteArray) (q p : Nat) (hq : q ≤ s.size) (hg : good s p = true) (hw : p + (Utf8.decode s p).2 ≤ q) : Utf8.decode (s.extract 0 q) p = Utf8.decode s p := by
  have h1 := width_pos s p
  have hp : p < q := by omega
  rw [decode_at (s.extract 0 q) p, size_prefix s q hq, get_prefix s q p hq hp]
  refine decodeN_cut (s.size - p) (q - p) _ (s.get! (p + 1)).toNat (s.get! (p + 2)).toNat (s.get! (p + 3)).toNat _ _ _ _ (decode_at s p).symm (good_ok hg) (by omega) ?_ ?_ ?_
  · intro h; rw [get_prefix s q (p + 1) hq (by omega)]
  · intro h; rw [get_prefix s q (p + 2) hq (by omega)]
  · intro h; rw [get_prefix s q (p + 3) hq (by omega)]
theorem Path.pre {s : ByteArray} {p n q : Nat} (h : Path s p n q) : q ≤ s.size → Path (s.extract 0 q) p n q := by
  induction h with
  | zero p => intro _; exact .zero p
  | @step p n q hp hg h ih =>
    intro hq
    have hle := h.le
    have hw := width_pos s p
    have e := decode_prefix s q p hq hg hle
    refine .step (by rw [size_prefix s q hq]; omega) ?_ ?_
    · unfold good at hg ⊢; rw [e]; exact hg
    · rw [e]; exact ih hq
theorem Path.suf {s : ByteArray} {p n q : Nat} (h : Path s p n q) : ∀ b k, p = b + k → q = s.size → Path (s.extract b s.size) k n (s.size - b) := by
  induction h with
  | zero p =>
    intro b k e hq
    have : k = s.size - b := by omega
    rw [this]
    exact .zero _
  | @step p n q hp hg h ih =>
    intro b k e hq
    have hd := decode_suffix s b k
    rw [← e] at hd
    refine .step (by rw [size_suffix]; omega) ?_ ?_
    · unfold good at hg ⊢; rw [hd]; exact hg
    · rw [hd]; exact ih b (k + (Utf8.decode s p).2) (by omega) hq
/-- steps within what is left are steps of the whole -/
theorem Path.mid {s : ByteArray} {p n q : Nat} (h : Path s p n q) : ∀ b k, p = b + k → q ≤ s.size → Path (s.extract b s.size) k n (q - b) := by
  induction h with
  | zero p =>
    intro b k e hq
    have : k = p - b := by omega
    rw [this]
    exact .zero _
  | @step p n q hp hg h ih =>
    intro b k e hq
    have hd := decode_suffix s b k
    rw [← e] at hd
    refine .step (by rw [size_suffix]; omega) ?_ ?_
    · unfold good at hg ⊢; rw [hd]; exact hg
    · rw [hd]; exact ih b (k + (Utf8.decode s p).2) (by omega) hq
/-- a text cut in two by characters -/
theorem cut_text (s : ByteArray) (n : Nat) (ht : isText s = true) (hn : n ≤ runeCount s) :
    isText (s.extract 0 (place s n)) = true ∧ runeCount (s.extract 0 (place s n)) = n ∧ isText (s.extract (place s n) s.size) = true ∧ runeCount (s.extract (place s n) s.size) = runeCount s - n := by
  obtain ⟨N, hN, hc⟩ := path_of_text s s.size 0 (by omega) (by omega) ht
  have hN' : runeCount s = N := hc
  rw [hN'] at hn ⊢
  obtain ⟨r, h1, h2⟩ := hN.split n hn
  have hr : r ≤ s.size := h2.le
  have hp : place s n = r := h1.place s.size (by omega) hr
  rw [hp]
  obtain ⟨a1, a2⟩ := (h1.pre hr).text (by rw [size_prefix s r hr]) (s.extract 0 r).size (by omega)
  obtain ⟨b1, b2⟩ := (h2.suf r 0 rfl rfl).text (by rw [size_suffix]) (s.extract r s.size).size (by omega)
  exact ⟨a1, a2, b1, b2⟩
theorem count_le (s : ByteArray) : runeCount s ≤ s.size := runeCount_le s
theorem place_all (t : ByteArray) (n : Nat) (h : runeCount t ≤ n) : place t n = t.size := placeFrom_big t t.size 0 n (by omega) h
theorem place_zero (s : ByteArray) : place s 0 = 0 := by
  unfold place
  cases h : s.size with
  | zero => simp [placeFrom, h]
  | succ k => simp [placeFrom, h]
theorem count_zero (s : ByteArray) (h : runeCount s = 0) : s.size = 0 := by
  rcases Nat.eq_zero_or_pos s.size with h0 | h0
  · exact h0
  · unfold runeCount at h
    cases hs : s.size with
    | zero => omega
    | succ k => rw [hs] at h; simp only [runeCountFrom] at h; rw [if_pos (by omega)] at h; omega
theorem put_together (s : ByteArray) (p : Nat) : s.extract 0 p ++ s.extract p s.size = s := by
  apply ByteArray.ext
  apply Array.ext'
  have e : (s.extract 0 p ++ s.extract p s.size).data.toList = (s.extract 0 p).data.toList ++ (s.extract p s.size).data.toList := by rw [ByteArray.data_append, Array.toList_append]
  have h2 : s.data.toList.take s.size = s.data.toList := List.take_of_length_le (by simp)
  rw [e, ext_data, ext_data, List.drop_zero, h2, List.take_append_drop]
end Txt
namespace Cal
def lp (y : Int) : Int := if y % 4 = 0 ∧ (¬ y % 100 = 0 ∨ y % 400 = 0) then 1 else 0
theorem lp_01 (y : Int) : 0 ≤ lp y ∧ lp y ≤ 1 := by unfold lp; split <;> omega
def dby (y : Int) : Int := (y - 1) * 365 + (y - 1) / 4 - (y - 1) / 100 + (y - 1) / 400
theorem dby_succ (y : Int) : dby (y + 1) = dby y + 365 + lp y := by unfold dby lp; split <;> omega
theorem dby_mono (a b : Int) (h : a ≤ b) : dby a ≤ dby b := by unfold dby; omega
theorem dby_bd (a : Int) (h0 : 1 ≤ a) (h : a ≤ 10000) : 0 ≤ dby a ∧ dby a ≤ 3652059 := by unfold dby; omega
theorem dby_one : dby 1 = 0 := by decide
def dim (y m : Int) : Int := if m = 2 then 28 + lp y else if m = 4 ∨ m = 6 ∨ m = 9 ∨ m = 11 then 30 else 31
theorem dim_bd (y m : Int) : 28 ≤ dim y m ∧ dim y m ≤ 31 := by
  have := lp_01 y
  unfold dim; split
  · omega
  · split <;> omega
def cum (y m : Int) : Int :=
  if m ≤ 1 then 0 else if m = 2 then 31 else if m = 3 then 59 + lp y else if m = 4 then 90 + lp y else if m = 5 then 120 + lp y
  else if m = 6 then 151 + lp y else if m = 7 then 181 + lp y else if m = 8 then 212 + lp y else if m = 9 then 243 + lp y
  else if m = 10 then 273 + lp y else if m = 11 then 304 + lp y else if m = 12 then 334 + lp y else 365 + lp y
theorem months {m : Int} (h1 : 1 ≤ m) (h2 : m ≤ 12) : m = 1 ∨ m = 2 ∨ m = 3 ∨ m = 4 ∨ m = 5 ∨ m = 6 ∨ m = 7 ∨ m = 8 ∨ m = 9 ∨ m = 10 ∨ m = 11 ∨ m = 12 := by omega
theorem cum_succ (y m : Int) (h1 : 1 ≤ m) (h2 : m ≤ 12) : cum y (m + 1) = cum y m + dim y m := by
  rcases months h1 h2 with rfl | rfl | rfl | rfl | rfl | rfl | rfl | rfl | rfl | rfl | rfl | rfl <;> simp [cum, dim] <;> omega
theorem cum_one (y : Int) : cum y 1 = 0 := rfl
theorem cum_13 (y : Int) : cum y 13 = 365 + lp y := rfl
theorem cum_mono (y m k : Int) (h1 : 1 ≤ m) (h : m ≤ k) (h2 : k ≤ 13) : cum y m ≤ cum y k := by
  have h13 : k = 13 ∨ k ≤ 12 := by omega
  have h13' : m = 13 ∨ m ≤ 12 := by omega
  have := lp_01 y
  rcases h13 with rfl | hk
  · rcases h13' with rfl | hm
    · omega
    · rcases months h1 hm with rfl | rfl | rfl | rfl | rfl | rfl | rfl | rfl | rfl | rfl | rfl | rfl <;> simp [cum] <;> omega
  · rcases months (by omega) hk with rfl | rfl | rfl | rfl | rfl | rfl | rfl | rfl | rfl | rfl | rfl | rfl <;>
    rcases months h1 (by omega) with rfl | rfl | rfl | rfl | rfl | rfl | rfl | rfl | rfl | rfl | rfl | rfl <;> simp [cum] <;> omega
theorem cum_bd (y m : Int) (h1 : 1 ≤ m) (h2 : m ≤ 13) : 0 ≤ cum y m ∧ cum y m ≤ 366 := by
  have a := cum_mono y 1 m (by omega) h1 h2
  have b := cum_mono y m 13 h1 h2 (by omega)
  have := lp_01 y
  rw [cum_one] at a; rw [cum_13] at b
  omega
/-- the number n is the day d of the month m of the year y -/
structure IsDay (n y m d : Int) : Prop where
  y1 : 1 ≤ y
  y2 : y ≤ 9999
  m1 : 1 ≤ m
  m2 : m ≤ 12
  d1 : 1 ≤ d
  d2 : d ≤ dim y m
  num : dby y + cum y m + d = n
theorem IsDay.bd {n y m d : Int} (h : IsDay n y m d) : 1 ≤ n ∧ n ≤ 3652059 := by
  obtain ⟨y1, y2, m1, m2, d1, d2, hn⟩ := h
  have a := cum_succ y m m1 m2
  have b := cum_bd y m m1 (by omega)
  have c := cum_mono y (m + 1) 13 (by omega) (by omega) (by omega)
  have e := dby_succ y
  have f := dby_bd y y1 (by omega)
  have g := dby_bd (y + 1) (by omega) (by omega)
  rw [cum_13] at c
  omega
/-- its year is the one in whose days it lies -/
theorem IsDay.year {n y m d : Int} (h : IsDay n y m d) : dby y < n ∧ n ≤ dby (y + 1) := by
  obtain ⟨y1, y2, m1, m2, d1, d2, hn⟩ := h
  have a := cum_succ y m m1 m2
  have b := cum_bd y m m1 (by omega)
  have c := cum_mono y (m + 1) 13 (by omega) (by omega) (by omega)
  have e := dby_succ y
  rw [cum_13] at c
  omega
theorem year_uniq {n y z : Int} (h1 : dby y < n) (h2 : n ≤ dby (y + 1)) (h3 : dby z < n) (h4 : n ≤ dby (z + 1)) : y = z := by
  rcases Int.lt_trichotomy y z with h | h | h
  · have := dby_mono (y + 1) z (by omega); omega
  · exact h
  · have := dby_mono (z + 1) y (by omega); omega
theorem month_uniq {y r m k : Int} (hm1 : 1 ≤ m) (hm2 : m ≤ 12) (hk1 : 1 ≤ k) (hk2 : k ≤ 12) (h1 : cum y m < r) (h2 : r ≤ cum y (m + 1)) (h3 : cum y k < r) (h4 : r ≤ cum y (k + 1)) : m = k := by
  rcases Int.lt_trichotomy m k with h | h | h
  · have := cum_mono y (m + 1) k (by omega) (by omega) (by omega); omega
  · exact h
  · have := cum_mono y (k + 1) m (by omega) (by omega) (by omega); omega
theorem IsDay.uniq {n y m d z k c : Int} (h : IsDay n y m d) (g : IsDay n z k c) : y = z ∧ m = k ∧ d = c := by
  have e1 := year_uniq h.year.1 h.year.2 g.year.1 g.year.2
  subst e1
  have h7 := h.num; have g7 := g.num; have hd1 := h.d1; have hd2 := h.d2; have gd1 := g.d1; have gd2 := g.d2
  have s1 := cum_succ y m h.m1 h.m2
  have s2 := cum_succ y k g.m1 g.m2
  have e2 : m = k := month_uniq (y := y) (r := n - dby y) h.m1 h.m2 g.m1 g.m2 (by omega) (by omega) (by omega) (by omega)
  subst e2
  exact ⟨rfl, rfl, by omega⟩
/-- the year by centuries, by fours and by ones -/
theorem year_of (r a r1 b r2 c r3 s : Int) (_h0 : 0 ≤ r) (_h1 : r ≤ 3652058) (ha : a = r / 146097) (hr1 : r1 = r % 146097) (hb : b = min (r1 / 36524) 3) (hr2 : r2 = r1 - b * 36524)
    (hc : c = r2 / 1461) (hr3 : r3 = r2 % 1461) (hs : s = min (r3 / 365) 3) :
    dby (1 + a * 400 + (b * 100 + c * 4) + s) + (r3 - s * 365) = r ∧ 0 ≤ r3 - s * 365 ∧ r3 - s * 365 < 365 + lp (1 + a * 400 + (b * 100 + c * 4) + s) := by
  have hb' : 0 ≤ b ∧ b ≤ 3 := by omega
  have hr2' : 0 ≤ r2 ∧ r2 ≤ 36524 := by omega
  have hc' : 0 ≤ c ∧ c ≤ 24 := by omega
  have hr3' : 0 ≤ r3 ∧ r3 ≤ 1460 := by omega
  have hs' : 0 ≤ s ∧ s ≤ 3 := by omega
  have e4 : (1 + a * 400 + (b * 100 + c * 4) + s - 1) / 4 = a * 100 + b * 25 + c := by omega
  have e100 : (1 + a * 400 + (b * 100 + c * 4) + s - 1) / 100 = a * 4 + b := by omega
  have e400 : (1 + a * 400 + (b * 100 + c * 4) + s - 1) / 400 = a := by omega
  have g1 : r = a * 146097 + r1 := by omega
  have g2 : r2 = c * 1461 + r3 := by omega
  refine ⟨?_, by omega, ?_⟩
  · unfold dby; rw [e4, e100, e400]; omega
  · by_cases h3 : r3 = 1460
    · have hs3 : s = 3 := by omega
      have : lp (1 + a * 400 + (b * 100 + c * 4) + s) = 1 := by
        unfold lp
        refine if_pos ⟨by omega, ?_⟩
        by_cases h24 : c = 24
        · right; have : b = 3 := by omega
          omega
        · left; omega
      omega
    · have := lp_01 (1 + a * 400 + (b * 100 + c * 4) + s)
      omega
theorem year_in (r y rest : Int) (h0 : 0 ≤ r) (h1 : r ≤ 3652058) (h : dby y + rest = r) (h2 : 0 ≤ rest) (h3 : rest < 365 + lp y) : 1 ≤ y ∧ y ≤ 9999 := by
  have e := dby_succ y
  constructor
  · rcases Int.lt_or_le y 1 with hy | hy
    · have := dby_mono (y + 1) 1 (by omega); rw [dby_one] at this; omega
    · exact hy
  · rcases Int.lt_or_le 9999 y with hy | hy
    · have := dby_mono 10000 y (by omega); have e : dby 10000 = 3652059 := by decide
      omega
    · exact hy
theorem month_ex (y r : Int) (h0 : 0 ≤ r) (h1 : r < 365 + lp y) : ∃ m, 1 ≤ m ∧ m ≤ 12 ∧ cum y m ≤ r ∧ r < cum y (m + 1) := by
  have key : ∀ k : Nat, k ≤ 12 → (∃ m : Int, 1 ≤ m ∧ m ≤ 12 ∧ cum y m ≤ r ∧ r < cum y (m + 1)) ∨ cum y ((k : Int) + 1) ≤ r := by
    intro k
    induction k with
    | zero => intro _; right; exact h0
    | succ k ih =>
      intro hk
      rcases ih (by omega) with h | h
      · exact .inl h
      · by_cases h2 : r < cum y ((k : Int) + 1 + 1)
        · exact .inl ⟨(k : Int) + 1, by omega, by omega, h, h2⟩
        · right; rw [show ((k + 1 : Nat) : Int) + 1 = (k : Int) + 1 + 1 by omega]; omega
  rcases key 12 (by omega) with h | h
  · exact h
  · have : cum y (((12 : Nat) : Int) + 1) = 365 + lp y := rfl
    omega
theorem day_of (n y rest : Int) (h : 1 ≤ n) (h' : n ≤ 3652059) (g1 : dby y + rest = n - 1) (g2 : 0 ≤ rest) (g3 : rest < 365 + lp y) : ∃ m, IsDay n y m (rest - cum y m + 1) := by
  obtain ⟨y1, y2⟩ := year_in _ _ _ (by omega) (by omega) g1 g2 g3
  obtain ⟨m, m1, m2, c1, c2⟩ := month_ex _ _ g2 g3
  have := cum_succ y m m1 m2
  exact ⟨m, y1, y2, m1, m2, by omega, by omega, by omega⟩
theorem day_ex (n : Int) (h1 : 1 ≤ n) (h2 : n ≤ 3652059) : ∃ y m d, IsDay n y m d := by
  obtain ⟨g1, g2, g3⟩ := year_of (n - 1) _ _ _ _ _ _ _ (by omega) (by omega) rfl rfl rfl rfl rfl rfl rfl
  obtain ⟨m, h⟩ := day_of n _ _ h1 h2 g1 g2 g3
  exact ⟨_, m, _, h⟩
/-- the day behind a day -/
theorem IsDay.next {n y m d : Int} (h : IsDay n y m d) (hn : n < 3652059) :
    (d < dim y m → IsDay (n + 1) y m (d + 1)) ∧ (d = dim y m → m < 12 → IsDay (n + 1) y (m + 1) 1) ∧ (d = dim y m → m = 12 → IsDay (n + 1) (y + 1) 1 1) := by
  obtain ⟨y1, y2, m1, m2, d1, d2, hnum⟩ := h
  have s := cum_succ y m m1 m2
  refine ⟨fun hl => ⟨y1, y2, m1, m2, by omega, by omega, by omega⟩, fun he hm => ⟨y1, y2, by omega, by omega, by omega, ?_, by omega⟩, fun he hm => ?_⟩
  · have := dim_bd y (m + 1); omega
  · subst hm
    have e := dby_succ y
    have f : cum y (12 + 1) = 365 + lp y := rfl
    have hy : y ≤ 9998 := by
      rcases Int.lt_or_le 9998 y with h | h
      · have : y = 9999 := by omega
        subst this
        have : dby (9999 + 1) = 3652059 := by decide
        omega
      · exact h
    refine ⟨by omega, by omega, by omega, by omega, by omega, ?_, ?_⟩
    · have := dim_bd (y + 1) 1; omega
    · rw [cum_one]; omega
/-- so many months later -/
theorem later (c y m d : Int) (h0 : 0 ≤ c) (h1 : c ≤ 119987) (hy : y = c / 12 + 1) (hm : m = c % 12 + 1) (hd : 1 ≤ d) : IsDay (dby y + cum y m + min d (dim y m)) y m (min d (dim y m)) := by
  have := dim_bd y m
  exact ⟨by omega, by omega, by omega, by omega, by omega, by omega, rfl⟩
end Cal
namespace Go.Proofs.YtpgfgaloagdogaaDoor.Num

/-- every one is a digit -/
def Dig (l : List Nat) : Prop := ∀ d ∈ l, d < 10
theorem Dig.nil : Dig [] := fun _ h => by cases h
theorem Dig.snoc {l : List Nat} {d : Nat} (h : Dig l) (hd : d < 10) : Dig (l ++ [d]) := fun x hx => by
  rcases List.mem_append.1 hx with hx | hx
  · exact h x hx
  · rw [List.mem_singleton.1 hx]; exact hd
theorem Dig.cons {l : List Nat} {d : Nat} (h : Dig l) (hd : d < 10) : Dig (d :: l) := fun x hx => by
  rcases List.mem_cons.1 hx with rfl | hx
  · exact hd
  · exact h x hx
theorem dig_dg (n : Nat) : Dig (dg n) := dg_lt n
theorem Dig.get {l : List Nat} (h : Dig l) {j : Nat} (hj : j < l.length) : l[j] < 10 := h _ (List.getElem_mem hj)
/-- twice and one more or not -/
def twL : Nat → List Nat → List Nat
  | b, [] => if 0 < b then [b] else []
  | b, d :: l => (2 * d + b) % 10 :: twL ((2 * d + b) / 10) l
theorem twL_dg : ∀ (n b : Nat), b ≤ 1 → twL b (dg n) = dg (2 * n + b) := by
  intro n
  induction n using Nat.strongRecOn with
  | _ n ih =>
    intro b hb
    rcases Nat.eq_zero_or_pos n with h | h
    · subst h
      rw [dg_zero, twL]
      rcases (show b = 0 ∨ b = 1 by omega) with rfl | rfl
      · rw [if_neg (by decide)]; exact dg_zero.symm
      · rw [if_pos (by decide), dg_pos (by decide), dg_zero]
    · rw [dg_pos h, twL, ih (n / 10) (by omega) _ (by omega), dg_pos (show 0 < 2 * n + b by omega)]
      congr 1
      · omega
      · congr 1; omega
/-- half, from the top -/
def hfL : List Nat → List Nat × Nat
  | [] => ([], 0)
  | d :: l => ((10 * (hfL l).2 + d) / 2 :: (hfL l).1, (10 * (hfL l).2 + d) % 2)
theorem hfL_len : ∀ l : List Nat, (hfL l).1.length = l.length
  | [] => rfl
  | d :: l => by simp [hfL, hfL_len l]
theorem hfL_left : ∀ l : List Nat, (hfL l).2 ≤ 1
  | [] => by simp [hfL]
  | d :: l => by simp only [hfL]; omega
theorem hfL_dig : ∀ {l : List Nat}, Dig l → Dig (hfL l).1
  | [], _ => Dig.nil
  | d :: l, h => by
    have h1 := h d (by simp)
    have h2 := hfL_left l
    exact Dig.cons (hfL_dig fun x hx => h x (by simp [hx])) (by omega)
theorem hfL_lv : ∀ l : List Nat, 2 * lv (hfL l).1 + (hfL l).2 = lv l
  | [] => rfl
  | d :: l => by
    have := hfL_lv l
    simp only [hfL, lv]
    omega
theorem hfL_dg (n : Nat) : lv (hfL (dg n)).1 = n / 2 ∧ (hfL (dg n)).2 = n % 2 := by
  have h1 := hfL_lv (dg n)
  have h2 := hfL_left (dg n)
  rw [lv_dg] at h1
  omega
theorem hfL_drop (l : List Nat) (i : Nat) (h : i < l.length) : hfL (l.drop i) = ((10 * (hfL (l.drop (i + 1))).2 + l[i]) / 2 :: (hfL (l.drop (i + 1))).1, (10 * (hfL (l.drop (i + 1))).2 + l[i]) % 2) := by
  rw [List.drop_eq_getElem_cons h, hfL]
theorem lv_drop (l : List Nat) (i : Nat) (h : i < l.length) : lv (l.drop i) = l[i] + 10 * lv (l.drop (i + 1)) := by
  rw [List.drop_eq_getElem_cons h, lv]
theorem lv_drop_end (l : List Nat) (i : Nat) (h : l.length ≤ i) : lv (l.drop i) = 0 := by
  rw [List.drop_of_length_le h]; rfl
theorem lv_zeros_tail : ∀ (l : List Nat) (n : Nat), (∀ j (hj : j < l.length), n ≤ j → l[j] = 0) → lv (l.take n) = lv l
  | [], n, _ => by simp
  | d :: l, 0, h => by
    have h0 := h 0 (by simp) (Nat.le_refl _)
    have hr := lv_zeros_tail l 0 (fun j hj _ => by have := h (j + 1) (by simp; omega) (by omega); simpa using this)
    simp at h0 hr
    simp [lv, h0, ← hr]
  | d :: l, n + 1, h => by
    have hr := lv_zeros_tail l n (fun j hj hn => by have := h (j + 1) (by simp; omega) (by omega); simpa using this)
    simp [lv, hr]
theorem cut_eq (l : List Nat) (n : Nat) (hd : Dig l) (hn : n ≤ l.length) (h0 : ∀ j (hj : j < l.length), n ≤ j → l[j] = 0) (h1 : n = 0 ∨ ∃ h : n - 1 < l.length, ¬ l[n - 1] = 0) : l.take n = dg (lv l) := by
  rw [← lv_zeros_tail l n h0]
  refine eq_dg (fun d hx => hd d (List.mem_of_mem_take hx)) ?_
  intro d he
  rcases h1 with rfl | ⟨hlt, hne⟩
  · simp at he
  · by_cases hz : n = 0
    · subst hz; simp at he
    · rw [List.getLast?_eq_getElem?, List.length_take, Nat.min_eq_left hn, List.getElem?_take, if_pos (by omega), List.getElem?_eq_getElem hlt] at he
      cases he
      exact hne
/-- the number of a row of numbers -/
def lvF (f : Nat → Int) : Nat → Int
  | 0 => 0
  | n + 1 => lvF f n + f n * 10 ^ n
def upd (f : Nat → Int) (k : Nat) (v : Int) : Nat → Int := fun j => if j = k then v else f j
theorem lvF_past (f : Nat → Int) (k : Nat) (v : Int) : ∀ n, n ≤ k → lvF (upd f k v) n = lvF f n
  | 0, _ => rfl
  | n + 1, h => by
    rw [lvF, lvF, lvF_past f k v n (by omega), upd, if_neg (by omega)]
theorem lvF_upd (f : Nat → Int) (k : Nat) (v : Int) : ∀ n, k < n → lvF (upd f k v) n = lvF f n + (v - f k) * 10 ^ k
  | 0, h => by omega
  | n + 1, h => by
    rw [lvF, lvF]
    by_cases hk : k = n
    · subst hk
      rw [lvF_past f k v k (Nat.le_refl _), upd, if_pos rfl, Int.sub_mul]; omega
    · rw [lvF_upd f k v n (by omega), upd, if_neg (by omega)]; omega
theorem lvF_congr {f g : Nat → Int} : ∀ n, (∀ j, j < n → f j = g j) → lvF f n = lvF g n
  | 0, _ => rfl
  | n + 1, h => by rw [lvF, lvF, lvF_congr n (fun j hj => h j (by omega)), h n (by omega)]
theorem lvF_list (l : List Nat) : ∀ n, n ≤ l.length → lvF (fun j => (l.getD j 0 : Int)) n = (lv (l.take n) : Int)
  | 0, _ => by simp [lvF, lv]
  | n + 1, h => by
    rw [lvF, lvF_list l n (by omega), List.take_succ_eq_append_getElem (by omega), lv_append, List.length_take, Nat.min_eq_left (by omega)]
    have : l.getD n 0 = l[n]'(by omega) := by rw [List.getD_eq_getElem?_getD, List.getElem?_eq_getElem (by omega)]; rfl
    rw [this]
    simp only [lv]
    push_cast
    rw [Int.mul_comm]
    simp
theorem lvF_lt (f : Nat → Int) : ∀ n, (∀ j, j < n → 0 ≤ f j ∧ f j ≤ 9) → 0 ≤ lvF f n ∧ lvF f n < 10 ^ n
  | 0, _ => by simp [lvF]
  | n + 1, h => by
    have h1 := lvF_lt f n (fun j hj => h j (by omega))
    have h2 := h n (by omega)
    have h3 : (0 : Int) < 10 ^ n := Int.pow_pos (by decide)
    rw [lvF, Int.pow_succ]
    have h4 : f n * 10 ^ n ≤ 9 * 10 ^ n := Int.mul_le_mul_of_nonneg_right h2.2 (by omega)
    have h5 : 0 ≤ f n * 10 ^ n := Int.mul_nonneg h2.1 (by omega)
    omega
/-- what Plus keeps: the digits so far, the carry, and what is left of both -/
def PlusAt (T : Nat) (a b : List Nat) (i c : Nat) (acc : List Nat) : Prop := acc.length = i ∧ Dig acc ∧ c ≤ 1 ∧ lv acc + 10 ^ i * (c + lv (a.drop i) + lv (b.drop i)) = T
theorem plus_start (a b : List Nat) : PlusAt (lv a + lv b) a b 0 0 [] := ⟨rfl, Dig.nil, by decide, by simp [lv]⟩
theorem plus_step {T : Nat} {a b : List Nat} {i c : Nat} {acc : List Nat} (h : PlusAt T a b i c acc) (s : Nat) (hs : ∃ x y, s = c + x + y ∧ x < 10 ∧ y < 10 ∧ lv (a.drop i) = x + 10 * lv (a.drop (i + 1)) ∧ lv (b.drop i) = y + 10 * lv (b.drop (i + 1))) : PlusAt T a b (i + 1) (s / 10) (acc ++ [s % 10]) := by
  obtain ⟨h1, h2, h3, h4⟩ := h
  obtain ⟨x, y, rfl, hx, hy, ha, hb⟩ := hs
  refine ⟨by simp [h1], h2.snoc (by omega), by omega, ?_⟩
  rw [← h4, lv_append, h1, ha, hb, Nat.pow_succ]
  simp only [lv]
  generalize 10 ^ i = p
  generalize lv (a.drop (i + 1)) = u
  generalize lv (b.drop (i + 1)) = v
  have e : p * 10 * ((c + x + y) / 10 + u + v) = p * (10 * ((c + x + y) / 10) + 10 * u + 10 * v) := by rw [Nat.mul_assoc]; congr 1; omega
  rw [e, Nat.mul_zero, Nat.add_zero, Nat.add_assoc, ← Nat.mul_add]
  congr 2
  omega
theorem plus_end {T : Nat} {a b : List Nat} {i : Nat} {acc : List Nat} (h : PlusAt T a b i 0 acc) (ha : a.length ≤ i) (hb : b.length ≤ i) : Dig acc ∧ lv acc = T := by
  obtain ⟨-, h2, -, h4⟩ := h
  rw [lv_drop_end a i ha, lv_drop_end b i hb] at h4
  exact ⟨h2, by omega⟩
theorem lv_drop_none (l : List Nat) (i : Nat) (h : l.length ≤ i) : lv (l.drop i) = 0 + 10 * lv (l.drop (i + 1)) := by
  rw [lv_drop_end l i h, lv_drop_end l (i + 1) (by omega)]
/-- comparing from the top -/
theorem cmp_len {a b : Nat} (h : (dg a).length < (dg b).length) : a < b := by
  have h1 := (dg_len_lt (n := b) (k := (dg a).length)).1 h
  have h2 := (dg_len_le (n := a) (k := (dg a).length)).1 (Nat.le_refl _)
  omega
theorem cmp_top {a b : Nat} {i : Nat} (he : a / 10 ^ (i + 1) = b / 10 ^ (i + 1)) (hlt : a / 10 ^ i % 10 < b / 10 ^ i % 10) : a < b := by
  rw [div_pow_succ, div_pow_succ] at he
  have h : a / 10 ^ i < b / 10 ^ i := by omega
  exact Nat.lt_of_not_le fun hh => absurd (Nat.div_le_div_right (c := 10 ^ i) hh) (by omega)
theorem cmp_down {a b : Nat} {i : Nat} (he : a / 10 ^ (i + 1) = b / 10 ^ (i + 1)) (heq : a / 10 ^ i % 10 = b / 10 ^ i % 10) : a / 10 ^ i = b / 10 ^ i := by
  rw [div_pow_succ, div_pow_succ] at he
  omega
theorem cmp_start {a b : Nat} (h : (dg a).length = (dg b).length) : a / 10 ^ (dg a).length = b / 10 ^ (dg a).length := by
  have h1 := (dg_len_le (n := a) (k := (dg a).length)).1 (Nat.le_refl _)
  have h2 := (dg_len_le (n := b) (k := (dg a).length)).1 (by omega)
  rw [Nat.div_eq_of_lt h1, Nat.div_eq_of_lt h2]
theorem dg_get {n j : Nat} (hj : j < (dg n).length) : (dg n)[j] = n / 10 ^ j % 10 := by
  have h := dg_getElem? n j
  rw [List.getElem?_eq_getElem hj, if_pos (dg_len_lt.1 hj)] at h
  exact Option.some.inj h
/-- a row of numbers from nought to nine as digits -/
def listOf (f : Nat → Int) (n : Nat) : List Nat := (List.range n).map fun j => (f j).toNat
theorem listOf_len (f : Nat → Int) (n : Nat) : (listOf f n).length = n := by simp [listOf]
theorem listOf_get (f : Nat → Int) (n j : Nat) (hj : j < (listOf f n).length) : (listOf f n)[j] = (f j).toNat := by simp [listOf]
theorem listOf_dig {f : Nat → Int} {n : Nat} (h : ∀ j, j < n → 0 ≤ f j ∧ f j ≤ 9) : Dig (listOf f n) := by
  intro d hd
  obtain ⟨j, hj, rfl⟩ := List.mem_map.1 hd
  have := h j (List.mem_range.1 hj)
  omega
theorem listOf_lv {f : Nat → Int} : ∀ {n : Nat}, (∀ j, j < n → 0 ≤ f j) → ((lv (listOf f n) : Nat) : Int) = lvF f n
  | 0, _ => rfl
  | n + 1, h => by
    have ih := listOf_lv (n := n) fun j hj => h j (by omega)
    have e : listOf f (n + 1) = listOf f n ++ [(f n).toNat] := by simp [listOf, List.range_succ]
    have h0 := h n (by omega)
    rw [e, lv_append, listOf_len, lvF, ← ih]
    simp only [lv]
    push_cast
    rw [Int.toNat_of_nonneg h0]
    have : (10 : Int) ^ n * (f n + 0) = f n * 10 ^ n := by rw [Int.add_zero, Int.mul_comm]
    omega
theorem pow_pos_int (n : Nat) : (0 : Int) < 10 ^ n := Int.pow_pos (by decide)
/-- what Less keeps while it takes away -/
def LessA (A : Nat) (b : List Nat) (n i : Nat) (f : Nat → Int) : Prop := lvF f n = (A : Int) - (lv (b.take i) : Int) ∧ (∀ j, j < n → -9 ≤ f j ∧ f j ≤ 9) ∧ ∀ j, i ≤ j → j < n → 0 ≤ f j
theorem lessA_start (a b : List Nat) (ha : Dig a) : LessA (lv a) b a.length 0 (fun j => (a.getD j 0 : Int)) := by
  refine ⟨?_, fun j hj => ?_, fun j _ _ => Int.natCast_nonneg _⟩
  · rw [lvF_list a a.length (Nat.le_refl _), List.take_length]; simp [lv]
  · have e : a.getD j 0 = a[j] := by rw [List.getD_eq_getElem?_getD, List.getElem?_eq_getElem hj]; rfl
    have := ha.get hj
    show -9 ≤ ((a.getD j 0 : Nat) : Int) ∧ ((a.getD j 0 : Nat) : Int) ≤ 9
    rw [e]; omega
theorem lv_take_succ (b : List Nat) (i : Nat) (h : i < b.length) : lv (b.take (i + 1)) = lv (b.take i) + 10 ^ i * b[i] := by
  rw [List.take_succ_eq_append_getElem h, lv_append, List.length_take, Nat.min_eq_left (by omega)]
  simp only [lv, Nat.mul_zero, Nat.add_zero]
theorem lessA_step {A : Nat} {b : List Nat} {n i : Nat} {f : Nat → Int} (h : LessA A b n i f) (hb : Dig b) (hi : i < b.length) (hn : i < n) : LessA A b n (i + 1) (upd f i (f i - (b[i] : Int))) := by
  obtain ⟨h1, h2, h3⟩ := h
  have hd := hb.get hi
  refine ⟨?_, fun j hj => ?_, fun j h4 hj => ?_⟩
  · rw [lvF_upd f i _ n hn, h1, lv_take_succ b i hi]
    push_cast
    have e : (f i - (b[i] : Int) - f i) * 10 ^ i = - (10 ^ i * (b[i] : Int)) := by
      rw [show f i - (b[i] : Int) - f i = - (b[i] : Int) by omega, Int.neg_mul, Int.mul_comm]
    rw [e]; omega
  · unfold upd
    split
    · have := h2 i hn; have := h3 i (Nat.le_refl _) hn; omega
    · exact h2 j hj
  · unfold upd
    rw [if_neg (by omega)]
    exact h3 j (by omega) hj
/-- what Less keeps while it borrows -/
def LessB (T : Int) (n i : Nat) (f : Nat → Int) : Prop := lvF f n = T ∧ (∀ j, j < i → j < n → 0 ≤ f j ∧ f j ≤ 9) ∧ ∀ j, j < n → -10 ≤ f j ∧ f j ≤ 9 ∧ (i < j → -9 ≤ f j)
theorem lessB_start {A : Nat} {b : List Nat} {n : Nat} {f : Nat → Int} (h : LessA A b n b.length f) : LessB ((A : Int) - (lv b : Int)) n 0 f := by
  obtain ⟨h1, h2, -⟩ := h
  rw [List.take_length] at h1
  exact ⟨h1, fun j hj => by omega, fun j hj => by have := h2 j hj; omega⟩
theorem lessB_keep {T : Int} {n i : Nat} {f : Nat → Int} (h : LessB T n i f) (h0 : 0 ≤ f i) : LessB T n (i + 1) f := by
  obtain ⟨h1, h2, h3⟩ := h
  refine ⟨h1, fun j hj hn => ?_, fun j hj => ?_⟩
  · by_cases e : j = i
    · subst e; have := h3 j hn; omega
    · exact h2 j (by omega) hn
  · have := h3 j hj; omega
theorem lessB_step {T : Int} {n i : Nat} {f : Nat → Int} (h : LessB T n i f) (hi : i + 1 < n) (h0 : f i < 0) : LessB T n (i + 1) (upd (upd f i (f i + 10)) (i + 1) (f (i + 1) - 1)) := by
  obtain ⟨h1, h2, h3⟩ := h
  refine ⟨?_, fun j hj hn => ?_, fun j hj => ?_⟩
  · rw [lvF_upd _ (i + 1) _ n hi, lvF_upd f i _ n (by omega), h1]
    have e1 : upd f i (f i + 10) (i + 1) = f (i + 1) := by unfold upd; rw [if_neg (by omega)]
    rw [e1, Int.pow_succ]
    have e2 : (f i + 10 - f i) * (10 : Int) ^ i = 10 * 10 ^ i := by congr 1; omega
    have e3 : (f (i + 1) - 1 - f (i + 1)) * ((10 : Int) ^ i * 10) = - (10 * 10 ^ i) := by
      rw [show f (i + 1) - 1 - f (i + 1) = -1 by omega, Int.neg_one_mul, Int.mul_comm]
    rw [e2, e3]; omega
  · unfold upd
    rw [if_neg (by omega)]
    split
    · have := h3 i (by omega); omega
    · exact h2 j (by omega) hn
  · unfold upd
    split
    · have := h3 (i + 1) hi; omega
    · split
      · have := h3 i (by omega); omega
      · have := h3 j hj; omega
theorem lessB_end {T : Int} {n i : Nat} {f : Nat → Int} (h : LessB T n i f) (hi : n ≤ i + 1) (hT : 0 ≤ T) : ∀ j, j < n → 0 ≤ f j ∧ f j ≤ 9 := by
  obtain ⟨h1, h2, h3⟩ := h
  intro j hj
  by_cases hji : j < i
  · exact h2 j hji hj
  · have hjn : j + 1 = n := by omega
    have hb := h3 j hj
    refine ⟨?_, hb.2.1⟩
    have hlow := lvF_lt f j (fun k hk => h2 k (by omega) (by omega))
    rw [← hjn, lvF] at h1
    have hp := pow_pos_int j
    refine Int.not_lt.1 fun hneg => ?_
    have : f j * 10 ^ j ≤ (-1) * 10 ^ j := Int.mul_le_mul_of_nonneg_right (by omega) (by omega)
    omega
theorem less_list {T : Int} {n i : Nat} {f : Nat → Int} (h : LessB T n i f) (hi : n ≤ i + 1) (hT : 0 ≤ T) : Dig (listOf f n) ∧ ((lv (listOf f n) : Nat) : Int) = T := by
  have h4 := lessB_end h hi hT
  exact ⟨listOf_dig h4, (listOf_lv fun j hj => (h4 j hj).1).trans h.1⟩
/-- what Times keeps while it adds -/
def TimesA (a b : List Nat) (i k : Nat) (f : Nat → Int) : Prop := lvF f (a.length + b.length + 1) = (lv (a.take i) : Int) * (lv b : Int) + ((10 ^ i * a.getD i 0 : Nat) : Int) * (lv (b.take k) : Int) ∧ ∀ j, j < a.length + b.length + 1 → 0 ≤ f j ∧ f j ≤ 81 * (1000 * (i : Int) + k)
theorem timesA_start (a b : List Nat) (f : Nat → Int) (h0 : ∀ j, f j = 0) : TimesA a b 0 0 f := by
  refine ⟨?_, fun j _ => by rw [h0]; decide⟩
  have : ∀ n, lvF f n = 0 := fun n => by induction n with
    | zero => rfl
    | succ n ih => rw [lvF, ih, h0]; simp
  rw [this]; simp [lv]
theorem timesA_step {a b : List Nat} {i k : Nat} {f : Nat → Int} (h : TimesA a b i k f) (ha : Dig a) (hb : Dig b) (hi : i < a.length) (hk : k < b.length) : TimesA a b i (k + 1) (upd f (i + k) (f (i + k) + ((a[i] : Nat) : Int) * ((b[k] : Nat) : Int))) := by
  obtain ⟨h1, h2⟩ := h
  have hda := ha.get hi
  have hdb := hb.get hk
  have hm : (a[i] : Int) * (b[k] : Int) ≤ 9 * 9 := Int.mul_le_mul (by omega) (by omega) (by omega) (by omega)
  have hm0 : 0 ≤ (a[i] : Int) * (b[k] : Int) := Int.mul_nonneg (by omega) (by omega)
  refine ⟨?_, fun j hj => ?_⟩
  · rw [lvF_upd f (i + k) _ _ (by omega), h1, lv_take_succ b k hk]
    have e : a.getD i 0 = a[i] := by rw [List.getD_eq_getElem?_getD, List.getElem?_eq_getElem hi]; rfl
    rw [e]
    generalize a[i] = x
    generalize b[k] = y
    generalize lv (b.take k) = u
    rw [show f (i + k) + (x : Int) * (y : Int) - f (i + k) = (x : Int) * y by omega, Int.pow_add]
    push_cast
    rw [Int.mul_add]
    have : (x : Int) * y * (10 ^ i * 10 ^ k) = 10 ^ i * x * (10 ^ k * y) := by
      simp only [Int.mul_assoc, Int.mul_comm, Int.mul_left_comm]
    rw [this]; omega
  · have := h2 j hj
    have := h2 (i + k) (by omega)
    unfold upd
    split <;> omega
theorem timesA_row {a b : List Nat} {i : Nat} {f : Nat → Int} (h : TimesA a b i b.length f) (hi : i < a.length) (hbl : b.length ≤ 1000) : TimesA a b (i + 1) 0 f := by
  obtain ⟨h1, h2⟩ := h
  refine ⟨?_, fun j hj => by have := h2 j hj; omega⟩
  rw [h1, List.take_length, lv_take_succ a i hi]
  have e : a.getD i 0 = a[i] := by rw [List.getD_eq_getElem?_getD, List.getElem?_eq_getElem hi]; rfl
  rw [e]
  push_cast
  simp [lv, Int.add_mul]
def TimesB (T : Int) (n i : Nat) (f : Nat → Int) : Prop := lvF f n = T ∧ (∀ j, j < i → j < n → 0 ≤ f j ∧ f j ≤ 9) ∧ ∀ j, j < n → 0 ≤ f j ∧ f j ≤ 200000000 ∧ (i < j → f j ≤ 100000000)
theorem timesB_start {a b : List Nat} {i : Nat} {f : Nat → Int} (h : TimesA a b i 0 f) (hi : i = a.length) (ha : a.length ≤ 1000) : TimesB ((lv a : Int) * (lv b : Int)) (a.length + b.length + 1) 0 f := by
  obtain ⟨h1, h2⟩ := h
  subst hi
  refine ⟨?_, fun j hj => by omega, fun j hj => by have := h2 j hj; omega⟩
  rw [h1, List.take_length]; simp [lv]
theorem timesB_step {T : Int} {n i : Nat} {f : Nat → Int} (h : TimesB T n i f) (hi : i + 1 < n) : TimesB T n (i + 1) (upd (upd f (i + 1) (f (i + 1) + f i / 10)) i (f i % 10)) := by
  obtain ⟨h1, h2, h3⟩ := h
  have b0 := h3 i (by omega)
  have b1 := h3 (i + 1) hi
  refine ⟨?_, fun j hj hn => ?_, fun j hj => ?_⟩
  · rw [lvF_upd _ i _ n (by omega), lvF_upd f (i + 1) _ n hi, h1]
    have e1 : upd f (i + 1) (f (i + 1) + f i / 10) i = f i := by unfold upd; rw [if_neg (by omega)]
    rw [e1, Int.pow_succ, show f (i + 1) + f i / 10 - f (i + 1) = f i / 10 by omega]
    have e2 : f i / 10 * (10 ^ i * 10) = (f i / 10 * 10) * 10 ^ i := by simp only [Int.mul_assoc, Int.mul_comm, Int.mul_left_comm]
    have e3 : (f i % 10 - f i) * 10 ^ i = - ((f i / 10 * 10) * 10 ^ i) := by rw [← Int.neg_mul]; congr 1; omega
    rw [e2, e3]; omega
  · unfold upd
    split
    · omega
    · rw [if_neg (by omega)]
      exact h2 j (by omega) hn
  · unfold upd
    split
    · omega
    · split
      · omega
      · have := h3 j hj; omega
theorem times_list {T : Int} {n i : Nat} {f : Nat → Int} (h : TimesB T n i f) (hn : 0 < n) (hi : n ≤ i + 1) (hT : T < 10 ^ (n - 1)) : Dig (listOf f n) ∧ ((lv (listOf f n) : Nat) : Int) = T := by
  obtain ⟨h1, h2, h3⟩ := h
  have h4 : ∀ j, j < n → 0 ≤ f j ∧ f j ≤ 9 := by
    intro j hj
    by_cases hji : j < i
    · exact h2 j hji hj
    · have hjn : j + 1 = n := by omega
      have hb := h3 j hj
      have hlow := lvF_lt f j (fun k hk => h2 k (by omega) (by omega))
      have e : n - 1 = j := by omega
      rw [e] at hT
      rw [← hjn, lvF] at h1
      have hp := pow_pos_int j
      by_cases hz : 1 ≤ f j
      · have : 1 * 10 ^ j ≤ f j * 10 ^ j := Int.mul_le_mul_of_nonneg_right hz (by omega)
        omega
      · omega
  exact ⟨listOf_dig h4, (listOf_lv fun j hj => (h4 j hj).1).trans h1⟩
end Go.Proofs.YtpgfgaloagdogaaDoor.Num
namespace Go.Proofs.YtpgfgaloagdogaaDoor.Word

/-- the borrow into word k of a difference -/
def bor (a b : Nat) : Nat → Nat
  | 0 => 0
  | 1 => difHi (w0 a) (w0 b) 0
  | 2 => difHi (w1 a) (w1 b) (difHi (w0 a) (w0 b) 0)
  | 3 => difHi (w2 a) (w2 b) (difHi (w1 a) (w1 b) (difHi (w0 a) (w0 b) 0))
  | _ => difHi (w3 a) (w3 b) (difHi (w2 a) (w2 b) (difHi (w1 a) (w1 b) (difHi (w0 a) (w0 b) 0)))
theorem bor_le (a b k : Nat) : bor a b k ≤ 1 := by
  unfold bor; split
  · omega
  · exact difHi_le _ _ _
  · exact difHi_le _ _ _
  · exact difHi_le _ _ _
  · exact difHi_le _ _ _
theorem difEq {x y c : Nat} (hx : x < 18446744073709551616) (hy : y < 18446744073709551616) (hc : c ≤ 1) : x + difHi x y c * 18446744073709551616 = difLo x y c + y + c := by
  unfold difLo difHi
  split <;> omega
theorem dif_all {a b : Nat} (ha : a < top4) (hb : b < top4) (h : b ≤ a) :
    w0 (a - b) = difLo (w0 a) (w0 b) 0 ∧ w1 (a - b) = difLo (w1 a) (w1 b) (bor a b 1) ∧ w2 (a - b) = difLo (w2 a) (w2 b) (bor a b 2) ∧ w3 (a - b) = difLo (w3 a) (w3 b) (bor a b 3) := by
  have e0 := difEq (w0_lt a) (w0_lt b) (Nat.zero_le 1)
  have e1 := difEq (w1_lt a) (w1_lt b) (bor_le a b 1)
  have e2 := difEq (w2_lt a) (w2_lt b) (bor_le a b 2)
  have e3 := difEq (w3_lt a) (w3_lt b) (bor_le a b 3)
  have c1 : difHi (w0 a) (w0 b) 0 = bor a b 1 := rfl
  have c2 : difHi (w1 a) (w1 b) (bor a b 1) = bor a b 2 := rfl
  have c3 : difHi (w2 a) (w2 b) (bor a b 2) = bor a b 3 := rfl
  have c4 : difHi (w3 a) (w3 b) (bor a b 3) = bor a b 4 := rfl
  rw [c1] at e0
  rw [c2] at e1
  rw [c3] at e2
  rw [c4] at e3
  have l0 := difLo_lt (w0 a) (w0 b) 0
  have l1 := difLo_lt (w1 a) (w1 b) (bor a b 1)
  have l2 := difLo_lt (w2 a) (w2 b) (bor a b 2)
  have l3 := difLo_lt (w3 a) (w3 b) (bor a b 3)
  have b4 := bor_le a b 4
  have wa := words4 ha
  have wb := words4 hb
  have key := of_words4 l0 l1 l2 l3
  clear c1 c2 c3 c4
  generalize bor a b 1 = c1 at *
  generalize bor a b 2 = c2 at *
  generalize bor a b 3 = c3 at *
  generalize bor a b 4 = c4 at *
  generalize difLo (w0 a) (w0 b) 0 = s0 at *
  generalize difLo (w1 a) (w1 b) c1 = s1 at *
  generalize difLo (w2 a) (w2 b) c2 = s2 at *
  generalize difLo (w3 a) (w3 b) c3 = s3 at *
  obtain ⟨k0, k1, k2, k3, k4⟩ := key
  have hs : a - b = s0 + s1 * 18446744073709551616 + s2 * 340282366920938463463374607431768211456 + s3 * 6277101735386680763835789423207666416102355444464034512896 := by
    clear k0 k1 k2 k3
    unfold top4 at *
    omega
  rw [hs]
  exact ⟨k0, k1, k2, k3⟩
theorem halves {n : Nat} (h : n < top4) : hi (n / 340282366920938463463374607431768211456) = w3 n ∧ lo (n / 340282366920938463463374607431768211456) = w2 n ∧ hi (n % 340282366920938463463374607431768211456) = w1 n ∧ lo (n % 340282366920938463463374607431768211456) = w0 n ∧ n / 340282366920938463463374607431768211456 < top2 ∧ n % 340282366920938463463374607431768211456 < top2 := by
  have h1 := words4 h
  have l0 := w0_lt n
  have l1 := w1_lt n
  have l2 := w2_lt n
  have l3 := w3_lt n
  generalize w0 n = a at *
  generalize w1 n = b at *
  generalize w2 n = c at *
  generalize w3 n = d at *
  obtain ⟨X, hX⟩ : ∃ X, X = c + d * 18446744073709551616 := ⟨_, rfl⟩
  obtain ⟨Y, hY⟩ : ∃ Y, Y = a + b * 18446744073709551616 := ⟨_, rfl⟩
  have e1 : n / 340282366920938463463374607431768211456 = X := by omega
  have e2 : n % 340282366920938463463374607431768211456 = Y := by omega
  rw [e1, e2]
  unfold hi lo top2
  clear e1 e2 h1 h
  omega
end Go.Proofs.YtpgfgaloagdogaaDoor.Word
namespace Go.Proofs.YtpgfgaloagdogaaDoor.Num

/-- one step of a long division, from the top -/
theorem quo_left (A B i : Nat) : A / 10 ^ i % B = (10 * (A / 10 ^ (i + 1) % B) + A / 10 ^ i % 10) % B := by
  have e : A / 10 ^ i = 10 * (A / 10 ^ (i + 1)) + A / 10 ^ i % 10 := by rw [div_pow_succ]; omega
  conv => lhs; rw [e]
  rw [Nat.add_mod, Nat.mul_mod, Nat.add_mod (10 * (A / 10 ^ (i + 1) % B)), Nat.mul_mod 10 (A / 10 ^ (i + 1) % B), Nat.mod_mod]
theorem quo_digit (A B i : Nat) (hB : 0 < B) : A / 10 ^ i / B = 10 * (A / 10 ^ (i + 1) / B) + (10 * (A / 10 ^ (i + 1) % B) + A / 10 ^ i % 10) / B := by
  have e : A / 10 ^ i = 10 * (A / 10 ^ (i + 1)) + A / 10 ^ i % 10 := by rw [div_pow_succ]; omega
  generalize A / 10 ^ i = N at *
  generalize A / 10 ^ (i + 1) = M at *
  have h2 := Nat.div_add_mod M B
  have h3 : N = (10 * (M % B) + N % 10) + B * (10 * (M / B)) := by
    have : B * (10 * (M / B)) = 10 * (B * (M / B)) := by rw [← Nat.mul_assoc, Nat.mul_comm B 10, Nat.mul_assoc]
    rw [this]; omega
  conv => lhs; rw [h3]
  rw [Nat.add_mul_div_left _ _ hB]; omega
/-- digits with one put below them -/
theorem dg_cons (d n : Nat) (hd : d < 10) (h : 0 < d ∨ 0 < n) : dg (10 * n + d) = d :: dg n := by
  rw [dg_pos (by omega)]
  congr 1
  · omega
  · congr 1; omega
theorem lv_cons (d : Nat) (l : List Nat) : lv (d :: l) = d + 10 * lv l := rfl
/-- what Quo keeps: the quotient's digits from one place on -/
def QuoAt (A B n i : Nat) (f : Nat → Int) : Prop := ∀ t, i ≤ t → t < n → f t = ((A / 10 ^ t / B % 10 : Nat) : Int)
theorem quo_nines (A B i : Nat) (hB : 0 < B) : (10 * (A / 10 ^ (i + 1) % B) + A / 10 ^ i % 10) / B < 10 := by
  have h := Nat.mod_lt (A / 10 ^ (i + 1)) hB
  rw [Nat.div_lt_iff_lt_mul hB]; omega
theorem quo_digit' (A B i : Nat) (hB : 0 < B) : A / 10 ^ i / B % 10 = (10 * (A / 10 ^ (i + 1) % B) + A / 10 ^ i % 10) / B := by
  rw [quo_digit A B i hB]
  have h := quo_nines A B i hB
  generalize (10 * (A / 10 ^ (i + 1) % B) + A / 10 ^ i % 10) / B = y at *
  generalize A / 10 ^ (i + 1) / B = z at *
  omega
theorem quo_fin (A B n : Nat) (hn : n = (dg A).length) (f : Nat → Int) (h : QuoAt A B n 0 f) : Dig (listOf f n) ∧ lv (listOf f n) = A / B := by
  have hd : ∀ t, t < n → f t = ((A / B / 10 ^ t % 10 : Nat) : Int) := fun t ht => by
    rw [h t (Nat.zero_le _) ht, Nat.div_div_eq_div_mul, Nat.div_div_eq_div_mul, Nat.mul_comm]
  have e : listOf f n = pad n (A / B) := by
    apply List.ext_getElem
    · rw [listOf_len, pad_len]
    · intro j h1 h2
      rw [listOf_get]
      rw [listOf_len] at h1
      have h3 := pad_getElem? n (A / B) j
      rw [if_pos h1, List.getElem?_eq_getElem h2] at h3
      rw [Option.some.inj h3, hd j h1]; rfl
  rw [e]
  refine ⟨pad_lt n _, ?_⟩
  rw [lv_pad, Nat.mod_eq_of_lt]
  have h1 := (dg_len_le (n := A) (k := (dg A).length)).1 (Nat.le_refl _)
  rw [hn]
  exact Nat.lt_of_le_of_lt (Nat.div_le_self _ _) h1
end Go.Proofs.YtpgfgaloagdogaaDoor.Num
