/-
  Plain facts about fractions that are rounded and fitted: no program stands in this text.
-/
namespace Go.Proofs.YtjkallelniggpaaDoor.Fit

def near (n t : Nat) : Nat := if t < n % t + n % t then n / t + 1 else if n % t + n % t = t then (if n / t % 2 = 1 then n / t + 1 else n / t) else n / t
/-- m is the nearest, ties to even, by inequalities alone -/
def NearTo (n t m : Nat) : Prop := (2 * (m * t) < 2 * n + t ∧ 2 * n < 2 * (m * t) + t) ∨ (2 * (m * t) = 2 * n + t ∧ m % 2 = 0) ∨ (2 * n = 2 * (m * t) + t ∧ m % 2 = 0)
theorem near_to (n t : Nat) (ht : 0 < t) : NearTo n t (near n t) := by
  unfold near NearTo
  have h1 := Nat.div_add_mod n t
  have h2 := Nat.mod_lt n ht
  rw [Nat.mul_comm] at h1
  have e : (n / t + 1) * t = n / t * t + t := by rw [Nat.add_mul, Nat.one_mul]
  generalize n / t = q at *
  generalize n % t = r at *
  subst h1
  split
  · rw [e]; omega
  · split
    · split
      · rw [e]; omega
      · omega
    · omega
theorem nearTo_lt {n t m m' : Nat} (ht : 0 < t) (h : NearTo n t m) (h' : NearTo n t m') : ¬ m < m' := by
  intro hlt
  obtain ⟨d, rfl⟩ : ∃ d, m' = m + 1 + d := ⟨m' - (m + 1), by omega⟩
  unfold NearTo at h h'
  have e : (m + 1 + d) * t = m * t + t + d * t := by rw [Nat.add_mul, Nat.add_mul, Nat.one_mul]
  rw [e] at h'
  rcases Nat.eq_zero_or_pos d with rfl | hd
  · rw [Nat.zero_mul] at h'
    generalize m * t = M at *
    omega
  · have hdt : t ≤ d * t := Nat.le_mul_of_pos_left _ hd
    generalize m * t = M at *
    generalize d * t = D at *
    omega
theorem nearTo_one {n t m m' : Nat} (ht : 0 < t) (h : NearTo n t m) (h' : NearTo n t m') : m = m' := by
  have h1 := nearTo_lt ht h h'
  have h2 := nearTo_lt ht h' h
  omega
theorem near_eq {n t m : Nat} (ht : 0 < t) (h : NearTo n t m) : near n t = m := nearTo_one ht (near_to n t ht) h
theorem nearTo_ratio {n t n' t' m : Nat} (ht : 0 < t) (he : n * t' = n' * t) (ht' : 0 < t') (h : NearTo n t m) : NearTo n' t' m := by
  unfold NearTo at *
  have e1 : (2 * (m * t')) * t = (2 * (m * t)) * t' := by simp only [Nat.mul_assoc, Nat.mul_comm t']
  have e2 : (2 * n' + t') * t = (2 * n + t) * t' := by rw [Nat.add_mul, Nat.add_mul, Nat.mul_assoc, Nat.mul_assoc, he, Nat.mul_comm t']
  have e3 : (2 * n') * t = (2 * n) * t' := by rw [Nat.mul_assoc, Nat.mul_assoc, he]
  have e4 : (2 * (m * t') + t') * t = (2 * (m * t) + t) * t' := by rw [Nat.add_mul, Nat.add_mul, e1, Nat.mul_comm t']
  rcases h with ⟨a, b⟩ | ⟨a, b⟩ | ⟨a, b⟩
  · refine .inl ⟨Nat.lt_of_mul_lt_mul_right (a := t) ?_, Nat.lt_of_mul_lt_mul_right (a := t) ?_⟩
    · rw [e1, e2]; exact Nat.mul_lt_mul_of_pos_right a ht'
    · rw [e3, e4]; exact Nat.mul_lt_mul_of_pos_right b ht'
  · refine .inr (.inl ⟨Nat.eq_of_mul_eq_mul_right ht ?_, b⟩)
    rw [e1, e2, a]
  · refine .inr (.inr ⟨Nat.eq_of_mul_eq_mul_right ht ?_, b⟩)
    rw [e3, e4, a]
theorem near_ratio {n t n' t' : Nat} (ht : 0 < t) (ht' : 0 < t') (he : n * t' = n' * t) : near n t = near n' t' :=
  (near_eq ht' (nearTo_ratio ht he ht' (near_to n t ht))).symm
theorem near_whole (n t : Nat) (ht : 0 < t) : near (n * t) t = n := near_eq ht (.inl (by omega))
theorem near_le (n t : Nat) : near n t ≤ n + 1 := by
  have h := Nat.div_le_self n t
  unfold near
  split
  · omega
  · split
    · split <;> omega
    · omega
theorem near_zero (t : Nat) (ht : 0 < t) : near 0 t = 0 := near_eq ht (.inl (by omega))
theorem pp (k : Nat) : 0 < 10 ^ k := Nat.pow_pos (by decide)
theorem near_ten (n s c : Nat) (h : s ≤ c) : near (n * 10 ^ s) (10 ^ c) = near n (10 ^ (c - s)) := by
  refine near_ratio (pp _) (pp _) ?_
  rw [Nat.mul_assoc, ← Nat.pow_add, show s + (c - s) = c by omega]
/-- the greatest scale below k that has room, with the number at it -/
def fitS (n t : Nat) : Nat → Option (Nat × Nat)
  | 0 => none
  | s + 1 => if near (n * 10 ^ s) t < 10 ^ 34 then some (near (n * 10 ^ s) t, s) else fitS n t s
theorem fitS_ratio {n t n' t' : Nat} (ht : 0 < t) (ht' : 0 < t') (he : n * t' = n' * t) (k : Nat) : fitS n t k = fitS n' t' k := by
  induction k with
  | zero => rfl
  | succ s ih =>
    have e : near (n * 10 ^ s) t = near (n' * 10 ^ s) t' := near_ratio ht ht' (by rw [Nat.mul_right_comm, he, Nat.mul_right_comm])
    unfold fitS
    rw [e, ih]
/-- without noughts at the end, as far as there is a scale -/
def strip (c : Nat) : Nat → Nat × Nat
  | 0 => (c, 0)
  | s + 1 => if c % 10 = 0 then strip (c / 10) s else (c, s + 1)
theorem strip_ten (c s : Nat) : strip (c * 10) (s + 1) = strip c s := by
  rw [strip, if_pos (by omega), Nat.mul_div_cancel _ (by decide)]
theorem strip_tens (c s : Nat) : ∀ j, strip (c * 10 ^ j) (s + j) = strip c s
  | 0 => by rw [Nat.pow_zero, Nat.mul_one, Nat.add_zero]
  | j + 1 => by rw [Nat.pow_succ, ← Nat.mul_assoc, show s + (j + 1) = (s + j) + 1 by omega, strip_ten, strip_tens c s j]
theorem strip_zero : ∀ s, strip 0 s = (0, 0)
  | 0 => rfl
  | s + 1 => by rw [strip, if_pos rfl, Nat.zero_div, strip_zero s]
theorem strip_stop {c s : Nat} (h : c % 10 ≠ 0) : strip c s = (c, s) := by
  cases s with
  | zero => rfl
  | succ s => rw [strip, if_neg h]
/-- of a number with z noughts at its end -/
theorem strip_trim {c t z : Nat} (h : c = t * 10 ^ z) (ht : t % 10 ≠ 0) : ∀ s, strip c s = (c / 10 ^ min z s, s - min z s) := by
  intro s
  rcases Nat.le_total z s with hz | hz
  · rw [Nat.min_eq_left hz, h, Nat.mul_div_cancel _ (pp _)]
    obtain ⟨r, rfl⟩ : ∃ r, s = r + z := ⟨s - z, by omega⟩
    rw [strip_tens, strip_stop ht, Nat.add_sub_cancel]
  · rw [Nat.min_eq_right hz, Nat.sub_self]
    obtain ⟨r, rfl⟩ : ∃ r, z = r + s := ⟨z - s, by omega⟩
    have e : c = t * 10 ^ r * 10 ^ s := by rw [h, Nat.pow_add, Nat.mul_assoc]
    have h2 := strip_tens (t * 10 ^ r) 0 s
    rw [Nat.zero_add, ← e] at h2
    rw [h2, e, Nat.mul_div_cancel _ (pp _)]
    rfl
theorem strip_le (c : Nat) : ∀ s, (strip c s).1 ≤ c ∧ (strip c s).2 ≤ s := by
  intro s
  induction s generalizing c with
  | zero => exact ⟨Nat.le_refl _, Nat.le_refl _⟩
  | succ s ih =>
    unfold strip
    split
    · have := ih (c / 10)
      have h := Nat.div_le_self c 10
      exact ⟨Nat.le_trans this.1 h, by omega⟩
    · exact ⟨Nat.le_refl _, Nat.le_refl _⟩
theorem strip_pos {c : Nat} (h : 0 < c) : ∀ s, 0 < (strip c s).1 := by
  intro s
  induction s generalizing c with
  | zero => exact h
  | succ s ih =>
    unfold strip
    split
    · exact ih (by omega)
    · exact h
/-- the fitted number in form; none: there is no room -/
def fit (n t k : Nat) : Option (Nat × Nat) := (fitS n t k).map fun x => strip x.1 x.2
theorem fit_ratio {n t n' t' : Nat} (ht : 0 < t) (ht' : 0 < t') (he : n * t' = n' * t) (k : Nat) : fit n t k = fit n' t' k := by
  unfold fit; rw [fitS_ratio ht ht' he]
theorem near_up (n c j : Nat) : near (n * 10 ^ (c + j)) (10 ^ c) = n * 10 ^ j := by
  rw [show n * 10 ^ (c + j) = n * 10 ^ j * 10 ^ c by rw [Nat.pow_add, Nat.mul_assoc, Nat.mul_comm (10 ^ c)]]
  exact near_whole _ _ (pp _)
theorem fit_succ (n t s : Nat) : fit n t (s + 1) = if near (n * 10 ^ s) t < 10 ^ 34 then some (strip (near (n * 10 ^ s) t) s) else fit n t s := by
  unfold fit
  rw [fitS]
  split <;> rfl
theorem fit_room (n c : Nat) : ∀ j, n * 10 ^ j < 10 ^ 34 → fit n (10 ^ c) (c + j + 1) = some (strip n c) := by
  intro j h
  rw [fit_succ, near_up, if_pos h, strip_tens]
theorem fit_more (n c : Nat) : ∀ j, fit n (10 ^ c) (c + 1 + j) = fit n (10 ^ c) (c + 1)
  | 0 => rfl
  | j + 1 => by
    by_cases h : n * 10 ^ (j + 1) < 10 ^ 34
    · have h0 : n * 10 ^ 0 < 10 ^ 34 := Nat.lt_of_le_of_lt (Nat.mul_le_mul_left n (Nat.pow_le_pow_right (by decide) (Nat.zero_le _))) h
      have e1 := fit_room n c (j + 1) h
      have e2 := fit_room n c 0 h0
      rw [show c + 1 + (j + 1) = c + (j + 1) + 1 by omega, e1]
      exact e2.symm
    · have e := fit_more n c j
      rw [← e, show c + 1 + (j + 1) = (c + (j + 1)) + 1 by omega, fit_succ, near_up, if_neg h]
      congr 1; omega
/-- the greatest scale that need be looked at is the number's own -/
theorem fit_own (n c : Nat) : fit n (10 ^ c) (min c 18 + 1) = fit n (10 ^ c) 19 := by
  rcases Nat.le_total c 18 with h | h
  · rw [Nat.min_eq_left h]
    have := fit_more n c (18 - c)
    rw [← this]; congr 1; omega
  · rw [Nat.min_eq_right h]
/-- one digit more stands for all that a quotient leaves -/
theorem near_push {A B q U : Nat} (hB : 0 < B) (hU : 0 < U) (h1 : q * B < A) (h2 : A < (q + 1) * B) (h5 : U % 5 = 0) : near (10 * q + 1) (10 * (2 * U)) = near A (B * (2 * U)) := by
  have ht : 0 < 10 * (2 * U) := by omega
  refine (near_eq (Nat.mul_pos hB (by omega)) ?_).symm
  have h := near_to (10 * q + 1) (10 * (2 * U)) ht
  generalize near (10 * q + 1) (10 * (2 * U)) = m at *
  obtain ⟨V, rfl⟩ : ∃ V, U = 5 * V := ⟨U / 5, by omega⟩
  unfold NearTo at h ⊢
  obtain ⟨M, hM⟩ : ∃ M, M = m * V := ⟨_, rfl⟩
  have e1 : m * (10 * (2 * (5 * V))) = 100 * M := by rw [hM, ← Nat.mul_assoc 10 2, ← Nat.mul_assoc (10 * 2) 5, Nat.mul_left_comm]
  rw [e1] at h
  have a1 : 10 * M ≤ q + 5 * V := by omega
  have a2 : q + 1 ≤ 10 * M + 5 * V := by omega
  have e2 : m * (B * (2 * (5 * V))) = 10 * M * B := by
    rw [hM, ← Nat.mul_assoc 2 5, Nat.mul_left_comm B, Nat.mul_left_comm m, Nat.mul_comm B V, ← Nat.mul_assoc m V, Nat.mul_assoc (2 * 5)]
  have e3 : B * (2 * (5 * V)) = 2 * (5 * V * B) := by rw [Nat.mul_left_comm, Nat.mul_comm B]
  rw [e2, e3]
  have b1 : 10 * M * B ≤ q * B + 5 * V * B := by rw [← Nat.add_mul]; exact Nat.mul_le_mul_right _ a1
  have b2 : (q + 1) * B ≤ 10 * M * B + 5 * V * B := by rw [← Nat.add_mul]; exact Nat.mul_le_mul_right _ a2
  generalize 10 * M * B = X at *
  generalize 5 * V * B = Y at *
  generalize q * B = Q at *
  generalize (q + 1) * B = R at *
  exact .inl ⟨by omega, by omega⟩
theorem ten_split (s : Nat) (h : s ≤ 18) : 10 ^ (19 - s) = 2 * (5 * 10 ^ (18 - s)) ∧ 10 ^ (20 - s) = 10 * (2 * (5 * 10 ^ (18 - s))) := by
  have h1 : 10 ^ (19 - s) = 10 ^ (18 - s) * 10 := by rw [← Nat.pow_succ]; congr 1; omega
  have h2 : 10 ^ (20 - s) = 10 ^ (18 - s) * 10 * 10 := by rw [← Nat.pow_succ, ← Nat.pow_succ]; congr 1; omega
  rw [h1, h2]
  generalize 10 ^ (18 - s) = x
  omega
theorem near_den (A B s : Nat) (hB : 0 < B) (hs : s ≤ 19) : near (A * 10 ^ s) (B * 10 ^ 19) = near A (B * 10 ^ (19 - s)) := by
  refine near_ratio (Nat.mul_pos hB (pp _)) (Nat.mul_pos hB (pp _)) ?_
  have e : 10 ^ 19 = 10 ^ s * 10 ^ (19 - s) := by rw [← Nat.pow_add]; congr 1; omega
  rw [e, Nat.mul_assoc, Nat.mul_left_comm (10 ^ s)]
theorem fit_push {A B q : Nat} (hB : 0 < B) (h1 : q * B < A) (h2 : A < (q + 1) * B) : ∀ k, k ≤ 19 → fit (10 * q + 1) (10 ^ 20) k = fit A (B * 10 ^ 19) k
  | 0, _ => rfl
  | s + 1, hs => by
    obtain ⟨e1, e2⟩ := ten_split s (by omega)
    have e : near ((10 * q + 1) * 10 ^ s) (10 ^ 20) = near (A * 10 ^ s) (B * 10 ^ 19) := by
      rw [near_ten _ s 20 (by omega), near_den A B s hB (by omega), e1, e2]
      exact near_push hB (Nat.mul_pos (by decide) (pp _)) h1 h2 (Nat.mul_mod_right _ _)
    rw [fit_succ, fit_succ, e, fit_push hB h1 h2 s (by omega)]
theorem fit_quot {A B q : Nat} (hB : 0 < B) (h : q * B = A) (k : Nat) : fit q (10 ^ 19) k = fit A (B * 10 ^ 19) k := by
  refine fit_ratio (pp _) (Nat.mul_pos hB (pp _)) ?_ k
  rw [← h, Nat.mul_assoc]
/-- the number in units of 10^-18 -/
def uni (c s : Nat) : Nat := c * 10 ^ (18 - s)
theorem uni_raised (c s m : Nat) (h1 : s ≤ m) (h2 : m ≤ 18) : uni c s = c * 10 ^ (m - s) * 10 ^ (18 - m) := by
  unfold uni
  rw [Nat.mul_assoc, ← Nat.pow_add]
  congr 2; omega
/-- a size at a scale, fitted, is that of its units -/
theorem fit_uni (x m : Nat) (h : m ≤ 18) (k : Nat) : fit x (10 ^ m) k = fit (x * 10 ^ (18 - m)) (10 ^ 18) k := by
  refine fit_ratio (pp _) (pp _) ?_ k
  rw [Nat.mul_assoc, ← Nat.pow_add, show 18 - m + m = 18 by omega]
/-- the sum of signed sizes -/
def sumN (an : Bool) (a : Nat) (bn : Bool) (b : Nat) : Bool × Nat := if an = bn then (an, a + b) else if b ≤ a then (an, a - b) else (bn, b - a)
theorem sumN_scale (an : Bool) (a : Nat) (bn : Bool) (b P : Nat) (hP : 0 < P) : sumN an (a * P) bn (b * P) = ((sumN an a bn b).1, (sumN an a bn b).2 * P) := by
  unfold sumN
  split
  · rw [Nat.add_mul]
  · by_cases h : b ≤ a
    · rw [if_pos h, if_pos (Nat.mul_le_mul_right _ h), Nat.sub_mul]
    · rw [if_neg h, if_neg (fun h2 => h (Nat.le_of_mul_le_mul_right h2 hP)), Nat.sub_mul]
/-- the order, as the program and the document tell it -/
def ordN (an : Bool) (a : Nat) (bn : Bool) (b : Nat) : Int := if an = bn then (if a = b then 0 else if (a < b) = (an = false) then -1 else 1) else if an then -1 else 1
theorem fit_exact {q S : Nat} (h : q < 10 ^ 34) (hS : S ≤ 18) : fit q (10 ^ S) 19 = some (strip q S) := by
  rw [← fit_own, Nat.min_eq_left hS]
  exact fit_room q S 0 (by rwa [Nat.pow_zero, Nat.mul_one])
/-- the number that the program tries at a scale -/
def nbQ (x : Nat) (away : Bool) (P : Nat) : Nat := if away = true then x / P + 1 else if x % P = 0 then x / P - 1 else x / P
/-- the neighbour by units, as the program looks for it -/
def nbP (x : Nat) (away : Bool) : Nat → Option (Nat × Nat)
  | 0 => none
  | S + 1 => if nbQ x away (10 ^ (18 - S)) < 10 ^ 34 then some (strip (nbQ x away (10 ^ (18 - S))) S) else nbP x away S
/-- the same, as the document looks for it -/
def upR (x : Nat) (down : Bool) : Nat → Option (Nat × Nat)
  | 0 => none
  | S + 1 => if down = true ∧ x ≤ 10 ^ (52 - S) then fit (x - 10 ^ (18 - S)) (10 ^ 18) 19 else if down = false ∧ x < 10 ^ (52 - S) ∧ (0 < S ∨ x + 10 ^ (18 - S) < 10 ^ 52) then fit (x + 10 ^ (18 - S)) (10 ^ 18) 19 else upR x down S
theorem room_whole {x c s S : Nat} (hx : x = c * 10 ^ (18 - s)) (hc : c < 10 ^ 34) (h : S = 18 ∨ (S ≤ 17 ∧ 10 ^ (51 - S) ≤ x)) : ∃ q, x = q * 10 ^ (18 - S) := by
  rcases h with rfl | ⟨hS, h⟩
  · exact ⟨x, by rw [Nat.sub_self, Nat.pow_zero, Nat.mul_one]⟩
  · by_cases hs : s ≤ S
    · refine ⟨c * 10 ^ (S - s), ?_⟩
      rw [hx, Nat.mul_assoc, ← Nat.pow_add]
      congr 2; omega
    · exfalso
      have h1 : 10 ^ (18 - s) ≤ 10 ^ (17 - S) := Nat.pow_le_pow_right (by decide) (by omega)
      have h2 : c * 10 ^ (18 - s) ≤ c * 10 ^ (17 - S) := Nat.mul_le_mul_left _ h1
      have h3 : c * 10 ^ (17 - S) < 10 ^ 34 * 10 ^ (17 - S) := Nat.mul_lt_mul_of_pos_right hc (pp _)
      have h4 : 10 ^ (51 - S) = 10 ^ 34 * 10 ^ (17 - S) := by rw [← Nat.pow_add]; congr 1; omega
      omega
theorem down_same {x c s : Nat} (hx : x = c * 10 ^ (18 - s)) (hc : c < 10 ^ 34) (h0 : 0 < x) : ∀ k, k ≤ 19 → (k = 19 ∨ (k ≤ 18 ∧ 10 ^ (52 - k) ≤ x)) → nbP x false k = upR x true k
  | 0, _, _ => rfl
  | S + 1, hk, h => by
    obtain ⟨q, hq⟩ := room_whole (S := S) hx hc (by
      rcases h with h | ⟨h, h2⟩
      · exact .inl (by omega)
      · exact .inr ⟨by omega, by rwa [show 51 - S = 52 - (S + 1) by omega]⟩)
    have hP : 0 < 10 ^ (18 - S) := pp _
    have e52 : 10 ^ (52 - S) = 10 ^ 34 * 10 ^ (18 - S) := by rw [← Nat.pow_add]; congr 1; omega
    have hfu := fun y => fit_uni y S (by omega) 19
    have ih := down_same hx hc h0 S (by omega)
    rw [nbP, upR]
    generalize hPP : 10 ^ (18 - S) = P at *
    have hq0 : 0 < q := by
      rcases Nat.eq_zero_or_pos q with r | r
      · rw [r, Nat.zero_mul] at hq; omega
      · exact r
    have hQ : nbQ x false P = q - 1 := by
      unfold nbQ
      rw [if_neg (by decide), hq, Nat.mul_mod_left, if_pos rfl, Nat.mul_div_cancel _ hP]
    rw [hQ]
    by_cases hle : q ≤ 10 ^ 34
    · rw [if_pos (by omega), if_pos ⟨rfl, by rw [e52, hq]; exact Nat.mul_le_mul_right _ hle⟩]
      have e : x - P = (q - 1) * P := by rw [hq, Nat.sub_mul, Nat.one_mul]
      rw [e, ← hfu, fit_exact (by omega) (by omega)]
    · have hgt : 10 ^ 34 * P ≤ x := by rw [hq]; exact Nat.mul_le_mul_right _ (by omega)
      have hgt2 : ¬ x ≤ 10 ^ (52 - S) := by
        rw [e52, hq]; intro h3
        exact hle (Nat.le_of_mul_le_mul_right h3 hP)
      rw [if_neg (by omega), if_neg (fun h3 => hgt2 h3.2), if_neg (fun h3 => by cases h3.1)]
      exact ih (.inr ⟨by omega, by rw [e52]; exact hgt⟩)
theorem up_same {x c s : Nat} (hx : x = c * 10 ^ (18 - s)) (hc : c < 10 ^ 34) : ∀ k, k ≤ 19 → (k = 19 ∨ (k ≤ 18 ∧ 10 ^ (52 - k) ≤ x)) → nbP x true k = upR x false k
  | 0, _, _ => rfl
  | S + 1, hk, h => by
    obtain ⟨q, hq⟩ := room_whole (S := S) hx hc (by
      rcases h with h | ⟨h, h2⟩
      · exact .inl (by omega)
      · exact .inr ⟨by omega, by rwa [show 51 - S = 52 - (S + 1) by omega]⟩)
    have hP : 0 < 10 ^ (18 - S) := pp _
    have e52 : 10 ^ (52 - S) = 10 ^ 34 * 10 ^ (18 - S) := by rw [← Nat.pow_add]; congr 1; omega
    have e520 : S = 0 → 10 ^ 52 = 10 ^ 34 * 10 ^ (18 - S) := fun h => by rw [h]
    have hfu := fun y => fit_uni y S (by omega) 19
    have ih := up_same hx hc S (by omega)
    rw [nbP, upR]
    have hten : 0 < S → 10 ^ (18 - (S - 1)) = 10 * 10 ^ (18 - S) := fun h => by rw [show 18 - (S - 1) = 18 - S + 1 by omega, Nat.pow_succ, Nat.mul_comm]
    generalize hPP : 10 ^ (18 - S) = P at *
    have hQ : nbQ x true P = q + 1 := by
      unfold nbQ
      rw [if_pos rfl, hq, Nat.mul_div_cancel _ hP]
    have e : x + P = (q + 1) * P := by rw [hq, Nat.add_mul, Nat.one_mul]
    rw [hQ]
    by_cases hlt : q + 1 < 10 ^ 34
    · have hx1 : x < 10 ^ (52 - S) := by rw [e52, hq]; exact Nat.mul_lt_mul_of_pos_right (by omega) hP
      have hx2 : 0 < S ∨ x + P < 10 ^ 52 := by
        rcases Nat.eq_zero_or_pos S with h0 | h0
        · right; rw [e520 h0, e]; exact Nat.mul_lt_mul_of_pos_right hlt hP
        · exact .inl h0
      rw [if_pos hlt, if_neg (fun h3 => by cases h3.1), if_pos ⟨rfl, hx1, hx2⟩, e, ← hfu, fit_exact hlt (by omega)]
    · rw [if_neg hlt, if_neg (fun h3 => by cases h3.1)]
      by_cases hq1 : q + 1 = 10 ^ 34
      · have hx1 : x < 10 ^ (52 - S) := by rw [e52, hq]; exact Nat.mul_lt_mul_of_pos_right (by omega) hP
        rcases Nat.eq_zero_or_pos S with h0 | h0
        · rw [if_neg (fun h3 => by
            rcases h3.2.2 with h4 | h4
            · omega
            · rw [e520 h0, e, hq1] at h4; exact Nat.lt_irrefl _ h4)]
          subst h0
          rfl
        · rw [if_pos ⟨rfl, hx1, .inl h0⟩, e, hq1]
          obtain ⟨Z, rfl⟩ : ∃ Z, S = Z + 1 := ⟨S - 1, by omega⟩
          have ht := hten h0
          rw [Nat.add_sub_cancel] at ht
          have hd : x / (10 * P) = 10 ^ 33 - 1 := by
            rw [Nat.mul_comm, ← Nat.div_div_eq_div_mul, hq, Nat.mul_div_cancel _ hP, show q = 10 ^ 34 - 1 by omega]
          have hQ2 : nbQ x true (10 * P) = 10 ^ 33 := by
            unfold nbQ; rw [if_pos rfl, hd]
          have e3 : 10 ^ 34 * P = 10 ^ 33 * 10 ^ (18 - Z) := by rw [ht, ← Nat.mul_assoc]
          rw [nbP, ht, hQ2, if_pos (by decide), e3, ← fit_uni _ Z (by omega), fit_exact (by decide) (by omega)]
      · have hge : 10 ^ 34 * P ≤ x := by rw [hq]; exact Nat.mul_le_mul_right _ (by omega)
        rw [if_neg (fun h3 => by rw [e52] at h3; omega)]
        exact ih (.inr ⟨by omega, by rw [e52]; exact hge⟩)
end Go.Proofs.YtjkallelniggpaaDoor.Fit
