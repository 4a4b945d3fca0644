/-
  Plain facts about the grid of decimals: fitting keeps the order, neighbours have nothing between: no program stands in this text.
  Plain facts about signed sizes: sums, order, fitting: no program stands in this text.
-/
import Derived.Test.YtjkallelniggpaaGreatDoorBa
import Derived.Test.YtjkallelniggpaaGreatDoorDecTwo
namespace Go.Proofs.YtjkallelniggpaaGreatDoor.Fit

theorem near_mono {n n' t : Nat} (ht : 0 < t) (h : n ≤ n') : near n t ≤ near n' t := by
  have h1 := near_to n t ht
  have h2 := near_to n' t ht
  generalize near n t = m at *
  generalize near n' t = m' at *
  apply Nat.le_of_not_lt
  intro hlt
  obtain ⟨d, rfl⟩ : ∃ d, m = m' + 1 + d := ⟨m - (m' + 1), by omega⟩
  unfold NearTo at h1 h2
  have e : (m' + 1 + d) * t = m' * t + t + d * t := by rw [Nat.add_mul, Nat.add_mul, Nat.one_mul]
  rw [e] at h1
  rcases Nat.eq_zero_or_pos d with rfl | hd
  · rw [Nat.zero_mul] at h1
    generalize m' * t = M at *
    omega
  · have hdt : t ≤ d * t := Nat.le_mul_of_pos_left _ hd
    generalize m' * t = M at *
    generalize d * t = D at *
    omega
theorem fitS_spec {n t m s : Nat} : ∀ k, fitS n t k = some (m, s) → s < k ∧ m = near (n * 10 ^ s) t ∧ m < 10 ^ 34 ∧ ∀ s', s < s' → s' < k → ¬ near (n * 10 ^ s') t < 10 ^ 34
  | 0, h => by cases h
  | j + 1, h => by
    rw [fitS] at h
    by_cases hh : near (n * 10 ^ j) t < 10 ^ 34
    · rw [if_pos hh] at h
      injection h with h
      injection h with h1 h2
      subst h2
      subst h1
      exact ⟨by omega, rfl, hh, fun s' h1 h2 => by omega⟩
    · rw [if_neg hh] at h
      obtain ⟨a, b, c, d⟩ := fitS_spec j h
      refine ⟨by omega, b, c, fun s' h1 h2 => ?_⟩
      by_cases h3 : s' = j
      · rw [h3]; exact hh
      · exact d s' h1 (by omega)
theorem fitS_room {n t : Nat} (h : near (n * 10 ^ 0) t < 10 ^ 34) : ∀ k, 0 < k → ∃ p, fitS n t k = some p
  | 0, hk => absurd hk (by decide)
  | 1, _ => ⟨_, by rw [fitS, if_pos h]⟩
  | k + 2, _ => by
    rw [fitS]
    by_cases hh : near (n * 10 ^ (k + 1)) t < 10 ^ 34
    · rw [if_pos hh]; exact ⟨_, rfl⟩
    · rw [if_neg hh]; exact fitS_room h (k + 1) (by omega)
theorem ten_step {s : Nat} (h : s ≤ 17) : 10 ^ (18 - s) = 10 * 10 ^ (18 - (s + 1)) := by
  rw [show 18 - s = 18 - (s + 1) + 1 by omega, Nat.pow_succ, Nat.mul_comm]
theorem strip_uni (c : Nat) : ∀ s, s ≤ 18 → uni (strip c s).1 (strip c s).2 = uni c s := by
  intro s
  induction s generalizing c with
  | zero => intro _; rfl
  | succ s ih =>
    intro hs
    unfold strip
    split
    · rename_i h
      rw [ih (c / 10) (by omega)]
      unfold uni
      rw [ten_step (show s ≤ 17 by omega), ← Nat.mul_assoc]
      congr 1; omega
    · rfl
theorem uni_mono {m m' : Nat} (s : Nat) (h : m ≤ m') : uni m s ≤ uni m' s := Nat.mul_le_mul_right _ h
/-- a finer scale's number that has room lies below 10^33 of the coarser one -/
theorem uni_cross {m m' s s' : Nat} (hm : m < 10 ^ 34) (hm' : 10 ^ 33 ≤ m') (h : s' < s) (hs : s ≤ 18) : uni m s ≤ uni m' s' := by
  unfold uni
  have h1 : 10 ^ (18 - s) ≤ 10 ^ (18 - (s' + 1)) := Nat.pow_le_pow_right (by decide) (by omega)
  have h2 : m * 10 ^ (18 - s) ≤ m * 10 ^ (18 - (s' + 1)) := Nat.mul_le_mul_left _ h1
  have h3 : m * 10 ^ (18 - (s' + 1)) ≤ 10 ^ 34 * 10 ^ (18 - (s' + 1)) := Nat.mul_le_mul_right _ (by omega)
  have h4 : m' * 10 ^ (18 - s') = m' * 10 * 10 ^ (18 - (s' + 1)) := by rw [ten_step (show s' ≤ 17 by omega), Nat.mul_assoc]
  have h5 : 10 ^ 34 * 10 ^ (18 - (s' + 1)) ≤ m' * 10 * 10 ^ (18 - (s' + 1)) := Nat.mul_le_mul_right _ (by omega)
  omega
theorem near_tenth {N N' t : Nat} (ht : 0 < t) (e : N' = 10 * N) (h : ¬ near N' t < 10 ^ 34) : 10 ^ 33 ≤ near N t := by
  subst e
  have h1 := near_to (10 * N) t ht
  have h2 := near_to N t ht
  generalize near (10 * N) t = M at *
  generalize near N t = m at *
  apply Nat.le_of_not_lt
  intro hlt
  have a1 : (m + 1) * t ≤ 10 ^ 33 * t := Nat.mul_le_mul_right _ hlt
  have a2 : 10 ^ 34 * t ≤ M * t := Nat.mul_le_mul_right _ (by omega)
  rw [Nat.add_mul, Nat.one_mul] at a1
  unfold NearTo at h1 h2
  generalize m * t = A at *
  generalize M * t = B at *
  omega
theorem fit_mono {n n' t c s c' s' : Nat} (ht : 0 < t) (h : n ≤ n') (h1 : fit n t 19 = some (c, s)) (h2 : fit n' t 19 = some (c', s')) : uni c s ≤ uni c' s' := by
  unfold fit at h1 h2
  obtain ⟨⟨m, s0⟩, f1, e1⟩ := Option.map_eq_some_iff.1 h1
  obtain ⟨⟨m', s1⟩, f2, e2⟩ := Option.map_eq_some_iff.1 h2
  obtain ⟨a1, a2, a3, a4⟩ := fitS_spec 19 f1
  obtain ⟨b1, b2, b3, b4⟩ := fitS_spec 19 f2
  have u1 := strip_uni m s0 (by omega)
  have u2 := strip_uni m' s1 (by omega)
  rw [show strip m s0 = (c, s) from e1] at u1
  rw [show strip m' s1 = (c', s') from e2] at u2
  rw [show uni c s = uni m s0 from u1, show uni c' s' = uni m' s1 from u2]
  have hn : ∀ j, near (n * 10 ^ j) t ≤ near (n' * 10 ^ j) t := fun j => near_mono ht (Nat.mul_le_mul_right _ h)
  have hle : s1 ≤ s0 := by
    apply Nat.le_of_not_lt
    intro hlt
    have := hn s1
    exact a4 s1 hlt b1 (by omega)
  by_cases he : s1 = s0
  · subst he
    have := hn s1
    exact uni_mono s1 (by omega)
  · refine uni_cross a3 ?_ (show s1 < s0 by omega) (by omega)
    rw [b2]
    exact near_tenth ht (by rw [Nat.pow_succ, ← Nat.mul_assoc, Nat.mul_comm]) (b4 (s1 + 1) (by omega) (by omega))
theorem uni_inj {c s c' s' : Nat} (h1 : s ≤ 18) (h2 : s' ≤ 18) (h3 : s ≠ 0 → c % 10 ≠ 0) (h4 : s' ≠ 0 → c' % 10 ≠ 0) (h : uni c s = uni c' s') : c = c' ∧ s = s' := by
  have key : ∀ {c s c' s' : Nat}, s ≤ s' → s' ≤ 18 → (s' ≠ 0 → c' % 10 ≠ 0) → uni c s = uni c' s' → c = c' ∧ s = s' := by
    intro c s c' s' hle hs' h4 h
    unfold uni at h
    obtain ⟨d, rfl⟩ : ∃ d, s' = s + d := ⟨s' - s, by omega⟩
    have e : 10 ^ (18 - s) = 10 ^ d * 10 ^ (18 - (s + d)) := by rw [← Nat.pow_add]; congr 1; omega
    rw [e, ← Nat.mul_assoc] at h
    have h5 := Nat.eq_of_mul_eq_mul_right (pp _) h
    cases d with
    | zero => rw [Nat.pow_zero, Nat.mul_one] at h5; exact ⟨h5, rfl⟩
    | succ d =>
      exfalso
      apply h4 (by omega)
      rw [← h5, Nat.pow_succ, ← Nat.mul_assoc]
      exact Nat.mul_mod_left _ _
  rcases Nat.le_total s s' with hle | hle
  · exact key hle h2 h4 h
  · obtain ⟨a, b⟩ := key hle h1 h3 h.symm
    exact ⟨a.symm, b.symm⟩
theorem uni_lt_iff (c s : Nat) {x : Nat} : x < uni c s ↔ x / 10 ^ (18 - s) < c := by
  unfold uni
  exact (Nat.div_lt_iff_lt_mul (pp _)).symm
/-- a number of a coarser scale that lies above x -/
theorem coarse_up {x c1 s1 k : Nat} (h : s1 ≤ k) (hk : k ≤ 18) (hx : x < uni c1 s1) : uni (x / 10 ^ (18 - k) + 1) k ≤ uni c1 s1 := by
  have e : uni c1 s1 = uni (c1 * 10 ^ (k - s1)) k := by
    unfold uni
    rw [Nat.mul_assoc, ← Nat.pow_add]; congr 2; omega
  rw [e] at hx ⊢
  exact uni_mono k ((uni_lt_iff _ _).1 hx)
theorem up_above (x k : Nat) : x < uni (x / 10 ^ (18 - k) + 1) k := (uni_lt_iff _ _).2 (Nat.lt_succ_self _)
theorem nbQ_up (x P : Nat) : nbQ x true P = x / P + 1 := if_pos rfl
theorem nbP_none {x : Nat} : ∀ k, k ≤ 19 → nbP x true k = none → ∀ c1 s1, s1 < k → c1 < 10 ^ 34 → ¬ x < uni c1 s1
  | 0, _, _ => fun _ _ h => by omega
  | k + 1, hk, h => by
    rw [nbP, nbQ_up] at h
    by_cases hh : x / 10 ^ (18 - k) + 1 < 10 ^ 34
    · rw [if_pos hh] at h; cases h
    · rw [if_neg hh] at h
      intro c1 s1 hs hc hx
      by_cases he : s1 = k
      · subst he
        have := (uni_lt_iff _ _).1 hx
        omega
      · exact nbP_none k (by omega) h c1 s1 (by omega) hc hx
theorem nbP_up {x c s : Nat} : ∀ k, k ≤ 19 → nbP x true k = some (c, s) → ∃ q S, S < k ∧ q < 10 ^ 34 ∧ strip q S = (c, s) ∧ x < uni q S ∧ ∀ c1 s1, s1 < k → c1 < 10 ^ 34 → x < uni c1 s1 → uni q S ≤ uni c1 s1
  | 0, _, h => by cases h
  | k + 1, hk, h => by
    rw [nbP, nbQ_up] at h
    by_cases hh : x / 10 ^ (18 - k) + 1 < 10 ^ 34
    · rw [if_pos hh] at h
      exact ⟨_, k, by omega, hh, Option.some.inj h, up_above x k, fun c1 s1 hs hc hx => coarse_up (by omega) (by omega) hx⟩
    · rw [if_neg hh] at h
      obtain ⟨q, S, a1, a2, a3, a4, a5⟩ := nbP_up k (by omega) h
      refine ⟨q, S, by omega, a2, a3, a4, fun c1 s1 hs hc hx => ?_⟩
      by_cases he : s1 = k
      · subst he
        have := (uni_lt_iff _ _).1 hx
        omega
      · exact a5 c1 s1 (by omega) hc hx
theorem nbQ_down {x P : Nat} (hx : 0 < x) (hP : 0 < P) : nbQ x false P * P < x ∧ ∀ c, c * P < x → c ≤ nbQ x false P := by
  have h1 := Nat.div_add_mod x P
  have h2 := Nat.mod_lt x hP
  unfold nbQ
  rw [if_neg (by decide)]
  have hc : ∀ c, c * P < x → c ≤ x / P := fun c h => (Nat.le_div_iff_mul_le hP).2 (by omega)
  by_cases h : x % P = 0
  · rw [if_pos h]
    have h3 : x / P * P = x := by rw [Nat.mul_comm]; omega
    have h4 : 0 < x / P := by
      rcases Nat.eq_zero_or_pos (x / P) with h4 | h4
      · rw [h4, Nat.zero_mul] at h3; omega
      · exact h4
    refine ⟨by rw [Nat.sub_mul, h3, Nat.one_mul]; omega, fun c hcx => ?_⟩
    have h5 := hc c hcx
    have h6 : c ≠ x / P := fun e => by rw [e, h3] at hcx; omega
    omega
  · rw [if_neg h]
    exact ⟨by rw [Nat.mul_comm]; omega, hc⟩
theorem nbP_down {x c s : Nat} (hx0 : 0 < x) : ∀ k, k ≤ 19 → nbP x false k = some (c, s) → ∃ q S, S < k ∧ q < 10 ^ 34 ∧ strip q S = (c, s) ∧ uni q S < x ∧ ∀ c1 s1, s1 < k → c1 < 10 ^ 34 → uni c1 s1 < x → uni c1 s1 ≤ uni q S
  | 0, _, h => by cases h
  | k + 1, hk, h => by
    rw [nbP] at h
    obtain ⟨d1, d2⟩ := nbQ_down (P := 10 ^ (18 - k)) hx0 (pp _)
    by_cases hh : nbQ x false (10 ^ (18 - k)) < 10 ^ 34
    · rw [if_pos hh] at h
      refine ⟨_, k, by omega, hh, Option.some.inj h, d1, fun c1 s1 hs hc hx => ?_⟩
      have e : uni c1 s1 = uni (c1 * 10 ^ (k - s1)) k := by
        unfold uni
        rw [Nat.mul_assoc, ← Nat.pow_add]; congr 2; omega
      rw [e] at hx ⊢
      exact uni_mono k (d2 _ hx)
    · rw [if_neg hh] at h
      obtain ⟨q, S, a1, a2, a3, a4, a5⟩ := nbP_down hx0 k (by omega) h
      refine ⟨q, S, by omega, a2, a3, a4, fun c1 s1 hs hc hx => ?_⟩
      by_cases he : s1 = k
      · subst he
        obtain ⟨j, rfl⟩ : ∃ j, s1 = j + 1 := ⟨s1 - 1, by omega⟩
        have e3 : uni (10 ^ 33) j = 10 ^ 34 * 10 ^ (18 - (j + 1)) := by
          unfold uni
          rw [ten_step (show j ≤ 17 by omega), ← Nat.mul_assoc]
        have e4 : 10 ^ 34 * 10 ^ (18 - (j + 1)) ≤ nbQ x false (10 ^ (18 - (j + 1))) * 10 ^ (18 - (j + 1)) := Nat.mul_le_mul_right _ (by omega)
        have e5 := a5 (10 ^ 33) j (by omega) (by decide) (by omega)
        have e6 : uni c1 (j + 1) ≤ 10 ^ 34 * 10 ^ (18 - (j + 1)) := Nat.mul_le_mul_right _ (by omega)
        omega
      · exact a5 c1 s1 (by omega) hc hx
theorem nbP_room {x : Nat} (hx0 : 0 < x) (hx : x ≤ 10 ^ 52) : ∀ k, 0 < k → ∃ p, nbP x false k = some p
  | 0, h => absurd h (by decide)
  | 1, _ => by
    rw [nbP]
    obtain ⟨d1, _⟩ := nbQ_down (P := 10 ^ (18 - 0)) hx0 (pp _)
    have h : nbQ x false (10 ^ (18 - 0)) < 10 ^ 34 := by
      have e : 10 ^ 52 = 10 ^ 34 * 10 ^ (18 - 0) := rfl
      exact Nat.lt_of_mul_lt_mul_right (a := 10 ^ (18 - 0)) (by omega)
    rw [if_pos h]; exact ⟨_, rfl⟩
  | k + 2, _ => by
    rw [nbP]
    by_cases hh : nbQ x false (10 ^ (18 - (k + 1))) < 10 ^ 34
    · rw [if_pos hh]; exact ⟨_, rfl⟩
    · rw [if_neg hh]; exact nbP_room hx0 hx (k + 1) (by omega)
theorem strip_last (c : Nat) : ∀ s, (strip c s).2 ≠ 0 → (strip c s).1 % 10 ≠ 0 := by
  intro s
  induction s generalizing c with
  | zero => intro h; exact absurd rfl h
  | succ s ih =>
    unfold strip
    split
    · exact ih (c / 10)
    · rename_i h; intro _; exact h
/-- what is above the neighbour below, and the other way round -/
theorem down_up {c s c1 s1 : Nat} (h1 : s ≤ 18) (h2 : c < 10 ^ 34) (h3 : s ≠ 0 → c % 10 ≠ 0) (h : nbP (uni c s) true 19 = some (c1, s1)) : nbP (uni c1 s1) false 19 = some (c, s) ∧ uni c s < uni c1 s1 ∧ (∀ c2 s2, s2 ≤ 18 → c2 < 10 ^ 34 → uni c s < uni c2 s2 → uni c1 s1 ≤ uni c2 s2) := by
  obtain ⟨q, S, a1, a2, a3, a4, a5⟩ := nbP_up 19 (by omega) h
  have u := strip_uni q S (by omega)
  rw [a3] at u
  have u' : uni c1 s1 = uni q S := u
  have hlt : uni c s < uni c1 s1 := by rw [u']; exact a4
  have hmax : uni c1 s1 ≤ 10 ^ 52 := by
    rw [u']
    have e1 : 10 ^ (18 - S) ≤ 10 ^ 18 := Nat.pow_le_pow_right (by decide) (by omega)
    have e2 : q * 10 ^ (18 - S) ≤ 10 ^ 34 * 10 ^ 18 := Nat.mul_le_mul (by omega) e1
    unfold uni
    exact Nat.le_trans e2 (by decide)
  refine ⟨?_, hlt, fun c2 s2 hs hc hx => by rw [u']; exact a5 c2 s2 (by omega) hc hx⟩
  obtain ⟨⟨c0, s0⟩, hp⟩ := nbP_room (x := uni c1 s1) (by omega) hmax 19 (by omega)
  obtain ⟨q2, S2, b1, b2, b3, b4, b5⟩ := nbP_down (by omega) 19 (by omega) hp
  have v := strip_uni q2 S2 (by omega)
  rw [b3] at v
  have v' : uni c0 s0 = uni q2 S2 := v
  have g1 := b5 c s (by omega) h2 hlt
  have g2 : ¬ uni c s < uni q2 S2 := fun hh => by
    have := a5 q2 S2 b1 b2 hh
    omega
  have hs := strip_le q2 S2
  have hl := strip_last q2 S2
  rw [b3] at hs hl
  have e := uni_inj (c := c0) (s := s0) (c' := c) (s' := s) (by have := hs.2; simp at this; omega) h1 hl h3 (by omega)
  rw [hp, e.1, e.2]
theorem up_down {c s c1 s1 : Nat} (h1 : s ≤ 18) (h2 : c < 10 ^ 34) (h3 : s ≠ 0 → c % 10 ≠ 0) (h0 : 0 < uni c s) (h : nbP (uni c s) false 19 = some (c1, s1)) : nbP (uni c1 s1) true 19 = some (c, s) ∧ uni c1 s1 < uni c s ∧ (∀ c2 s2, s2 ≤ 18 → c2 < 10 ^ 34 → uni c2 s2 < uni c s → uni c2 s2 ≤ uni c1 s1) := by
  obtain ⟨q, S, a1, a2, a3, a4, a5⟩ := nbP_down h0 19 (by omega) h
  have u := strip_uni q S (by omega)
  rw [a3] at u
  have u' : uni c1 s1 = uni q S := u
  have hlt : uni c1 s1 < uni c s := by rw [u']; exact a4
  refine ⟨?_, hlt, fun c2 s2 hs hc hx => by rw [u']; exact a5 c2 s2 (by omega) hc hx⟩
  cases hp : nbP (uni c1 s1) true 19 with
  | none => exact absurd hlt (nbP_none 19 (by omega) hp c s (by omega) h2)
  | some p =>
    obtain ⟨c0, s0⟩ := p
    obtain ⟨q2, S2, b1, b2, b3, b4, b5⟩ := nbP_up 19 (by omega) hp
    have v := strip_uni q2 S2 (by omega)
    rw [b3] at v
    have v' : uni c0 s0 = uni q2 S2 := v
    have g1 := b5 c s (by omega) h2 hlt
    have g2 : ¬ uni q2 S2 < uni c s := fun hh => by
      have := a5 q2 S2 b1 b2 hh
      omega
    have hs := strip_le q2 S2
    have hl := strip_last q2 S2
    rw [b3] at hs hl
    have e := uni_inj (c := c0) (s := s0) (c' := c) (s' := s) (by have := hs.2; simp at this; omega) h1 hl h3 (by omega)
    rw [e.1, e.2]
end Go.Proofs.YtjkallelniggpaaGreatDoor.Fit
namespace Go.Proofs.YtjkallelniggpaaGreatDoor

/-- a signed size -/
def sv (g : Bool) (x : Nat) : Int := if g = true then -(x : Int) else (x : Int)
theorem sv_t (x : Nat) : sv true x = -(x : Int) := rfl
theorem sv_f (x : Nat) : sv false x = (x : Int) := rfl
theorem sv_sum (an bn : Bool) (a b : Nat) : sv (Fit.sumN an a bn b).1 (Fit.sumN an a bn b).2 = sv an a + sv bn b := by
  by_cases h : an = bn
  · subst h
    unfold Fit.sumN
    rw [if_pos rfl]
    show sv an (a + b) = _
    cases an
    · rw [sv_f, sv_f, sv_f]; omega
    · rw [sv_t, sv_t, sv_t]; omega
  · unfold Fit.sumN
    rw [if_neg h]
    by_cases h2 : b ≤ a
    · rw [if_pos h2]
      show sv an (a - b) = _
      cases an <;> cases bn <;> first | exact absurd rfl h | (simp only [sv_t, sv_f]; omega)
    · rw [if_neg h2]
      show sv bn (b - a) = _
      cases an <;> cases bn <;> first | exact absurd rfl h | (simp only [sv_t, sv_f]; omega)
theorem ordV_sv {na nb : Bool} {x y : Nat} (h1 : na = true → 0 < x) (h2 : nb = true → 0 < y) :
    (sv na x < sv nb y ∧ ordV na x nb y = -1) ∨ (sv na x = sv nb y ∧ ordV na x nb y = 0) ∨ (sv nb y < sv na x ∧ ordV na x nb y = 1) := by
  unfold ordV
  have hc : (x < y ∧ cmpv x y = -1) ∨ (x = y ∧ cmpv x y = 0) ∨ (y < x ∧ cmpv x y = 1) := by
    rcases Nat.lt_trichotomy x y with h | h | h
    · exact .inl ⟨h, cmpv_lt h⟩
    · subst h; exact .inr (.inl ⟨rfl, cmpv_eq x⟩)
    · exact .inr (.inr ⟨h, cmpv_gt h⟩)
  cases na <;> cases nb
  · rw [if_pos rfl, if_neg (by decide), sv_f, sv_f]
    omega
  · have := h2 rfl
    rw [if_neg (by decide), if_neg (by decide), sv_f, sv_t]
    omega
  · have := h1 rfl
    rw [if_neg (by decide), if_pos rfl, sv_f, sv_t]
    omega
  · rw [if_pos rfl, if_pos rfl, sv_t, sv_t]
    omega
theorem fit_nought {c s : Nat} (h : Fit.fit 0 (10 ^ 18) 19 = some (c, s)) : c = 0 := by
  rw [Fit.fit_exact (by decide) (by omega), Fit.strip_zero] at h
  injection h with h
  injection h with h _
  exact h.symm
theorem sv_fit_mono {g1 g2 : Bool} {n1 n2 c1 s1 c2 s2 : Nat} (h : sv g1 n1 ≤ sv g2 n2) (f1 : Fit.fit n1 (10 ^ 18) 19 = some (c1, s1)) (f2 : Fit.fit n2 (10 ^ 18) 19 = some (c2, s2)) :
    sv g1 (Fit.uni c1 s1) ≤ sv g2 (Fit.uni c2 s2) := by
  cases g1 <;> cases g2
  · rw [sv_f, sv_f] at h ⊢
    have := Fit.fit_mono (Fit.pp 18) (by omega) f1 f2
    omega
  · rw [sv_f, sv_t] at h ⊢
    obtain rfl : n1 = 0 := by omega
    obtain rfl : n2 = 0 := by omega
    have e1 := fit_nought f1
    have e2 := fit_nought f2
    subst e1 e2
    unfold Fit.uni
    rw [Nat.zero_mul, Nat.zero_mul]; decide
  · rw [sv_f, sv_t]
    omega
  · rw [sv_t, sv_t] at h ⊢
    have := Fit.fit_mono (Fit.pp 18) (by omega) f2 f1
    omega
theorem fit_inform {n t c s : Nat} (g : Bool) (h : Fit.fit n t 19 = some (c, s)) : formB (g && decide (0 < c)) c (s : Int) = true := by
  unfold Fit.fit at h
  obtain ⟨⟨m, s0⟩, f1, e1⟩ := Option.map_eq_some_iff.1 h
  obtain ⟨a1, a2, a3, a4⟩ := Fit.fitS_spec 19 f1
  obtain ⟨b1, b2, b3⟩ := strip_form a3 s0 (by omega)
  have e : Fit.strip m s0 = (c, s) := e1
  rw [e] at b1 b2 b3
  refine form_mk b2 b1 (fun _ hg => ?_) b3
  intro h0
  rw [h0] at hg
  cases g <;> cases hg
theorem sv_sign (g : Bool) (c s : Nat) : sv (g && decide (0 < c)) (Fit.uni c s) = sv g (Fit.uni c s) := by
  rcases Nat.eq_zero_or_pos c with h | h
  · subst h
    unfold Fit.uni
    rw [Nat.zero_mul]; cases g <;> rfl
  · rw [decide_eq_true h, Bool.and_true]
theorem form_signed {neg : Bool} {c S : Nat} (h3 : S = 0 → neg = true → c ≠ 0) (h4 : S ≠ 0 → c % 10 ≠ 0) (hn : neg = true) : 0 < Fit.uni c S := by
  have : 0 < c := by
    rcases Nat.eq_zero_or_pos S with h | h
    · have := h3 h hn; omega
    · have := h4 (by omega); omega
  exact Nat.mul_pos this (Fit.pp _)
/-- decimals in form of the same value are the same -/
theorem form_inj {na nb : Bool} {ca SA cb SB : Nat} (hA18 : SA ≤ 18) (hB18 : SB ≤ 18) (a3 : SA = 0 → na = true → ca ≠ 0) (a4 : SA ≠ 0 → ca % 10 ≠ 0) (b3 : SB = 0 → nb = true → cb ≠ 0) (b4 : SB ≠ 0 → cb % 10 ≠ 0)
    (h : sv na (Fit.uni ca SA) = sv nb (Fit.uni cb SB)) : na = nb ∧ ca = cb ∧ SA = SB := by
  have p1 := fun hn => form_signed a3 a4 hn
  have p2 := fun hn => form_signed b3 b4 hn
  have key : na = nb → na = nb ∧ ca = cb ∧ SA = SB := by
    intro hs
    subst hs
    have he : Fit.uni ca SA = Fit.uni cb SB := by
      cases na
      · rw [sv_f, sv_f] at h; omega
      · rw [sv_t, sv_t] at h; omega
    exact ⟨rfl, Fit.uni_inj hA18 hB18 a4 b4 he⟩
  cases na <;> cases nb
  · exact key rfl
  · have := p2 rfl
    rw [sv_f, sv_t] at h; omega
  · have := p1 rfl
    rw [sv_f, sv_t] at h; omega
  · exact key rfl
theorem sv_flip {neg : Bool} {c S : Nat} : sv (flip neg c) (Fit.uni c S) = -sv neg (Fit.uni c S) := by
  unfold flip
  rcases Nat.eq_zero_or_pos c with h | h
  · subst h
    unfold Fit.uni
    rw [Nat.zero_mul]; cases neg <;> rfl
  · rw [decide_eq_false (show ¬ c = 0 by omega)]
    cases neg
    · show sv true _ = _
      rw [sv_t, sv_f]
    · show sv false _ = _
      rw [sv_f, sv_t]; omega
end Go.Proofs.YtjkallelniggpaaGreatDoor
