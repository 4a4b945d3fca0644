/-
  PROVED: tarifflaw02.DecParts answers true for every two decimals (in form or not), where the list of powers of ten lies as the program's text lays it; the card ties that to the text.
  Plain facts about the grid of decimals: fitting keeps the order, neighbours have nothing between: no program stands in this text.
  Plain facts about signed sizes: sums, order, fitting: no program stands in this text.
  The law DecParts.
-/
import Derived.Test.YtcnkcfbodpkllaaDoorDecL
import Derived.Test.YtcnkcfbodpkllaaDoorLaid
import Derived.Test.YtcnkcfbodpkllaaDoorCards
import Derived.Test.YtcnkcfbodpkllaaDoorTie
import Derived.SevenTiedAt
import Derived.Test.YtcnkcfbodpkllaaDoorFit
import Derived.Test.YtcnkcfbodpkllaaDoorDecTwo
import Derived.Test.YtcnkcfbodpkllaaDoorDMod
namespace Go.Proofs.YtcnkcfbodpkllaaDoor.Fit

theorem near_mono {n n' t : Nat} (ht : 0 < t) (h : n ≤ n') : near n t ≤ near n' t := by
  have h1 := near_to n t ht
  have h2 := near_to n' t ht
  generalize near n t = m at *
  generalize near n' t = m' at *
  apply Nat.le_of_not_lt
  intro hlt
  obtain ⟨d, rfl⟩ : ∃ d, m = m' + 1 + d := ⟨m - (m' + 1), by omega⟩
  unfold NearTo at h1 h2
  have e : (m' + 1 + d) * t = m' * t + t + d * t := by rw [Nat.add_mul, Nat.add_mul, Nat.one_mul]
  rw [e] at h1
  rcases Nat.eq_zero_or_pos d with rfl | hd
  · rw [Nat.zero_mul] at h1
    generalize m' * t = M at *
    omega
  · have hdt : t ≤ d * t := Nat.le_mul_of_pos_left _ hd
    generalize m' * t = M at *
    generalize d * t = D at *
    omega
theorem fitS_spec {n t m s : Nat} : ∀ k, fitS n t k = some (m, s) → s < k ∧ m = near (n * 10 ^ s) t ∧ m < 10 ^ 34 ∧ ∀ s', s < s' → s' < k → ¬ near (n * 10 ^ s') t < 10 ^ 34
  | 0, h => by cases h
  | j + 1, h => by
    rw [fitS] at h
    by_cases hh : near (n * 10 ^ j) t < 10 ^ 34
    · rw [if_pos hh] at h
      injection h with h
      injection h with h1 h2
      subst h2
      subst h1
      exact ⟨by omega, rfl, hh, fun s' h1 h2 => by omega⟩
    · rw [if_neg hh] at h
      obtain ⟨a, b, c, d⟩ := fitS_spec j h
      refine ⟨by omega, b, c, fun s' h1 h2 => ?_⟩
      by_cases h3 : s' = j
      · rw [h3]; exact hh
      · exact d s' h1 (by omega)
theorem fitS_room {n t : Nat} (h : near (n * 10 ^ 0) t < 10 ^ 34) : ∀ k, 0 < k → ∃ p, fitS n t k = some p
  | 0, hk => absurd hk (by decide)
  | 1, _ => ⟨_, by rw [fitS, if_pos h]⟩
  | k + 2, _ => by
    rw [fitS]
    by_cases hh : near (n * 10 ^ (k + 1)) t < 10 ^ 34
    · rw [if_pos hh]; exact ⟨_, rfl⟩
    · rw [if_neg hh]; exact fitS_room h (k + 1) (by omega)
theorem ten_step {s : Nat} (h : s ≤ 17) : 10 ^ (18 - s) = 10 * 10 ^ (18 - (s + 1)) := by
  rw [show 18 - s = 18 - (s + 1) + 1 by omega, Nat.pow_succ, Nat.mul_comm]
theorem strip_uni (c : Nat) : ∀ s, s ≤ 18 → uni (strip c s).1 (strip c s).2 = uni c s := by
  intro s
  induction s generalizing c with
  | zero => intro _; rfl
  | succ s ih =>
    intro hs
    unfold strip
    split
    · rename_i h
      rw [ih (c / 10) (by omega)]
      unfold uni
      rw [ten_step (show s ≤ 17 by omega), ← Nat.mul_assoc]
      congr 1; omega
    · rfl
theorem uni_mono {m m' : Nat} (s : Nat) (h : m ≤ m') : uni m s ≤ uni m' s := Nat.mul_le_mul_right _ h
/-- a finer scale's number that has room lies below 10^33 of the coarser one -/
theorem uni_cross {m m' s s' : Nat} (hm : m < 10 ^ 34) (hm' : 10 ^ 33 ≤ m') (h : s' < s) (hs : s ≤ 18) : uni m s ≤ uni m' s' := by
  unfold uni
  have h1 : 10 ^ (18 - s) ≤ 10 ^ (18 - (s' + 1)) := Nat.pow_le_pow_right (by decide) (by omega)
  have h2 : m * 10 ^ (18 - s) ≤ m * 10 ^ (18 - (s' + 1)) := Nat.mul_le_mul_left _ h1
  have h3 : m * 10 ^ (18 - (s' + 1)) ≤ 10 ^ 34 * 10 ^ (18 - (s' + 1)) := Nat.mul_le_mul_right _ (by omega)
  have h4 : m' * 10 ^ (18 - s') = m' * 10 * 10 ^ (18 - (s' + 1)) := by rw [ten_step (show s' ≤ 17 by omega), Nat.mul_assoc]
  have h5 : 10 ^ 34 * 10 ^ (18 - (s' + 1)) ≤ m' * 10 * 10 ^ (18 - (s' + 1)) := Nat.mul_le_mul_right _ (by omega)
  omega
theorem near_tenth {N N' t : Nat} (ht : 0 < t) (e : N' = 10 * N) (h : ¬ near N' t < 10 ^ 34) : 10 ^ 33 ≤ near N t := by
  subst e
  have h1 := near_to (10 * N) t ht
  have h2 := near_to N t ht
  generalize near (10 * N) t = M at *
  generalize near N t = m at *
  apply Nat.le_of_not_lt
  intro hlt
  have a1 : (m + 1) * t ≤ 10 ^ 33 * t := Nat.mul_le_mul_right _ hlt
  have a2 : 10 ^ 34 * t ≤ M * t := Nat.mul_le_mul_right _ (by omega)
  rw [Nat.add_mul, Nat.one_mul] at a1
  unfold NearTo at h1 h2
  generalize m * t = A at *
  generalize M * t = B at *
  omega
theorem fit_mono {n n' t c s c' s' : Nat} (ht : 0 < t) (h : n ≤ n') (h1 : fit n t 19 = some (c, s)) (h2 : fit n' t 19 = some (c', s')) : uni c s ≤ uni c' s' := by
  unfold fit at h1 h2
  obtain ⟨⟨m, s0⟩, f1, e1⟩ := Option.map_eq_some_iff.1 h1
  obtain ⟨⟨m', s1⟩, f2, e2⟩ := Option.map_eq_some_iff.1 h2
  obtain ⟨a1, a2, a3, a4⟩ := fitS_spec 19 f1
  obtain ⟨b1, b2, b3, b4⟩ := fitS_spec 19 f2
  have u1 := strip_uni m s0 (by omega)
  have u2 := strip_uni m' s1 (by omega)
  rw [show strip m s0 = (c, s) from e1] at u1
  rw [show strip m' s1 = (c', s') from e2] at u2
  rw [show uni c s = uni m s0 from u1, show uni c' s' = uni m' s1 from u2]
  have hn : ∀ j, near (n * 10 ^ j) t ≤ near (n' * 10 ^ j) t := fun j => near_mono ht (Nat.mul_le_mul_right _ h)
  have hle : s1 ≤ s0 := by
    apply Nat.le_of_not_lt
    intro hlt
    have := hn s1
    exact a4 s1 hlt b1 (by omega)
  by_cases he : s1 = s0
  · subst he
    have := hn s1
    exact uni_mono s1 (by omega)
  · refine uni_cross a3 ?_ (show s1 < s0 by omega) (by omega)
    rw [b2]
    exact near_tenth ht (by rw [Nat.pow_succ, ← Nat.mul_assoc, Nat.mul_comm]) (b4 (s1 + 1) (by omega) (by omega))
theorem uni_inj {c s c' s' : Nat} (h1 : s ≤ 18) (h2 : s' ≤ 18) (h3 : s ≠ 0 → c % 10 ≠ 0) (h4 : s' ≠ 0 → c' % 10 ≠ 0) (h : uni c s = uni c' s') : c = c' ∧ s = s' := by
  have key : ∀ {c s c' s' : Nat}, s ≤ s' → s' ≤ 18 → (s' ≠ 0 → c' % 10 ≠ 0) → uni c s = uni c' s' → c = c' ∧ s = s' := by
    intro c s c' s' hle hs' h4 h
    unfold uni at h
    obtain ⟨d, rfl⟩ : ∃ d, s' = s + d := ⟨s' - s, by omega⟩
    have e : 10 ^ (18 - s) = 10 ^ d * 10 ^ (18 - (s + d)) := by rw [← Nat.pow_add]; congr 1; omega
    rw [e, ← Nat.mul_assoc] at h
    have h5 := Nat.eq_of_mul_eq_mul_right (pp _) h
    cases d with
    | zero => rw [Nat.pow_zero, Nat.mul_one] at h5; exact ⟨h5, rfl⟩
    | succ d =>
      exfalso
      apply h4 (by omega)
      rw [← h5, Nat.pow_succ, ← Nat.mul_assoc]
      exact Nat.mul_mod_left _ _
  rcases Nat.le_total s s' with hle | hle
  · exact key hle h2 h4 h
  · obtain ⟨a, b⟩ := key hle h1 h3 h.symm
    exact ⟨a.symm, b.symm⟩
theorem uni_lt_iff (c s : Nat) {x : Nat} : x < uni c s ↔ x / 10 ^ (18 - s) < c := by
  unfold uni
  exact (Nat.div_lt_iff_lt_mul (pp _)).symm
/-- a number of a coarser scale that lies above x -/
theorem coarse_up {x c1 s1 k : Nat} (h : s1 ≤ k) (hk : k ≤ 18) (hx : x < uni c1 s1) : uni (x / 10 ^ (18 - k) + 1) k ≤ uni c1 s1 := by
  have e : uni c1 s1 = uni (c1 * 10 ^ (k - s1)) k := by
    unfold uni
    rw [Nat.mul_assoc, ← Nat.pow_add]; congr 2; omega
  rw [e] at hx ⊢
  exact uni_mono k ((uni_lt_iff _ _).1 hx)
theorem up_above (x k : Nat) : x < uni (x / 10 ^ (18 - k) + 1) k := (uni_lt_iff _ _).2 (Nat.lt_succ_self _)
theorem nbQ_up (x P : Nat) : nbQ x true P = x / P + 1 := if_pos rfl
theorem nbP_none {x : Nat} : ∀ k, k ≤ 19 → nbP x true k = none → ∀ c1 s1, s1 < k → c1 < 10 ^ 34 → ¬ x < uni c1 s1
  | 0, _, _ => fun _ _ h => by omega
  | k + 1, hk, h => by
    rw [nbP, nbQ_up] at h
    by_cases hh : x / 10 ^ (18 - k) + 1 < 10 ^ 34
    · rw [if_pos hh] at h; cases h
    · rw [if_neg hh] at h
      intro c1 s1 hs hc hx
      by_cases he : s1 = k
      · subst he
        have := (uni_lt_iff _ _).1 hx
        omega
      · exact nbP_none k (by omega) h c1 s1 (by omega) hc hx
theorem nbP_up {x c s : Nat} : ∀ k, k ≤ 19 → nbP x true k = some (c, s) → ∃ q S, S < k ∧ q < 10 ^ 34 ∧ strip q S = (c, s) ∧ x < uni q S ∧ ∀ c1 s1, s1 < k → c1 < 10 ^ 34 → x < uni c1 s1 → uni q S ≤ uni c1 s1
  | 0, _, h => by cases h
  | k + 1, hk, h => by
    rw [nbP, nbQ_up] at h
    by_cases hh : x / 10 ^ (18 - k) + 1 < 10 ^ 34
    · rw [if_pos hh] at h
      exact ⟨_, k, by omega, hh, Option.some.inj h, up_above x k, fun c1 s1 hs hc hx => coarse_up (by omega) (by omega) hx⟩
    · rw [if_neg hh] at h
      obtain ⟨q, S, a1, a2, a3, a4, a5⟩ := nbP_up k (by omega) h
      refine ⟨q, S, by omega, a2, a3, a4, fun c1 s1 hs hc hx => ?_⟩
      by_cases he : s1 = k
      · subst he
        have := (uni_lt_iff _ _).1 hx
        omega
      · exact a5 c1 s1 (by omega) hc hx
theorem nbQ_down {x P : Nat} (hx : 0 < x) (hP : 0 < P) : nbQ x false P * P < x ∧ ∀ c, c * P < x → c ≤ nbQ x false P := by
  have h1 := Nat.div_add_mod x P
  have h2 := Nat.mod_lt x hP
  unfold nbQ
  rw [if_neg (by decide)]
  have hc : ∀ c, c * P < x → c ≤ x / P := fun c h => (Nat.le_div_iff_mul_le hP).2 (by omega)
  by_cases h : x % P = 0
  · rw [if_pos h]
    have h3 : x / P * P = x := by rw [Nat.mul_comm]; omega
    have h4 : 0 < x / P := by
      rcases Nat.eq_zero_or_pos (x / P) with h4 | h4
      · rw [h4, Nat.zero_mul] at h3; omega
      · exact h4
    refine ⟨by rw [Nat.sub_mul, h3, Nat.one_mul]; omega, fun c hcx => ?_⟩
    have h5 := hc c hcx
    have h6 : c ≠ x / P := fun e => by rw [e, h3] at hcx; omega
    omega
  · rw [if_neg h]
    exact ⟨by rw [Nat.mul_comm]; omega, hc⟩
theorem nbP_down {x c s : Nat} (hx0 : 0 < x) : ∀ k, k ≤ 19 → nbP x false k = some (c, s) → ∃ q S, S < k ∧ q < 10 ^ 34 ∧ strip q S = (c, s) ∧ uni q S < x ∧ ∀ c1 s1, s1 < k → c1 < 10 ^ 34 → uni c1 s1 < x → uni c1 s1 ≤ uni q S
  | 0, _, h => by cases h
  | k + 1, hk, h => by
    rw [nbP] at h
    obtain ⟨d1, d2⟩ := nbQ_down (P := 10 ^ (18 - k)) hx0 (pp _)
    by_cases hh : nbQ x false (10 ^ (18 - k)) < 10 ^ 34
    · rw [if_pos hh] at h
      refine ⟨_, k, by omega, hh, Option.some.inj h, d1, fun c1 s1 hs hc hx => ?_⟩
      have e : uni c1 s1 = uni (c1 * 10 ^ (k - s1)) k := by
        unfold uni
        rw [Nat.mul_assoc, ← Nat.pow_add]; congr 2; omega
      rw [e] at hx ⊢
      exact uni_mono k (d2 _ hx)
    · rw [if_neg hh] at h
      obtain ⟨q, S, a1, a2, a3, a4, a5⟩ := nbP_down hx0 k (by omega) h
      refine ⟨q, S, by omega, a2, a3, a4, fun c1 s1 hs hc hx => ?_⟩
      by_cases he : s1 = k
      · subst he
        obtain ⟨j, rfl⟩ : ∃ j, s1 = j + 1 := ⟨s1 - 1, by omega⟩
        have e3 : uni (10 ^ 33) j = 10 ^ 34 * 10 ^ (18 - (j + 1)) := by
          unfold uni
          rw [ten_step (show j ≤ 17 by omega), ← Nat.mul_assoc]
        have e4 : 10 ^ 34 * 10 ^ (18 - (j + 1)) ≤ nbQ x false (10 ^ (18 - (j + 1))) * 10 ^ (18 - (j + 1)) := Nat.mul_le_mul_right _ (by omega)
        have e5 := a5 (10 ^ 33) j (by omega) (by decide) (by omega)
        have e6 : uni c1 (j + 1) ≤ 10 ^ 34 * 10 ^ (18 - (j + 1)) := Nat.mul_le_mul_right _ (by omega)
        omega
      · exact a5 c1 s1 (by omega) hc hx
theorem nbP_room {x : Nat} (hx0 : 0 < x) (hx : x ≤ 10 ^ 52) : ∀ k, 0 < k → ∃ p, nbP x false k = some p
  | 0, h => absurd h (by decide)
  | 1, _ => by
    rw [nbP]
    obtain ⟨d1, _⟩ := nbQ_down (P := 10 ^ (18 - 0)) hx0 (pp _)
    have h : nbQ x false (10 ^ (18 - 0)) < 10 ^ 34 := by
      have e : 10 ^ 52 = 10 ^ 34 * 10 ^ (18 - 0) := rfl
      exact Nat.lt_of_mul_lt_mul_right (a := 10 ^ (18 - 0)) (by omega)
    rw [if_pos h]; exact ⟨_, rfl⟩
  | k + 2, _ => by
    rw [nbP]
    by_cases hh : nbQ x false (10 ^ (18 - (k + 1))) < 10 ^ 34
    · rw [if_pos hh]; exact ⟨_, rfl⟩
    · rw [if_neg hh]; exact nbP_room hx0 hx (k + 1) (by omega)
theorem strip_last (c : Nat) : ∀ s, (strip c s).2 ≠ 0 → (strip c s).1 % 10 ≠ 0 := by
  intro s
  induction s generalizing c with
  | zero => intro h; exact absurd rfl h
  | succ s ih =>
    unfold strip
    split
    · exact ih (c / 10)
    · rename_i h; intro _; exact h
/-- what is above the neighbour below, and the other way round -/
theorem down_up {c s c1 s1 : Nat} (h1 : s ≤ 18) (h2 : c < 10 ^ 34) (h3 : s ≠ 0 → c % 10 ≠ 0) (h : nbP (uni c s) true 19 = some (c1, s1)) : nbP (uni c1 s1) false 19 = some (c, s) ∧ uni c s < uni c1 s1 ∧ (∀ c2 s2, s2 ≤ 18 → c2 < 10 ^ 34 → uni c s < uni c2 s2 → uni c1 s1 ≤ uni c2 s2) := by
  obtain ⟨q, S, a1, a2, a3, a4, a5⟩ := nbP_up 19 (by omega) h
  have u := strip_uni q S (by omega)
  rw [a3] at u
  have u' : uni c1 s1 = uni q S := u
  have hlt : uni c s < uni c1 s1 := by rw [u']; exact a4
  have hmax : uni c1 s1 ≤ 10 ^ 52 := by
    rw [u']
    have e1 : 10 ^ (18 - S) ≤ 10 ^ 18 := Nat.pow_le_pow_right (by decide) (by omega)
    have e2 : q * 10 ^ (18 - S) ≤ 10 ^ 34 * 10 ^ 18 := Nat.mul_le_mul (by omega) e1
    unfold uni
    exact Nat.le_trans e2 (by decide)
  refine ⟨?_, hlt, fun c2 s2 hs hc hx => by rw [u']; exact a5 c2 s2 (by omega) hc hx⟩
  obtain ⟨⟨c0, s0⟩, hp⟩ := nbP_room (x := uni c1 s1) (by omega) hmax 19 (by omega)
  obtain ⟨q2, S2, b1, b2, b3, b4, b5⟩ := nbP_down (by omega) 19 (by omega) hp
  have v := strip_uni q2 S2 (by omega)
  rw [b3] at v
  have v' : uni c0 s0 = uni q2 S2 := v
  have g1 := b5 c s (by omega) h2 hlt
  have g2 : ¬ uni c s < uni q2 S2 := fun hh => by
    have := a5 q2 S2 b1 b2 hh
    omega
  have hs := strip_le q2 S2
  have hl := strip_last q2 S2
  rw [b3] at hs hl
  have e := uni_inj (c := c0) (s := s0) (c' := c) (s' := s) (by have := hs.2; simp at this; omega) h1 hl h3 (by omega)
  rw [hp, e.1, e.2]
theorem up_down {c s c1 s1 : Nat} (h1 : s ≤ 18) (h2 : c < 10 ^ 34) (h3 : s ≠ 0 → c % 10 ≠ 0) (h0 : 0 < uni c s) (h : nbP (uni c s) false 19 = some (c1, s1)) : nbP (uni c1 s1) true 19 = some (c, s) ∧ uni c1 s1 < uni c s ∧ (∀ c2 s2, s2 ≤ 18 → c2 < 10 ^ 34 → uni c2 s2 < uni c s → uni c2 s2 ≤ uni c1 s1) := by
  obtain ⟨q, S, a1, a2, a3, a4, a5⟩ := nbP_down h0 19 (by omega) h
  have u := strip_uni q S (by omega)
  rw [a3] at u
  have u' : uni c1 s1 = uni q S := u
  have hlt : uni c1 s1 < uni c s := by rw [u']; exact a4
  refine ⟨?_, hlt, fun c2 s2 hs hc hx => by rw [u']; exact a5 c2 s2 (by omega) hc hx⟩
  cases hp : nbP (uni c1 s1) true 19 with
  | none => exact absurd hlt (nbP_none 19 (by omega) hp c s (by omega) h2)
  | some p =>
    obtain ⟨c0, s0⟩ := p
    obtain ⟨q2, S2, b1, b2, b3, b4, b5⟩ := nbP_up 19 (by omega) hp
    have v := strip_uni q2 S2 (by omega)
    rw [b3] at v
    have v' : uni c0 s0 = uni q2 S2 := v
    have g1 := b5 c s (by omega) h2 hlt
    have g2 : ¬ uni q2 S2 < uni c s := fun hh => by
      have := a5 q2 S2 b1 b2 hh
      omega
    have hs := strip_le q2 S2
    have hl := strip_last q2 S2
    rw [b3] at hs hl
    have e := uni_inj (c := c0) (s := s0) (c' := c) (s' := s) (by have := hs.2; simp at this; omega) h1 hl h3 (by omega)
    rw [e.1, e.2]
end Go.Proofs.YtcnkcfbodpkllaaDoor.Fit
namespace Go.Proofs.YtcnkcfbodpkllaaDoor

/-- a signed size -/
def sv (g : Bool) (x : Nat) : Int := if g = true then -(x : Int) else (x : Int)
theorem sv_t (x : Nat) : sv true x = -(x : Int) := rfl
theorem sv_f (x : Nat) : sv false x = (x : Int) := rfl
theorem sv_sum (an bn : Bool) (a b : Nat) : sv (Fit.sumN an a bn b).1 (Fit.sumN an a bn b).2 = sv an a + sv bn b := by
  by_cases h : an = bn
  · subst h
    unfold Fit.sumN
    rw [if_pos rfl]
    show sv an (a + b) = _
    cases an
    · rw [sv_f, sv_f, sv_f]; omega
    · rw [sv_t, sv_t, sv_t]; omega
  · unfold Fit.sumN
    rw [if_neg h]
    by_cases h2 : b ≤ a
    · rw [if_pos h2]
      show sv an (a - b) = _
      cases an <;> cases bn <;> first | exact absurd rfl h | (simp only [sv_t, sv_f]; omega)
    · rw [if_neg h2]
      show sv bn (b - a) = _
      cases an <;> cases bn <;> first | exact absurd rfl h | (simp only [sv_t, sv_f]; omega)
theorem ordV_sv {na nb : Bool} {x y : Nat} (h1 : na = true → 0 < x) (h2 : nb = true → 0 < y) :
    (sv na x < sv nb y ∧ ordV na x nb y = -1) ∨ (sv na x = sv nb y ∧ ordV na x nb y = 0) ∨ (sv nb y < sv na x ∧ ordV na x nb y = 1) := by
  unfold ordV
  have hc : (x < y ∧ cmpv x y = -1) ∨ (x = y ∧ cmpv x y = 0) ∨ (y < x ∧ cmpv x y = 1) := by
    rcases Nat.lt_trichotomy x y with h | h | h
    · exact .inl ⟨h, cmpv_lt h⟩
    · subst h; exact .inr (.inl ⟨rfl, cmpv_eq x⟩)
    · exact .inr (.inr ⟨h, cmpv_gt h⟩)
  cases na <;> cases nb
  · rw [if_pos rfl, if_neg (by decide), sv_f, sv_f]
    omega
  · have := h2 rfl
    rw [if_neg (by decide), if_neg (by decide), sv_f, sv_t]
    omega
  · have := h1 rfl
    rw [if_neg (by decide), if_pos rfl, sv_f, sv_t]
    omega
  · rw [if_pos rfl, if_pos rfl, sv_t, sv_t]
    omega
theorem fit_nought {c s : Nat} (h : Fit.fit 0 (10 ^ 18) 19 = some (c, s)) : c = 0 := by
  rw [Fit.fit_exact (by decide) (by omega), Fit.strip_zero] at h
  injection h with h
  injection h with h _
  exact h.symm
theorem sv_fit_mono {g1 g2 : Bool} {n1 n2 c1 s1 c2 s2 : Nat} (h : sv g1 n1 ≤ sv g2 n2) (f1 : Fit.fit n1 (10 ^ 18) 19 = some (c1, s1)) (f2 : Fit.fit n2 (10 ^ 18) 19 = some (c2, s2)) :
    sv g1 (Fit.uni c1 s1) ≤ sv g2 (Fit.uni c2 s2) := by
  cases g1 <;> cases g2
  · rw [sv_f, sv_f] at h ⊢
    have := Fit.fit_mono (Fit.pp 18) (by omega) f1 f2
    omega
  · rw [sv_f, sv_t] at h ⊢
    obtain rfl : n1 = 0 := by omega
    obtain rfl : n2 = 0 := by omega
    have e1 := fit_nought f1
    have e2 := fit_nought f2
    subst e1 e2
    unfold Fit.uni
    rw [Nat.zero_mul, Nat.zero_mul]; decide
  · rw [sv_f, sv_t]
    omega
  · rw [sv_t, sv_t] at h ⊢
    have := Fit.fit_mono (Fit.pp 18) (by omega) f2 f1
    omega
theorem fit_inform {n t c s : Nat} (g : Bool) (h : Fit.fit n t 19 = some (c, s)) : formB (g && decide (0 < c)) c (s : Int) = true := by
  unfold Fit.fit at h
  obtain ⟨⟨m, s0⟩, f1, e1⟩ := Option.map_eq_some_iff.1 h
  obtain ⟨a1, a2, a3, a4⟩ := Fit.fitS_spec 19 f1
  obtain ⟨b1, b2, b3⟩ := strip_form a3 s0 (by omega)
  have e : Fit.strip m s0 = (c, s) := e1
  rw [e] at b1 b2 b3
  refine form_mk b2 b1 (fun _ hg => ?_) b3
  intro h0
  rw [h0] at hg
  cases g <;> cases hg
theorem sv_sign (g : Bool) (c s : Nat) : sv (g && decide (0 < c)) (Fit.uni c s) = sv g (Fit.uni c s) := by
  rcases Nat.eq_zero_or_pos c with h | h
  · subst h
    unfold Fit.uni
    rw [Nat.zero_mul]; cases g <;> rfl
  · rw [decide_eq_true h, Bool.and_true]
theorem form_signed {neg : Bool} {c S : Nat} (h3 : S = 0 → neg = true → c ≠ 0) (h4 : S ≠ 0 → c % 10 ≠ 0) (hn : neg = true) : 0 < Fit.uni c S := by
  have : 0 < c := by
    rcases Nat.eq_zero_or_pos S with h | h
    · have := h3 h hn; omega
    · have := h4 (by omega); omega
  exact Nat.mul_pos this (Fit.pp _)
/-- decimals in form of the same value are the same -/
theorem form_inj {na nb : Bool} {ca SA cb SB : Nat} (hA18 : SA ≤ 18) (hB18 : SB ≤ 18) (a3 : SA = 0 → na = true → ca ≠ 0) (a4 : SA ≠ 0 → ca % 10 ≠ 0) (b3 : SB = 0 → nb = true → cb ≠ 0) (b4 : SB ≠ 0 → cb % 10 ≠ 0)
    (h : sv na (Fit.uni ca SA) = sv nb (Fit.uni cb SB)) : na = nb ∧ ca = cb ∧ SA = SB := by
  have p1 := fun hn => form_signed a3 a4 hn
  have p2 := fun hn => form_signed b3 b4 hn
  have key : na = nb → na = nb ∧ ca = cb ∧ SA = SB := by
    intro hs
    subst hs
    have he : Fit.uni ca SA = Fit.uni cb SB := by
      cases na
      · rw [sv_f, sv_f] at h; omega
      · rw [sv_t, sv_t] at h; omega
    exact ⟨rfl, Fit.uni_inj hA18 hB18 a4 b4 he⟩
  cases na <;> cases nb
  · exact key rfl
  · have := p2 rfl
    rw [sv_f, sv_t] at h; omega
  · have := p1 rfl
    rw [sv_f, sv_t] at h; omega
  · exact key rfl
theorem sv_flip {neg : Bool} {c S : Nat} : sv (flip neg c) (Fit.uni c S) = -sv neg (Fit.uni c S) := by
  unfold flip
  rcases Nat.eq_zero_or_pos c with h | h
  · subst h
    unfold Fit.uni
    rw [Nat.zero_mul]; cases neg <;> rfl
  · rw [decide_eq_false (show ¬ c = 0 by omega)]
    cases neg
    · show sv true _ = _
      rw [sv_t, sv_f]
    · show sv false _ = _
      rw [sv_f, sv_t]; omega
end Go.Proofs.YtcnkcfbodpkllaaDoor
namespace Go.Proofs.YtcnkcfbodpkllaaDoor
open Go.RowKit Num Word
attribute [local go_sem] setCell_drewN cell?_ext frozen?_ext shape?_ext setCell_ext lt_1' ne_1' en_1' le_1' lt_2' ne_2' en_2' le_2' lt_3' ne_3' en_3' le_3' lt_4' ne_4' en_4' le_4' lt_5' ne_5' en_5' le_5' lt_6' ne_6' en_6' le_6' lt_7' ne_7' en_7' le_7' lt_8' ne_8' en_8' le_8' lt_9' ne_9' en_9' le_9' lt_10' ne_10' en_10' le_10' lt_11' ne_11' en_11' le_11' lt_12' ne_12' en_12' le_12'
attribute [local go_sem] lt_13' ne_13' en_13' le_13' lt_14' ne_14' en_14' le_14' lt_15' ne_15' en_15' le_15' lt_16' ne_16' en_16' le_16' lt_17' ne_17' en_17' le_17' lt_18' ne_18' en_18' le_18' lt_19' ne_19' en_19' le_19' lt_20' ne_20' en_20' le_20' lt_21' ne_21' en_21' le_21' lt_22' ne_22' en_22' le_22' lt_23' ne_23' en_23' le_23' lt_24' ne_24' en_24' le_24' lt_25' ne_25' en_25' le_25' lt_26' ne_26' en_26' le_26'

theorem dof_0 (w : World) : Calls Tryd.prog 28 #[.int .i64 0] w fun e w' => e = .returned (.agg #[.bool false, .int .u64 0, .int .u64 0, .int .i64 0]) ∧ Below w.heap.size w w' := by
  go_enter Tryd.func28, Tryd.ntmps28
  go_wp2
  all_goals (go_returns; exact ⟨rfl, by (repeat' (first | (with_reducible exact Below.refl _ _) | (with_reducible assumption) | (with_reducible refine Below.alloc ?_ ?_ _) | (with_reducible refine below_drewN ?_ _) | (with_reducible refine below_drew ?_) | (with_reducible refine below_ext ?_ ?_ _ _) | (with_reducible refine Below.setCell ?_ ?_ _) | (simp; done) | (simp; omega) | omega))⟩)
theorem dof_1 (w : World) : Calls Tryd.prog 28 #[.int .i64 1] w fun e w' => e = .returned (.agg #[.bool false, .int .u64 0, .int .u64 1, .int .i64 0]) ∧ Below w.heap.size w w' := by
  go_enter Tryd.func28, Tryd.ntmps28
  go_wp2
  all_goals (go_returns; exact ⟨rfl, by (repeat' (first | (with_reducible exact Below.refl _ _) | (with_reducible assumption) | (with_reducible refine Below.alloc ?_ ?_ _) | (with_reducible refine below_drewN ?_ _) | (with_reducible refine below_drew ?_) | (with_reducible refine below_ext ?_ ?_ _ _) | (with_reducible refine Below.setCell ?_ ?_ _) | (simp; done) | (simp; omega) | omega))⟩)
theorem dround_18 (neg : Bool) (c : Nat) (s : Int) (S : Nat) (hs : s = (S : Int)) (f : formB neg c s = true) (w : World) (ht : Tens w) :
    Calls Tryd.prog 26 #[D neg c s, .int .i64 18] w fun e w' => e = .returned (.tuple #[D neg c s, .int .i64 0]) ∧ Below w.heap.size w w' := by
  obtain ⟨S', hS', hS18, hc, _, _⟩ := form_open f
  obtain rfl : S = S' := by omega
  subst hs
  exact dround_up neg c S 18 f hS18 (by omega) w ht
/-- the whole parts around a number, in units -/
theorem flN_units (away : Bool) {c S : Nat} (hS : S ≤ 18) : (away = false → Fit.uni (flN away c S) 0 ≤ Fit.uni c S ∧ Fit.uni c S < Fit.uni (flN away c S) 0 + 10 ^ 18) ∧ (away = true → Fit.uni c S ≤ Fit.uni (flN away c S) 0 ∧ Fit.uni (flN away c S) 0 < Fit.uni c S + 10 ^ 18) ∧
    (Fit.uni (flN true c S) 0 = Fit.uni (flN false c S) 0 ∨ Fit.uni (flN true c S) 0 = Fit.uni (flN false c S) 0 + 10 ^ 18) := by
  have hd := Nat.div_add_mod c (10 ^ S)
  have hm := Nat.mod_lt c (Fit.pp S)
  have e18 : 10 ^ 18 = 10 ^ S * 10 ^ (18 - S) := by rw [← Nat.pow_add]; congr 1; omega
  have hP := Fit.pp (18 - S)
  have hu : Fit.uni c S = (c / 10 ^ S) * 10 ^ 18 + (c % 10 ^ S) * 10 ^ (18 - S) := by
    unfold Fit.uni
    rw [e18, ← Nat.mul_assoc, ← Nat.add_mul, Nat.mul_comm (c / 10 ^ S), hd]
  have hr : (c % 10 ^ S) * 10 ^ (18 - S) < 10 ^ 18 := by rw [e18]; exact Nat.mul_lt_mul_of_pos_right hm hP
  have hr0 : c % 10 ^ S ≠ 0 → 0 < (c % 10 ^ S) * 10 ^ (18 - S) := fun h => Nat.mul_pos (by omega) hP
  have hrz : c % 10 ^ S = 0 → (c % 10 ^ S) * 10 ^ (18 - S) = 0 := fun h => by rw [h, Nat.zero_mul]
  have u0 : ∀ q, Fit.uni q 0 = q * 10 ^ 18 := fun q => rfl
  have f0 : flN false c S = c / 10 ^ S := by unfold flN; rw [if_neg (fun h => by cases h.1)]
  have f1 : flN true c S = if c % 10 ^ S ≠ 0 then c / 10 ^ S + 1 else c / 10 ^ S := by
    unfold flN
    by_cases h : c % 10 ^ S ≠ 0
    · rw [if_pos ⟨rfl, h⟩, if_pos h]
    · rw [if_neg (fun h2 => h h2.2), if_neg h]
  have es : (c / 10 ^ S + 1) * 10 ^ 18 = c / 10 ^ S * 10 ^ 18 + 10 ^ 18 := by rw [Nat.add_mul, Nat.one_mul]
  cases away
  · simp only [u0]
    rw [f0, f1, hu]
    generalize c / 10 ^ S = q at *
    generalize hRR : c % 10 ^ S * 10 ^ (18 - S) = R at *
    refine ⟨fun _ => (by omega), fun h => (by cases h), ?_⟩
    by_cases h : c % 10 ^ S ≠ 0
    · rw [if_pos h, es]; exact .inr rfl
    · rw [if_neg h]; exact .inl rfl
  · simp only [u0]
    rw [f0, f1, hu]
    by_cases h : c % 10 ^ S ≠ 0
    · have h1 := hr0 h
      rw [if_pos h, es]
      generalize c / 10 ^ S = q at *
      generalize hRR : c % 10 ^ S * 10 ^ (18 - S) = R at *
      exact ⟨fun h => (by cases h), fun _ => by omega, .inr rfl⟩
    · have h1 := hrz (by omega)
      rw [if_neg h, h1]
      exact ⟨fun h => (by cases h), fun _ => by omega, .inl rfl⟩
theorem floor_core (x y u E : Nat) (h1 : x ≤ u) (h1' : u < x + E) (h2 : u ≤ y) (h2' : y < u + E) (h3 : y = x ∨ y = x + E) :
    ((sv false x = sv false u ∧ sv false u = sv false y) ∨ (sv false x < sv false u ∧ sv false u < sv false y ∧ sv false y - sv false x = (E : Int))) ∧
    ((sv true y = sv true u ∧ sv true u = sv true x) ∨ (sv true y < sv true u ∧ sv true u < sv true x ∧ sv true x - sv true y = (E : Int))) := by
  simp only [sv_f, sv_t]
  omega
/-- floor and ceiling as signed sizes -/
theorem floor_sv (neg : Bool) {c S E : Nat} (hS : S ≤ 18) (hE : 10 ^ 18 = E) : (sv neg (Fit.uni (flN neg c S) 0) = sv neg (Fit.uni c S) ∧ sv neg (Fit.uni c S) = sv neg (Fit.uni (flN (!neg) c S) 0)) ∨
    (sv neg (Fit.uni (flN neg c S) 0) < sv neg (Fit.uni c S) ∧ sv neg (Fit.uni c S) < sv neg (Fit.uni (flN (!neg) c S) 0) ∧ sv neg (Fit.uni (flN (!neg) c S) 0) - sv neg (Fit.uni (flN neg c S) 0) = (E : Int)) := by
  obtain ⟨a1, _, a3⟩ := flN_units false (c := c) hS
  obtain ⟨_, b2, _⟩ := flN_units true (c := c) hS
  rw [hE] at a1 b2 a3
  have k := floor_core _ _ _ E (a1 rfl).1 (a1 rfl).2 (b2 rfl).1 (b2 rfl).2 a3
  cases neg
  · exact k.1
  · exact k.2
theorem modN_room {d : Bool} {x cb SB : Nat} (hb : cb < 10 ^ 34) (h0 : 0 < cb) : Fit.near (modN d x (Fit.uni cb SB) * 10 ^ 0) (10 ^ 18) < 10 ^ 34 := by
  have h1 := modN_le (d := d) (x := x) (uni_pos (S := SB) h0)
  have h2 : Fit.uni cb SB ≤ cb * 10 ^ 18 := Nat.mul_le_mul_left _ (Nat.pow_le_pow_right (by decide) (by omega))
  have h3 := Fit.near_mono (Fit.pp 18) (Nat.le_trans h1 h2)
  rw [Fit.near_whole _ _ (Fit.pp 18)] at h3
  rw [Nat.pow_zero, Nat.mul_one]
  omega
theorem modN_fits {d : Bool} {x cb SB : Nat} (hS : SB ≤ 18) (hb : cb < 10 ^ 34) (h0 : 0 < cb) (h4 : SB ≠ 0 → cb % 10 ≠ 0) : ∃ c s, Fit.fit (modN d x (Fit.uni cb SB)) (10 ^ 18) 19 = some (c, s) ∧ Fit.uni c s ≤ Fit.uni cb SB := by
  obtain ⟨⟨m, s0⟩, hp⟩ := Fit.fitS_room (modN_room (d := d) (x := x) (SB := SB) hb h0) 19 (by omega)
  obtain ⟨⟨c, s⟩, hcs⟩ : ∃ y, y = Fit.strip m s0 := ⟨_, rfl⟩
  have hf : Fit.fit (modN d x (Fit.uni cb SB)) (10 ^ 18) 19 = some (c, s) := by
    unfold Fit.fit
    rw [hp, hcs]; rfl
  have hy : Fit.fit (Fit.uni cb SB) (10 ^ 18) 19 = some (cb, SB) := by
    have := Fit.fit_uni cb SB hS 19
    unfold Fit.uni
    rw [← this, Fit.fit_exact hb hS, form_strip h4]
  exact ⟨c, s, hf, Fit.fit_mono (Fit.pp 18) (modN_le (uni_pos h0)) hf hy⟩
theorem meet_b {Wb X : World} (hb : Below Wb.heap.size Wb X) : ∃ (os : Array Obj) (d' : Nat), Value.bool false = .bool false ∧ X = ext Wb os d' := by
  obtain ⟨os, d', he⟩ := ext_of_below hb
  exact ⟨os, d', rfl, he⟩
/-- the order of two decimals in form -/
theorem dcmp_in (na nb : Bool) (ca cb : Nat) (SA SB : Nat) (fa : formB na ca (SA : Int) = true) (fb : formB nb cb (SB : Int) = true) :
    ∃ r : Int, (∀ w, Tens w → Calls Tryd.prog 19 #[D na ca (SA : Int), D nb cb (SB : Int)] w fun e w' => e = .returned (.tuple #[.int .i64 r, .int .i64 0]) ∧ Below w.heap.size w w') ∧
      ((sv na (Fit.uni ca SA) < sv nb (Fit.uni cb SB) ∧ r = -1) ∨ (sv na (Fit.uni ca SA) = sv nb (Fit.uni cb SB) ∧ r = 0) ∨ (sv nb (Fit.uni cb SB) < sv na (Fit.uni ca SA) ∧ r = 1)) := by
  obtain ⟨SA', hA', _, _, a3, a4⟩ := form_open fa
  obtain ⟨SB', hB', _, _, b3, b4⟩ := form_open fb
  obtain rfl : SA = SA' := by omega
  obtain rfl : SB = SB' := by omega
  exact ⟨_, fun w ht => dcmp_ok na nb ca cb _ _ SA SB rfl rfl fa fb _ rfl w ht, ordV_sv (fun h => form_signed a3 a4 h) (fun h => form_signed b3 b4 h)⟩
theorem lo_form (g : Bool) {q : Nat} (hq : q < 10 ^ 34) : formB (g && decide (0 < q)) q ((0 : Nat) : Int) = true := by
  refine form_mk (by omega) hq (fun _ hg => ?_) (fun h => absurd rfl h)
  intro h0
  rw [h0] at hg
  cases g <;> cases hg
theorem fit_0 : Fit.fit 0 (10 ^ 18) 19 = some (0, 0) := by
  rw [Fit.fit_exact (by decide) (by omega), Fit.strip_zero]
theorem fit_1 : Fit.fit (10 ^ 18) (10 ^ 18) 19 = some (1, 0) := by
  have h := Fit.fit_uni 1 0 (by omega) 19
  rw [Nat.one_mul] at h
  have h2 : Fit.fit 1 (10 ^ 0) 19 = some (1, 0) := Fit.fit_exact (by decide) (by omega)
  rw [← h2, h]
/-- the ceiling less the floor -/
theorem gap_any (na : Bool) (ca SA : Nat) (hS : SA ≤ 18) (g1 g2 : Bool) (q1 q2 : Nat) (hq1 : q1 = flN na ca SA) (hq2 : q2 = flN (!na) ca SA) (hg1 : g1 = (na && decide (0 < q1))) (hg2 : g2 = (na && decide (0 < q2))) (f1 : formB g1 q1 0 = true) (f2 : formB g2 q2 0 = true) :
    ((∀ w, Tens w → Calls Tryd.prog 27 #[D g2 q2 0, D g1 q1 0] w fun e w' => e = .returned (.tuple #[.agg #[.bool false, .int .u64 0, .int .u64 0, .int .i64 0], .int .i64 0]) ∧ Below w.heap.size w w') ∧ sv g1 (Fit.uni q1 0) = sv na (Fit.uni ca SA) ∧ sv na (Fit.uni ca SA) = sv g2 (Fit.uni q2 0)) ∨
    ((∀ w, Tens w → Calls Tryd.prog 27 #[D g2 q2 0, D g1 q1 0] w fun e w' => e = .returned (.tuple #[.agg #[.bool false, .int .u64 0, .int .u64 1, .int .i64 0], .int .i64 0]) ∧ Below w.heap.size w w') ∧ sv g1 (Fit.uni q1 0) < sv na (Fit.uni ca SA) ∧ sv na (Fit.uni ca SA) < sv g2 (Fit.uni q2 0)) := by
  obtain ⟨E, hE⟩ : ∃ E, 10 ^ 18 = E := ⟨_, rfl⟩
  have hE0 : 0 < E := by rw [← hE]; exact Fit.pp _
  have hk := floor_sv na (c := ca) hS hE
  rw [← hq1, ← hq2] at hk
  have s1 := sv_sign na q1 0
  have s2 := sv_sign na q2 0
  rw [← hg1] at s1
  rw [← hg2] at s2
  have s3 := sv_flip (neg := g1) (c := q1) (S := 0)
  have hsum := sv_sum g2 (flip g1 q1) (Fit.uni q2 0) (Fit.uni q1 0)
  have hadd : ∀ F, F = Fit.fit (Fit.sumN g2 (Fit.uni q2 0) (flip g1 q1) (Fit.uni q1 0)).2 (10 ^ 18) 19 → ∀ w, Tens w → Calls Tryd.prog 22 #[D g2 q2 0, D (flip g1 q1) q1 0] w fun e w' => e = .returned (.tuple #[FV (Fit.sumN g2 (Fit.uni q2 0) (flip g1 q1) (Fit.uni q1 0)).1 F, .int .i64 (fitE F)]) ∧ Below w.heap.size w w' :=
    fun F hF w ht => dadd_ok g2 (flip g1 q1) q2 q1 0 0 0 0 rfl rfl f2 (flip_form f1) _ F rfl hF w ht
  generalize (Fit.sumN g2 (Fit.uni q2 0) (flip g1 q1) (Fit.uni q1 0)).1 = G at *
  generalize (Fit.sumN g2 (Fit.uni q2 0) (flip g1 q1) (Fit.uni q1 0)).2 = M at *
  rw [← s1, ← s2] at hk
  rw [s3] at hsum
  rcases hk with ⟨hk, hk'⟩ | ⟨hk1, hk2, hk⟩
  · left
    have hM : M = 0 := by
      cases G
      · rw [sv_f] at hsum; omega
      · rw [sv_t] at hsum; omega
    have h := hadd (some (0, 0)) (by rw [hM]; exact fit_0.symm)
    have e : FV G (some (0, 0)) = .agg #[.bool false, .int .u64 0, .int .u64 0, .int .i64 0] := by cases G <;> rfl
    rw [e] at h
    exact ⟨fun w ht => dsub_ok g2 g1 q2 q1 0 0 f2 f1 false 0 0 0 h w ht, hk, hk'⟩
  · right
    have hG : G = false := by
      cases G
      · rfl
      · rw [sv_t] at hsum; omega
    subst hG
    have hM : M = E := by rw [sv_f] at hsum; omega
    have h := hadd (some (1, 0)) (by rw [hM, ← hE]; exact fit_1.symm)
    exact ⟨fun w ht => dsub_ok g2 g1 q2 q1 0 0 f2 f1 false 1 0 0 h w ht, hk1, hk2⟩
set_option maxRecDepth 100000 in
set_option maxHeartbeats 32000000 in
theorem decParts_law (na : Bool) (ca : Nat) (sa : Int) (nb : Bool) (cb : Nat) (sb : Int) (ha : ca < top2) (_za : (Lit.int .i64 sa).wf = true) (hb : cb < top2) (_zb : (Lit.int .i64 sb).wf = true) (w : World) (ht : Tens w) :
    Calls Tryd.prog 7 #[D na ca sa, D nb cb sb] w fun e w' => e = .returned (.bool true) ∧ Below w.heap.size w w' := by
  have HT := Lib.hid (fun w' (hb : Below w.heap.size w w') => ht.below hb)
  have FA := Lib.hid (fun w => rform_any na ca sa ha w)
  have FB := Lib.hid (fun w => rform_any nb cb sb hb w)
  cases fa : formB na ca sa with
  | false =>
    rw [fa] at FA
    have H1 := Lib.hid (fun w ht => dMod_bad1 na nb ca cb sa sb ha fa w ht)
    clear ht ha hb _za _zb fa
    go_enter Tryd.func7, Tryd.ntmps7
    go_wp2_with (first
      | (go_at_call 8; ((with_reducible refine (knownD _ (HT.out _ (by (repeat' (first | (with_reducible exact Below.refl _ _) | (with_reducible assumption) | (with_reducible refine Below.alloc ?_ ?_ _) | (with_reducible refine below_drewN ?_ _) | (with_reducible refine below_drew ?_) | (with_reducible refine below_ext ?_ ?_ _ _) | (with_reducible refine Below.setCell ?_ ?_ _) | (simp; done) | (simp; omega) | omega))))).mono ?_); rintro e w1 ⟨rfl, hb1⟩; obtain ⟨osA, dA, rfl⟩ := ext_of_below hb1; clear hb1))
      | (go_at_call 20; ((with_reducible refine (FA.out _).mono ?_); rintro e w1 ⟨rfl, hb1⟩; obtain ⟨osB, dB, rfl⟩ := ext_of_below hb1; clear hb1))
      | (go_at_call 14; ((with_reducible refine (H1.out _ (HT.out _ (by (repeat' (first | (with_reducible exact Below.refl _ _) | (with_reducible assumption) | (with_reducible refine Below.alloc ?_ ?_ _) | (with_reducible refine below_drewN ?_ _) | (with_reducible refine below_drew ?_) | (with_reducible refine below_ext ?_ ?_ _ _) | (with_reducible refine Below.setCell ?_ ?_ _) | (simp; done) | (simp; omega) | omega))))).mono ?_); rintro e w1 ⟨rfl, hb1⟩; obtain ⟨osD, dD, rfl⟩ := ext_of_below hb1; clear hb1)))
    go_ret
    exact ⟨rfl, by (repeat' (first | (with_reducible exact Below.refl _ _) | (with_reducible assumption) | (with_reducible refine Below.alloc ?_ ?_ _) | (with_reducible refine below_drewN ?_ _) | (with_reducible refine below_drew ?_) | (with_reducible refine below_ext ?_ ?_ _ _) | (with_reducible refine Below.setCell ?_ ?_ _) | (simp; done) | (simp; omega) | omega))⟩
  | true =>
    rw [fa] at FA
    cases fb : formB nb cb sb with
    | false =>
      rw [fb] at FB
      have H1 := Lib.hid (fun w ht => dMod_bad2 na nb ca cb sa sb fa hb fb w ht)
      clear ht ha hb _za _zb fa fb
      go_enter Tryd.func7, Tryd.ntmps7
      go_wp2_with (first
        | (go_at_call 8; ((with_reducible refine (knownD _ (HT.out _ (by (repeat' (first | (with_reducible exact Below.refl _ _) | (with_reducible assumption) | (with_reducible refine Below.alloc ?_ ?_ _) | (with_reducible refine below_drewN ?_ _) | (with_reducible refine below_drew ?_) | (with_reducible refine below_ext ?_ ?_ _ _) | (with_reducible refine Below.setCell ?_ ?_ _) | (simp; done) | (simp; omega) | omega))))).mono ?_); rintro e w1 ⟨rfl, hb1⟩; obtain ⟨osA, dA, rfl⟩ := ext_of_below hb1; clear hb1))
        | (go_at_call 20; ((with_reducible refine (FA.out _).mono ?_); rintro e w1 ⟨rfl, hb1⟩; obtain ⟨osB, dB, rfl⟩ := ext_of_below hb1; clear hb1))
        | (go_at_call 20; ((with_reducible refine (FB.out _).mono ?_); rintro e w1 ⟨rfl, hb1⟩; obtain ⟨osC, dC, rfl⟩ := ext_of_below hb1; clear hb1))
        | (go_at_call 14; ((with_reducible refine (H1.out _ (HT.out _ (by (repeat' (first | (with_reducible exact Below.refl _ _) | (with_reducible assumption) | (with_reducible refine Below.alloc ?_ ?_ _) | (with_reducible refine below_drewN ?_ _) | (with_reducible refine below_drew ?_) | (with_reducible refine below_ext ?_ ?_ _ _) | (with_reducible refine Below.setCell ?_ ?_ _) | (simp; done) | (simp; omega) | omega))))).mono ?_); rintro e w1 ⟨rfl, hb1⟩; obtain ⟨osD, dD, rfl⟩ := ext_of_below hb1; clear hb1)))
      go_ret
      exact ⟨rfl, by (repeat' (first | (with_reducible exact Below.refl _ _) | (with_reducible assumption) | (with_reducible refine Below.alloc ?_ ?_ _) | (with_reducible refine below_drewN ?_ _) | (with_reducible refine below_drew ?_) | (with_reducible refine below_ext ?_ ?_ _ _) | (with_reducible refine Below.setCell ?_ ?_ _) | (simp; done) | (simp; omega) | omega))⟩
    | true =>
      rw [fb] at FB
      obtain ⟨SA, rfl, hSA, hca, a3, a4⟩ := form_open fa
      obtain ⟨SB, rfl, hSB, hcb, b3, b4⟩ := form_open fb
      obtain ⟨q1, hq1⟩ : ∃ q, q = flN na ca SA := ⟨_, rfl⟩
      obtain ⟨q2, hq2⟩ : ∃ q, q = flN (!na) ca SA := ⟨_, rfl⟩
      have l1 : q1 < 10 ^ 34 := by rw [hq1]; exact flN_le' _ hca
      have l2 : q2 < 10 ^ 34 := by rw [hq2]; exact flN_le' _ hca
      have f1 := lo_form na l1
      have f2 := lo_form na l2
      obtain ⟨g1, hg1⟩ : ∃ g, g = (na && decide (0 < q1)) := ⟨_, rfl⟩
      obtain ⟨g2, hg2⟩ : ∃ g, g = (na && decide (0 < q2)) := ⟨_, rfl⟩
      have H1 := Lib.hid (fun w ht => dFloor_ok na ca (SA : Int) SA rfl fa g1 q1 hq1 hg1 w ht)
      have H2 := Lib.hid (fun w ht => dCeil_ok na ca (SA : Int) SA rfl fa g2 q2 hq2 hg2 w ht)
      have H3 := Lib.hid (fun w ht => dround_18 na ca (SA : Int) SA rfl fa w ht)
      rw [← hg1] at f1
      rw [← hg2] at f2
      obtain ⟨r1, h5, hr1⟩ := dcmp_in g1 na q1 ca 0 SA f1 fa
      obtain ⟨r2, h6, hr2⟩ := dcmp_in na g2 ca q2 SA 0 fa f2
      have h5' : ∀ w, Tens w → Calls Tryd.prog 19 #[D g1 q1 0, D na ca (SA : Int)] w fun e w' => e = .returned (.tuple #[.int .i64 r1, .int .i64 0]) ∧ Below w.heap.size w w' := h5
      have h6' : ∀ w, Tens w → Calls Tryd.prog 19 #[D na ca (SA : Int), D g2 q2 0] w fun e w' => e = .returned (.tuple #[.int .i64 r2, .int .i64 0]) ∧ Below w.heap.size w w' := h6
      have hgap0 := gap_any na ca SA hSA g1 g2 q1 q2 hq1 hq2 hg1 hg2 f1 f2
      have hgap : ((∀ w, Tens w → Calls Tryd.prog 27 #[D g2 q2 0, D g1 q1 0] w fun e w' => e = .returned (.tuple #[.agg #[.bool false, .int .u64 0, .int .u64 0, .int .i64 0], .int .i64 0]) ∧ Below w.heap.size w w') ∧ r1 = 0 ∧ r2 = 0) ∨ ((∀ w, Tens w → Calls Tryd.prog 27 #[D g2 q2 0, D g1 q1 0] w fun e w' => e = .returned (.tuple #[.agg #[.bool false, .int .u64 0, .int .u64 1, .int .i64 0], .int .i64 0]) ∧ Below w.heap.size w w') ∧ r1 = -1 ∧ r2 = -1) := by
        rcases hgap0 with ⟨h, k1, k2⟩ | ⟨h, k1, k2⟩
        · exact .inl ⟨h, by omega, by omega⟩
        · exact .inr ⟨h, by omega, by omega⟩
      clear h5 h6 hr1 hr2 hgap0 l1 l2 f1 f2 hq1 hq2 hg1 hg2 a3 a4
      have hmod : (nb = false ∧ cb = 0 ∧ SB = 0 ∧ ∀ w, Tens w → Calls Tryd.prog 14 #[D na ca (SA : Int), .agg #[.bool false, .int .u64 0, .int .u64 0, .int .i64 0]] w fun e w' => e = .returned (.tuple #[.agg #[.bool false, .int .u64 0, .int .u64 0, .int .i64 0], .int .i64 4]) ∧ Below w.heap.size w w') ∨
          (0 < cb ∧ ∃ c s, formB (nb && decide (0 < c)) c ((s : Nat) : Int) = true ∧ (∀ w, Tens w → Calls Tryd.prog 14 #[D na ca (SA : Int), D nb cb (SB : Int)] w fun e w' => e = .returned (.tuple #[D (nb && decide (0 < c)) c (s : Int), .int .i64 0]) ∧ Below w.heap.size w w') ∧ Fit.uni c s ≤ Fit.uni cb SB ∧ (c = 0 → s = 0)) := by
        rcases Nat.eq_zero_or_pos cb with h0 | h0
        · left
          subst h0
          have e1 : SB = 0 := by
            rcases Nat.eq_zero_or_pos SB with h | h
            · exact h
            · exact absurd rfl (b4 (by omega))
          subst e1
          have e2 : nb = false := by
            cases nb
            · rfl
            · exact absurd rfl (b3 rfl rfl)
          subst e2
          exact ⟨rfl, rfl, rfl, fun w ht => dMod_zero na false ca (SA : Int) 0 fa fb w ht⟩
        · right
          obtain ⟨c, s, hF, hle⟩ := modN_fits (d := (na != nb)) (x := Fit.uni ca SA) hSB hcb h0 b4
          obtain ⟨_, _, c3⟩ := fit_form (by omega) hF
          refine ⟨h0, c, s, fit_inform nb hF, fun w ht => dmod_ok na nb ca cb (SA : Int) (SB : Int) SA SB rfl rfl fa fb _ rfl (some (c, s)) h0 hF.symm w ht, hle, fun hc0 => ?_⟩
          rcases Nat.eq_zero_or_pos s with h | h
          · exact h
          · exact absurd (by rw [hc0]) (c3 (by omega))
      -- the three ways of the rest, as one fact
      have hways : (nb = false ∧ ((hi cb : Nat) : Int) = 0 ∧ ((lo cb : Nat) : Int) = 0 ∧ (SB : Int) = 0 ∧ ∀ w, Tens w → Calls Tryd.prog 14 #[D na ca (SA : Int), .agg #[.bool false, .int .u64 0, .int .u64 0, .int .i64 0]] w fun e w' => e = .returned (.tuple #[.agg #[.bool false, .int .u64 0, .int .u64 0, .int .i64 0], .int .i64 4]) ∧ Below w.heap.size w w') ∨
          (((((hi cb : Nat) : Int) == 0) = false ∨ ((((hi cb : Nat) : Int) == 0) = true ∧ (((lo cb : Nat) : Int) == 0) = false)) ∧
            (∀ w, Tens w → Calls Tryd.prog 29 #[D nb cb (SB : Int)] w fun e w' => e = .returned (.tuple #[D false cb (SB : Int), .int .i64 0]) ∧ Below w.heap.size w w') ∧ ∃ r3 : Int, r3 ≤ 0 ∧
            (((∀ w, Tens w → Calls Tryd.prog 14 #[D na ca (SA : Int), D nb cb (SB : Int)] w fun e w' => e = .returned (.tuple #[.agg #[.bool false, .int .u64 0, .int .u64 0, .int .i64 0], .int .i64 0]) ∧ Below w.heap.size w w') ∧
              (∀ w, Tens w → Calls Tryd.prog 29 #[.agg #[.bool false, .int .u64 0, .int .u64 0, .int .i64 0]] w fun e w' => e = .returned (.tuple #[.agg #[.bool false, .int .u64 0, .int .u64 0, .int .i64 0], .int .i64 0]) ∧ Below w.heap.size w w') ∧
              (∀ w, Tens w → Calls Tryd.prog 19 #[.agg #[.bool false, .int .u64 0, .int .u64 0, .int .i64 0], D false cb (SB : Int)] w fun e w' => e = .returned (.tuple #[.int .i64 r3, .int .i64 0]) ∧ Below w.heap.size w w')) ∨
            (∃ c s : Nat, ((((hi c : Nat) : Int) == 0) = false ∨ ((((hi c : Nat) : Int) == 0) = true ∧ (((lo c : Nat) : Int) == 0) = false)) ∧ (∀ w, Tens w → Calls Tryd.prog 14 #[D na ca (SA : Int), D nb cb (SB : Int)] w fun e w' => e = .returned (.tuple #[D nb c (s : Int), .int .i64 0]) ∧ Below w.heap.size w w') ∧
              (∀ w, Tens w → Calls Tryd.prog 29 #[D nb c (s : Int)] w fun e w' => e = .returned (.tuple #[D false c (s : Int), .int .i64 0]) ∧ Below w.heap.size w w') ∧
              (∀ w, Tens w → Calls Tryd.prog 19 #[D false c (s : Int), D false cb (SB : Int)] w fun e w' => e = .returned (.tuple #[.int .i64 r3, .int .i64 0]) ∧ Below w.heap.size w w')))) := by
        rcases hmod with ⟨e1, e2, e3, h7⟩ | ⟨hb0, c, s, fr, h7, hle, hcs⟩
        · left
          subst e2 e3
          exact ⟨e1, rfl, rfl, rfl, h7⟩
        · right
          have fbs : formB false cb (SB : Int) = true := form_mk hSB hcb (fun _ h => by cases h) b4
          have h8 := fun w ht => dabs_ok (nb && decide (0 < c)) c (s : Int) fr w ht
          obtain ⟨s', hs', c1, c2, _, c4⟩ := form_open fr
          obtain rfl : s = s' := by omega
          have frs : formB false c (s : Int) = true := form_mk c1 c2 (fun _ h => by cases h) c4
          obtain ⟨r3, h10, hr3⟩ := dcmp_in false false c cb s SB frs fbs
          rw [sv_f, sv_f] at hr3
          refine ⟨word_ne hb0, fun w ht => dabs_ok nb cb (SB : Int) fb w ht, r3, by omega, ?_⟩
          rcases Nat.eq_zero_or_pos c with hc0 | hc0
          · left
            obtain rfl : s = 0 := hcs hc0
            subst hc0
            have e0 : D (nb && decide (0 < 0)) 0 ((0 : Nat) : Int) = .agg #[.bool false, .int .u64 0, .int .u64 0, .int .i64 0] := by cases nb <;> rfl
            have e1 : D false 0 ((0 : Nat) : Int) = .agg #[.bool false, .int .u64 0, .int .u64 0, .int .i64 0] := rfl
            rw [e0] at h7 h8
            rw [e1] at h8 h10
            exact ⟨h7, h8, h10⟩
          · right
            rw [decide_eq_true hc0, Bool.and_true] at h7 h8
            exact ⟨c, s, word_ne hc0, h7, h8, h10⟩
      have HW := Lib.hid hways
      clear hways hmod ht ha hb _za _zb fa fb hSA hca hSB hcb b3 b4
      rcases hgap with ⟨h4, rfl, rfl⟩ | ⟨h4, rfl, rfl⟩
      · have H4 := Lib.hid h4; have H5 := Lib.hid h5'; have H6 := Lib.hid h6'
        clear h4 h5' h6'
        go_enter Tryd.func7, Tryd.ntmps7
        go_upto_region 12 with (first
          | (go_at_call 8; ((with_reducible refine (knownD _ (HT.out _ (by (repeat' (first | (with_reducible exact Below.refl _ _) | (with_reducible assumption) | (with_reducible refine Below.alloc ?_ ?_ _) | (with_reducible refine below_drewN ?_ _) | (with_reducible refine below_drew ?_) | (with_reducible refine below_ext ?_ ?_ _ _) | (with_reducible refine Below.setCell ?_ ?_ _) | (simp; done) | (simp; omega) | omega))))).mono ?_); rintro e w1 ⟨rfl, hb1⟩; obtain ⟨osA, dA, rfl⟩ := ext_of_below hb1; clear hb1))
          | (go_at_call 20; ((with_reducible refine (FA.out _).mono ?_); rintro e w1 ⟨rfl, hb1⟩; obtain ⟨osB, dB, rfl⟩ := ext_of_below hb1; clear hb1))
          | (go_at_call 20; ((with_reducible refine (FB.out _).mono ?_); rintro e w1 ⟨rfl, hb1⟩; obtain ⟨osC, dC, rfl⟩ := ext_of_below hb1; clear hb1))
          | (go_at_call 24; ((with_reducible refine (H1.out _ (HT.out _ (by (repeat' (first | (with_reducible exact Below.refl _ _) | (with_reducible assumption) | (with_reducible refine Below.alloc ?_ ?_ _) | (with_reducible refine below_drewN ?_ _) | (with_reducible refine below_drew ?_) | (with_reducible refine below_ext ?_ ?_ _ _) | (with_reducible refine Below.setCell ?_ ?_ _) | (simp; done) | (simp; omega) | omega))))).mono ?_); rintro e w1 ⟨rfl, hb1⟩; obtain ⟨osD, dD, rfl⟩ := ext_of_below hb1; clear hb1))
          | (go_at_call 25; ((with_reducible refine (H2.out _ (HT.out _ (by (repeat' (first | (with_reducible exact Below.refl _ _) | (with_reducible assumption) | (with_reducible refine Below.alloc ?_ ?_ _) | (with_reducible refine below_drewN ?_ _) | (with_reducible refine below_drew ?_) | (with_reducible refine below_ext ?_ ?_ _ _) | (with_reducible refine Below.setCell ?_ ?_ _) | (simp; done) | (simp; omega) | omega))))).mono ?_); rintro e w1 ⟨rfl, hb1⟩; obtain ⟨osE, dE, rfl⟩ := ext_of_below hb1; clear hb1))
          | (go_at_call 26; ((with_reducible refine (H3.out _ (HT.out _ (by (repeat' (first | (with_reducible exact Below.refl _ _) | (with_reducible assumption) | (with_reducible refine Below.alloc ?_ ?_ _) | (with_reducible refine below_drewN ?_ _) | (with_reducible refine below_drew ?_) | (with_reducible refine below_ext ?_ ?_ _ _) | (with_reducible refine Below.setCell ?_ ?_ _) | (simp; done) | (simp; omega) | omega))))).mono ?_); rintro e w1 ⟨rfl, hb1⟩; obtain ⟨osF, dF, rfl⟩ := ext_of_below hb1; clear hb1))
          | (go_at_call 27; ((with_reducible refine (H4.out _ (HT.out _ (by (repeat' (first | (with_reducible exact Below.refl _ _) | (with_reducible assumption) | (with_reducible refine Below.alloc ?_ ?_ _) | (with_reducible refine below_drewN ?_ _) | (with_reducible refine below_drew ?_) | (with_reducible refine below_ext ?_ ?_ _ _) | (with_reducible refine Below.setCell ?_ ?_ _) | (simp; done) | (simp; omega) | omega))))).mono ?_); rintro e w1 ⟨rfl, hb1⟩; obtain ⟨osG, dG, rfl⟩ := ext_of_below hb1; clear hb1))
          | (go_at_call 19; ((with_reducible refine (H5.out _ (HT.out _ (by (repeat' (first | (with_reducible exact Below.refl _ _) | (with_reducible assumption) | (with_reducible refine Below.alloc ?_ ?_ _) | (with_reducible refine below_drewN ?_ _) | (with_reducible refine below_drew ?_) | (with_reducible refine below_ext ?_ ?_ _ _) | (with_reducible refine Below.setCell ?_ ?_ _) | (simp; done) | (simp; omega) | omega))))).mono ?_); rintro e w1 ⟨rfl, hb1⟩; obtain ⟨osH, dH, rfl⟩ := ext_of_below hb1; clear hb1))
          | (go_at_call 19; ((with_reducible refine (H6.out _ (HT.out _ (by (repeat' (first | (with_reducible exact Below.refl _ _) | (with_reducible assumption) | (with_reducible refine Below.alloc ?_ ?_ _) | (with_reducible refine below_drewN ?_ _) | (with_reducible refine below_drew ?_) | (with_reducible refine below_ext ?_ ?_ _ _) | (with_reducible refine Below.setCell ?_ ?_ _) | (simp; done) | (simp; omega) | omega))))).mono ?_); rintro e w1 ⟨rfl, hb1⟩; obtain ⟨osI, dI, rfl⟩ := ext_of_below hb1; clear hb1)))
        go_cut [129] (fun sc wx => ∃ (os : Array Obj) (d' : Nat), sc = .bool false ∧ wx = ext (ext (ext ((ext ((ext ((ext ((ext (ext (ext (ext ((w.alloc (.cells #[.bool na, .int .u64 (hi ca : Int), .int .u64 (lo ca : Int), .int .i64 (SA : Int)] 26)).alloc (.cells #[.bool nb, .int .u64 (hi cb : Int), .int .u64 (lo cb : Int), .int .i64 (SB : Int)] 26)) osA dA) osB dB) osC dC) osD dD).alloc (.cells #[.bool g1, .int .u64 (hi q1 : Int), .int .u64 (lo q1 : Int), .int .i64 0] 26)) osE dE).alloc (.cells #[.bool g2, .int .u64 (hi q2 : Int), .int .u64 (lo q2 : Int), .int .i64 0] 26)) osF dF).alloc (.cells #[.bool na, .int .u64 (hi ca : Int), .int .u64 (lo ca : Int), .int .i64 (SA : Int)] 26)) osG dG).alloc (.cells #[.bool false, .int .u64 0, .int .u64 0, .int .i64 0] 26)) osH dH) osI dI) os d')
        case first =>
          refine wp_region_held_drew (S := fun w' => w'.cell? ⟨w.heap.size + 1 + 1 + osA.size + osB.size + osC.size + osD.size, 3, none⟩ = some (.int .i64 0) ∧ w'.cell? ⟨w.heap.size + 1 + 1 + osA.size + osB.size + osC.size + osD.size + 1 + osE.size, 3, none⟩ = some (.int .i64 0) ∧ w'.cell? ⟨w.heap.size + 1 + 1 + osA.size + osB.size + osC.size + osD.size + 1 + osE.size + 1 + osF.size, 0, none⟩ = some (.bool na) ∧ w'.cell? ⟨w.heap.size + 1 + 1 + osA.size + osB.size + osC.size + osD.size + 1 + osE.size + 1 + osF.size, 1, none⟩ = some (.int .u64 (hi ca : Int)) ∧ w'.cell? ⟨w.heap.size + 1 + 1 + osA.size + osB.size + osC.size + osD.size + 1 + osE.size + 1 + osF.size, 2, none⟩ = some (.int .u64 (lo ca : Int)) ∧ w'.cell? ⟨w.heap.size + 1 + 1 + osA.size + osB.size + osC.size + osD.size + 1 + osE.size + 1 + osF.size, 3, none⟩ = some (.int .i64 (SA : Int)) ∧ w'.cell? ⟨w.heap.size, 0, none⟩ = some (.bool na) ∧ w'.cell? ⟨w.heap.size, 1, none⟩ = some (.int .u64 (hi ca : Int)) ∧ w'.cell? ⟨w.heap.size, 2, none⟩ = some (.int .u64 (lo ca : Int)) ∧ w'.cell? ⟨w.heap.size, 3, none⟩ = some (.int .i64 (SA : Int)) ∧ w'.cell? ⟨w.heap.size + 1 + 1 + osA.size + osB.size + osC.size + osD.size + 1 + osE.size + 1 + osF.size + 1 + osG.size, 0, none⟩ = some (.bool false) ∧ w'.cell? ⟨w.heap.size + 1 + 1 + osA.size + osB.size + osC.size + osD.size + 1 + osE.size + 1 + osF.size + 1 + osG.size, 1, none⟩ = some (.int .u64 0) ∧ w'.cell? ⟨w.heap.size + 1 + 1 + osA.size + osB.size + osC.size + osD.size + 1 + osE.size + 1 + osF.size + 1 + osG.size, 2, none⟩ = some (.int .u64 0) ∧ w'.cell? ⟨w.heap.size + 1 + 1 + osA.size + osB.size + osC.size + osD.size + 1 + osE.size + 1 + osF.size + 1 + osG.size, 3, none⟩ = some (.int .i64 0)) (by kernel_rfl) ?hSa (fun hHeld => ?resta)
          case hSa => ((try dsimp only); (first | (simp [go_sem]; done) | go_keep))
          refine wpAnyH_take (i := 0) (oi := ({ dst := some 75, op := Op.move (Operand.tmp 8), type := 28, pos := "outright.go:81", after := #[], guard := none } : Oper)) (v := ?v0) rfl (by kernel_rfl) (by kernel_rfl) (by kernel_rfl) (fun _ _ _ h => h) (Or.inl ⟨by rfl, ?hy0⟩) (by assumption) ?re0
          case hy0 => (intro w hSw; (try dsimp only at hSw); go_simp; try with_reducible rfl)
          (try simp only [Act.put, List.setIfInBounds_toArray, List.set_cons_zero, List.set_cons_succ])
          refine wpAnyH_take (i := 1) (oi := ({ dst := some 76, op := Op.binOp BinOp.neq 28 (Operand.tmp 75) (Operand.const (Value.int IntKind.i64 0)) 28, type := 4, pos := "outright.go:81", after := #[{ on := 0, ground := Ground.data }], guard := none } : Oper)) (v := ?v1) rfl (by kernel_rfl) (by kernel_rfl) (by kernel_rfl) (fun _ _ _ h => h) (Or.inl ⟨by rfl, ?hy1⟩) (by assumption) ?re1
          case hy1 => (intro w hSw; (try dsimp only at hSw); go_simp; try with_reducible rfl)
          (try simp only [Act.put, List.setIfInBounds_toArray, List.set_cons_zero, List.set_cons_succ])
          refine wpAnyH_take (i := 2) (oi := ({ dst := some 77, op := Op.move (Operand.tmp 76), type := 4, pos := "outright.go:81", after := #[{ on := 1, ground := Ground.data }], guard := none } : Oper)) (v := ?v2) rfl (by kernel_rfl) (by kernel_rfl) (by kernel_rfl) (fun _ _ _ h => h) (Or.inl ⟨by rfl, ?hy2⟩) (by assumption) ?re2
          case hy2 => (intro w hSw; (try dsimp only at hSw); go_simp; try with_reducible rfl)
          (try simp only [Act.put, List.setIfInBounds_toArray, List.set_cons_zero, List.set_cons_succ])
          refine wpAnyH_take (i := 3) (oi := ({ dst := some 78, op := Op.move (Operand.tmp 10), type := 28, pos := "outright.go:81", after := #[{ on := 2, ground := Ground.guard }], guard := some (2, false) } : Oper)) (v := ?v3) rfl (by kernel_rfl) (by kernel_rfl) (by kernel_rfl) (fun _ _ _ h => h) (Or.inl ⟨by rfl, ?hy3⟩) (by assumption) ?re3
          case hy3 => (intro w hSw; (try dsimp only at hSw); go_simp; try with_reducible rfl)
          (try simp only [Act.put, List.setIfInBounds_toArray, List.set_cons_zero, List.set_cons_succ])
          refine wpAnyH_take (i := 4) (oi := ({ dst := some 79, op := Op.binOp BinOp.neq 28 (Operand.tmp 78) (Operand.const (Value.int IntKind.i64 0)) 28, type := 4, pos := "outright.go:81", after := #[{ on := 3, ground := Ground.data }, { on := 2, ground := Ground.guard }], guard := some (2, false) } : Oper)) (v := ?v4) rfl (by kernel_rfl) (by kernel_rfl) (by kernel_rfl) (fun _ _ _ h => h) (Or.inl ⟨by rfl, ?hy4⟩) (by assumption) ?re4
          case hy4 => (intro w hSw; (try dsimp only at hSw); go_simp; try with_reducible rfl)
          (try simp only [Act.put, List.setIfInBounds_toArray, List.set_cons_zero, List.set_cons_succ])
          refine wpAnyH_take (i := 5) (oi := ({ dst := some 80, op := Op.pick (Operand.tmp 77) (Operand.const (Value.bool true)) (Operand.tmp 79), type := 4, pos := "outright.go:81", after := #[{ on := 2, ground := Ground.data }, { on := 4, ground := Ground.data }], guard := none } : Oper)) (v := ?v5) rfl (by kernel_rfl) (by kernel_rfl) (by kernel_rfl) (fun _ _ _ h => h) (Or.inl ⟨by rfl, ?hy5⟩) (by assumption) ?re5
          case hy5 => (intro w hSw; (try dsimp only at hSw); go_simp; try with_reducible rfl)
          (try simp only [Act.put, List.setIfInBounds_toArray, List.set_cons_zero, List.set_cons_succ])
          refine wpAnyH_take (i := 6) (oi := ({ dst := some 81, op := Op.move (Operand.tmp 80), type := 4, pos := "outright.go:81", after := #[{ on := 5, ground := Ground.data }, { on := 2, ground := Ground.chain }], guard := none } : Oper)) (v := ?v6) rfl (by kernel_rfl) (by kernel_rfl) (by kernel_rfl) (fun _ _ _ h => h) (Or.inl ⟨by rfl, ?hy6⟩) (by assumption) ?re6
          case hy6 => (intro w hSw; (try dsimp only at hSw); go_simp; try with_reducible rfl)
          (try simp only [Act.put, List.setIfInBounds_toArray, List.set_cons_zero, List.set_cons_succ])
          refine wpAnyH_take (i := 7) (oi := ({ dst := some 82, op := Op.move (Operand.tmp 12), type := 28, pos := "outright.go:81", after := #[{ on := 6, ground := Ground.guard }], guard := some (6, false) } : Oper)) (v := ?v7) rfl (by kernel_rfl) (by kernel_rfl) (by kernel_rfl) (fun _ _ _ h => h) (Or.inl ⟨by rfl, ?hy7⟩) (by assumption) ?re7
          case hy7 => (intro w hSw; (try dsimp only at hSw); go_simp; try with_reducible rfl)
          (try simp only [Act.put, List.setIfInBounds_toArray, List.set_cons_zero, List.set_cons_succ])
          refine wpAnyH_take (i := 8) (oi := ({ dst := some 83, op := Op.binOp BinOp.neq 28 (Operand.tmp 82) (Operand.const (Value.int IntKind.i64 0)) 28, type := 4, pos := "outright.go:81", after := #[{ on := 7, ground := Ground.data }, { on := 6, ground := Ground.guard }], guard := some (6, false) } : Oper)) (v := ?v8) rfl (by kernel_rfl) (by kernel_rfl) (by kernel_rfl) (fun _ _ _ h => h) (Or.inl ⟨by rfl, ?hy8⟩) (by assumption) ?re8
          case hy8 => (intro w hSw; (try dsimp only at hSw); go_simp; try with_reducible rfl)
          (try simp only [Act.put, List.setIfInBounds_toArray, List.set_cons_zero, List.set_cons_succ])
          refine wpAnyH_take (i := 9) (oi := ({ dst := some 84, op := Op.pick (Operand.tmp 81) (Operand.const (Value.bool true)) (Operand.tmp 83), type := 4, pos := "outright.go:81", after := #[{ on := 6, ground := Ground.data }, { on := 8, ground := Ground.data }], guard := none } : Oper)) (v := ?v9) rfl (by kernel_rfl) (by kernel_rfl) (by kernel_rfl) (fun _ _ _ h => h) (Or.inl ⟨by rfl, ?hy9⟩) (by assumption) ?re9
          case hy9 => (intro w hSw; (try dsimp only at hSw); go_simp; try with_reducible rfl)
          (try simp only [Act.put, List.setIfInBounds_toArray, List.set_cons_zero, List.set_cons_succ])
          refine wpAnyH_take (i := 10) (oi := ({ dst := some 85, op := Op.move (Operand.tmp 84), type := 4, pos := "outright.go:81", after := #[{ on := 9, ground := Ground.data }, { on := 6, ground := Ground.chain }], guard := none } : Oper)) (v := ?v10) rfl (by kernel_rfl) (by kernel_rfl) (by kernel_rfl) (fun _ _ _ h => h) (Or.inl ⟨by rfl, ?hy10⟩) (by assumption) ?re10
          case hy10 => (intro w hSw; (try dsimp only at hSw); go_simp; try with_reducible rfl)
          (try simp only [Act.put, List.setIfInBounds_toArray, List.set_cons_zero, List.set_cons_succ])
          refine wpAnyH_take (i := 11) (oi := ({ dst := some 86, op := Op.move (Operand.tmp 14), type := 28, pos := "outright.go:81", after := #[{ on := 10, ground := Ground.guard }], guard := some (10, false) } : Oper)) (v := ?v11) rfl (by kernel_rfl) (by kernel_rfl) (by kernel_rfl) (fun _ _ _ h => h) (Or.inl ⟨by rfl, ?hy11⟩) (by assumption) ?re11
          case hy11 => (intro w hSw; (try dsimp only at hSw); go_simp; try with_reducible rfl)
          (try simp only [Act.put, List.setIfInBounds_toArray, List.set_cons_zero, List.set_cons_succ])
          refine wpAnyH_take (i := 12) (oi := ({ dst := some 87, op := Op.binOp BinOp.neq 28 (Operand.tmp 86) (Operand.const (Value.int IntKind.i64 0)) 28, type := 4, pos := "outright.go:81", after := #[{ on := 11, ground := Ground.data }, { on := 10, ground := Ground.guard }], guard := some (10, false) } : Oper)) (v := ?v12) rfl (by kernel_rfl) (by kernel_rfl) (by kernel_rfl) (fun _ _ _ h => h) (Or.inl ⟨by rfl, ?hy12⟩) (by assumption) ?re12
          case hy12 => (intro w hSw; (try dsimp only at hSw); go_simp; try with_reducible rfl)
          (try simp only [Act.put, List.setIfInBounds_toArray, List.set_cons_zero, List.set_cons_succ])
          refine wpAnyH_take (i := 13) (oi := ({ dst := some 88, op := Op.pick (Operand.tmp 85) (Operand.const (Value.bool true)) (Operand.tmp 87), type := 4, pos := "outright.go:81", after := #[{ on := 10, ground := Ground.data }, { on := 12, ground := Ground.data }], guard := none } : Oper)) (v := ?v13) rfl (by kernel_rfl) (by kernel_rfl) (by kernel_rfl) (fun _ _ _ h => h) (Or.inl ⟨by rfl, ?hy13⟩) (by assumption) ?re13
          case hy13 => (intro w hSw; (try dsimp only at hSw); go_simp; try with_reducible rfl)
          (try simp only [Act.put, List.setIfInBounds_toArray, List.set_cons_zero, List.set_cons_succ])
          refine wpAnyH_take (i := 14) (oi := ({ dst := some 89, op := Op.move (Operand.tmp 88), type := 4, pos := "outright.go:81", after := #[{ on := 13, ground := Ground.data }, { on := 10, ground := Ground.chain }], guard := none } : Oper)) (v := ?v14) rfl (by kernel_rfl) (by kernel_rfl) (by kernel_rfl) (fun _ _ _ h => h) (Or.inl ⟨by rfl, ?hy14⟩) (by assumption) ?re14
          case hy14 => (intro w hSw; (try dsimp only at hSw); go_simp; try with_reducible rfl)
          (try simp only [Act.put, List.setIfInBounds_toArray, List.set_cons_zero, List.set_cons_succ])
          refine wpAnyH_take (i := 15) (oi := ({ dst := some 90, op := Op.move (Operand.tmp 16), type := 28, pos := "outright.go:81", after := #[{ on := 14, ground := Ground.guard }], guard := some (14, false) } : Oper)) (v := ?v15) rfl (by kernel_rfl) (by kernel_rfl) (by kernel_rfl) (fun _ _ _ h => h) (Or.inl ⟨by rfl, ?hy15⟩) (by assumption) ?re15
          case hy15 => (intro w hSw; (try dsimp only at hSw); go_simp; try with_reducible rfl)
          (try simp only [Act.put, List.setIfInBounds_toArray, List.set_cons_zero, List.set_cons_succ])
          refine wpAnyH_take (i := 16) (oi := ({ dst := some 91, op := Op.binOp BinOp.neq 28 (Operand.tmp 90) (Operand.const (Value.int IntKind.i64 0)) 28, type := 4, pos := "outright.go:81", after := #[{ on := 15, ground := Ground.data }, { on := 14, ground := Ground.guard }], guard := some (14, false) } : Oper)) (v := ?v16) rfl (by kernel_rfl) (by kernel_rfl) (by kernel_rfl) (fun _ _ _ h => h) (Or.inl ⟨by rfl, ?hy16⟩) (by assumption) ?re16
          case hy16 => (intro w hSw; (try dsimp only at hSw); go_simp; try with_reducible rfl)
          (try simp only [Act.put, List.setIfInBounds_toArray, List.set_cons_zero, List.set_cons_succ])
          refine wpAnyH_take (i := 17) (oi := ({ dst := some 92, op := Op.pick (Operand.tmp 89) (Operand.const (Value.bool true)) (Operand.tmp 91), type := 4, pos := "outright.go:81", after := #[{ on := 14, ground := Ground.data }, { on := 16, ground := Ground.data }], guard := none } : Oper)) (v := ?v17) rfl (by kernel_rfl) (by kernel_rfl) (by kernel_rfl) (fun _ _ _ h => h) (Or.inl ⟨by rfl, ?hy17⟩) (by assumption) ?re17
          case hy17 => (intro w hSw; (try dsimp only at hSw); go_simp; try with_reducible rfl)
          (try simp only [Act.put, List.setIfInBounds_toArray, List.set_cons_zero, List.set_cons_succ])
          refine wpAnyH_take (i := 18) (oi := ({ dst := some 93, op := Op.move (Operand.tmp 92), type := 4, pos := "outright.go:81", after := #[{ on := 17, ground := Ground.data }, { on := 14, ground := Ground.chain }], guard := none } : Oper)) (v := ?v18) rfl (by kernel_rfl) (by kernel_rfl) (by kernel_rfl) (fun _ _ _ h => h) (Or.inl ⟨by rfl, ?hy18⟩) (by assumption) ?re18
          case hy18 => (intro w hSw; (try dsimp only at hSw); go_simp; try with_reducible rfl)
          (try simp only [Act.put, List.setIfInBounds_toArray, List.set_cons_zero, List.set_cons_succ])
          refine wpAnyH_take (i := 19) (oi := ({ dst := some 94, op := Op.move (Operand.tmp 18), type := 28, pos := "outright.go:81", after := #[{ on := 18, ground := Ground.guard }], guard := some (18, false) } : Oper)) (v := ?v19) rfl (by kernel_rfl) (by kernel_rfl) (by kernel_rfl) (fun _ _ _ h => h) (Or.inl ⟨by rfl, ?hy19⟩) (by assumption) ?re19
          case hy19 => (intro w hSw; (try dsimp only at hSw); go_simp; try with_reducible rfl)
          (try simp only [Act.put, List.setIfInBounds_toArray, List.set_cons_zero, List.set_cons_succ])
          refine wpAnyH_take (i := 20) (oi := ({ dst := some 95, op := Op.binOp BinOp.neq 28 (Operand.tmp 94) (Operand.const (Value.int IntKind.i64 0)) 28, type := 4, pos := "outright.go:81", after := #[{ on := 19, ground := Ground.data }, { on := 18, ground := Ground.guard }], guard := some (18, false) } : Oper)) (v := ?v20) rfl (by kernel_rfl) (by kernel_rfl) (by kernel_rfl) (fun _ _ _ h => h) (Or.inl ⟨by rfl, ?hy20⟩) (by assumption) ?re20
          case hy20 => (intro w hSw; (try dsimp only at hSw); go_simp; try with_reducible rfl)
          (try simp only [Act.put, List.setIfInBounds_toArray, List.set_cons_zero, List.set_cons_succ])
          refine wpAnyH_take (i := 21) (oi := ({ dst := some 96, op := Op.pick (Operand.tmp 93) (Operand.const (Value.bool true)) (Operand.tmp 95), type := 4, pos := "outright.go:81", after := #[{ on := 18, ground := Ground.data }, { on := 20, ground := Ground.data }], guard := none } : Oper)) (v := ?v21) rfl (by kernel_rfl) (by kernel_rfl) (by kernel_rfl) (fun _ _ _ h => h) (Or.inl ⟨by rfl, ?hy21⟩) (by assumption) ?re21
          case hy21 => (intro w hSw; (try dsimp only at hSw); go_simp; try with_reducible rfl)
          (try simp only [Act.put, List.setIfInBounds_toArray, List.set_cons_zero, List.set_cons_succ])
          refine wpAnyH_take (i := 22) (oi := ({ dst := some 97, op := Op.move (Operand.tmp 96), type := 4, pos := "outright.go:81", after := #[{ on := 21, ground := Ground.data }, { on := 18, ground := Ground.chain }], guard := none } : Oper)) (v := ?v22) rfl (by kernel_rfl) (by kernel_rfl) (by kernel_rfl) (fun _ _ _ h => h) (Or.inl ⟨by rfl, ?hy22⟩) (by assumption) ?re22
          case hy22 => (intro w hSw; (try dsimp only at hSw); go_simp; try with_reducible rfl)
          (try simp only [Act.put, List.setIfInBounds_toArray, List.set_cons_zero, List.set_cons_succ])
          refine wpAnyH_take (i := 23) (oi := ({ dst := some 98, op := Op.fieldAddr 26 (Operand.tmp 7) 2, type := 0, pos := "outright.go:81", after := #[{ on := 22, ground := Ground.guard }], guard := some (22, false) } : Oper)) (v := ?v23) rfl (by kernel_rfl) (by kernel_rfl) (by kernel_rfl) (fun _ _ _ h => h) (Or.inl ⟨by rfl, ?hy23⟩) (by assumption) ?re23
          case hy23 => (intro w hSw; (try dsimp only at hSw); go_simp; try with_reducible rfl)
          (try simp only [Act.put, List.setIfInBounds_toArray, List.set_cons_zero, List.set_cons_succ])
          refine wpAnyH_take (i := 24) (oi := ({ dst := some 99, op := Op.load 3 (Operand.tmp 98), type := 3, pos := "outright.go:81", after := #[{ on := 23, ground := Ground.data }, { on := 22, ground := Ground.guard }], guard := some (22, false) } : Oper)) (v := ?v24) rfl (by kernel_rfl) (by kernel_rfl) (by kernel_rfl) (fun _ _ _ h => h) (Or.inl ⟨by rfl, ?hy24⟩) (by assumption) ?re24
          case hy24 => (intro w hSw; (try dsimp only at hSw); go_simp; try with_reducible rfl)
          (try simp only [Act.put, List.setIfInBounds_toArray, List.set_cons_zero, List.set_cons_succ])
          refine wpAnyH_take (i := 25) (oi := ({ dst := some 100, op := Op.binOp BinOp.neq 3 (Operand.tmp 99) (Operand.const (Value.int IntKind.i64 0)) 3, type := 4, pos := "outright.go:81", after := #[{ on := 24, ground := Ground.data }, { on := 22, ground := Ground.guard }], guard := some (22, false) } : Oper)) (v := ?v25) rfl (by kernel_rfl) (by kernel_rfl) (by kernel_rfl) (fun _ _ _ h => h) (Or.inl ⟨by rfl, ?hy25⟩) (by assumption) ?re25
          case hy25 => (intro w hSw; (try dsimp only at hSw); go_simp; try with_reducible rfl)
          (try simp only [Act.put, List.setIfInBounds_toArray, List.set_cons_zero, List.set_cons_succ])
          refine wpAnyH_take (i := 26) (oi := ({ dst := some 101, op := Op.pick (Operand.tmp 97) (Operand.const (Value.bool true)) (Operand.tmp 100), type := 4, pos := "outright.go:81", after := #[{ on := 22, ground := Ground.data }, { on := 25, ground := Ground.data }], guard := none } : Oper)) (v := ?v26) rfl (by kernel_rfl) (by kernel_rfl) (by kernel_rfl) (fun _ _ _ h => h) (Or.inl ⟨by rfl, ?hy26⟩) (by assumption) ?re26
          case hy26 => (intro w hSw; (try dsimp only at hSw); go_simp; try with_reducible rfl)
          (try simp only [Act.put, List.setIfInBounds_toArray, List.set_cons_zero, List.set_cons_succ])
          refine wpAnyH_take (i := 27) (oi := ({ dst := some 102, op := Op.move (Operand.tmp 101), type := 4, pos := "outright.go:81", after := #[{ on := 26, ground := Ground.data }, { on := 22, ground := Ground.chain }], guard := none } : Oper)) (v := ?v27) rfl (by kernel_rfl) (by kernel_rfl) (by kernel_rfl) (fun _ _ _ h => h) (Or.inl ⟨by rfl, ?hy27⟩) (by assumption) ?re27
          case hy27 => (intro w hSw; (try dsimp only at hSw); go_simp; try with_reducible rfl)
          (try simp only [Act.put, List.setIfInBounds_toArray, List.set_cons_zero, List.set_cons_succ])
          refine wpAnyH_take (i := 28) (oi := ({ dst := some 103, op := Op.fieldAddr 26 (Operand.tmp 9) 2, type := 0, pos := "outright.go:81", after := #[{ on := 27, ground := Ground.guard }], guard := some (27, false) } : Oper)) (v := ?v28) rfl (by kernel_rfl) (by kernel_rfl) (by kernel_rfl) (fun _ _ _ h => h) (Or.inl ⟨by rfl, ?hy28⟩) (by assumption) ?re28
          case hy28 => (intro w hSw; (try dsimp only at hSw); go_simp; try with_reducible rfl)
          (try simp only [Act.put, List.setIfInBounds_toArray, List.set_cons_zero, List.set_cons_succ])
          refine wpAnyH_take (i := 29) (oi := ({ dst := some 104, op := Op.load 3 (Operand.tmp 103), type := 3, pos := "outright.go:81", after := #[{ on := 28, ground := Ground.data }, { on := 27, ground := Ground.guard }], guard := some (27, false) } : Oper)) (v := ?v29) rfl (by kernel_rfl) (by kernel_rfl) (by kernel_rfl) (fun _ _ _ h => h) (Or.inl ⟨by rfl, ?hy29⟩) (by assumption) ?re29
          case hy29 => (intro w hSw; (try dsimp only at hSw); go_simp; try with_reducible rfl)
          (try simp only [Act.put, List.setIfInBounds_toArray, List.set_cons_zero, List.set_cons_succ])
          refine wpAnyH_take (i := 30) (oi := ({ dst := some 105, op := Op.binOp BinOp.neq 3 (Operand.tmp 104) (Operand.const (Value.int IntKind.i64 0)) 3, type := 4, pos := "outright.go:81", after := #[{ on := 29, ground := Ground.data }, { on := 27, ground := Ground.guard }], guard := some (27, false) } : Oper)) (v := ?v30) rfl (by kernel_rfl) (by kernel_rfl) (by kernel_rfl) (fun _ _ _ h => h) (Or.inl ⟨by rfl, ?hy30⟩) (by assumption) ?re30
          case hy30 => (intro w hSw; (try dsimp only at hSw); go_simp; try with_reducible rfl)
          (try simp only [Act.put, List.setIfInBounds_toArray, List.set_cons_zero, List.set_cons_succ])
          refine wpAnyH_take (i := 31) (oi := ({ dst := some 106, op := Op.pick (Operand.tmp 102) (Operand.const (Value.bool true)) (Operand.tmp 105), type := 4, pos := "outright.go:81", after := #[{ on := 27, ground := Ground.data }, { on := 30, ground := Ground.data }], guard := none } : Oper)) (v := ?v31) rfl (by kernel_rfl) (by kernel_rfl) (by kernel_rfl) (fun _ _ _ h => h) (Or.inl ⟨by rfl, ?hy31⟩) (by assumption) ?re31
          case hy31 => (intro w hSw; (try dsimp only at hSw); go_simp; try with_reducible rfl)
          (try simp only [Act.put, List.setIfInBounds_toArray, List.set_cons_zero, List.set_cons_succ])
          refine wpAnyH_take (i := 32) (oi := ({ dst := some 107, op := Op.move (Operand.tmp 106), type := 4, pos := "outright.go:81", after := #[{ on := 31, ground := Ground.data }, { on := 27, ground := Ground.chain }], guard := none } : Oper)) (v := ?v32) rfl (by kernel_rfl) (by kernel_rfl) (by kernel_rfl) (fun _ _ _ h => h) (Or.inl ⟨by rfl, ?hy32⟩) (by assumption) ?re32
          case hy32 => (intro w hSw; (try dsimp only at hSw); go_simp; try with_reducible rfl)
          (try simp only [Act.put, List.setIfInBounds_toArray, List.set_cons_zero, List.set_cons_succ])
          refine wpAnyH_take (i := 33) (oi := ({ dst := some 108, op := Op.load 26 (Operand.tmp 11), type := 26, pos := "outright.go:81", after := #[{ on := 32, ground := Ground.guard }], guard := some (32, false) } : Oper)) (v := ?v33) rfl (by kernel_rfl) (by kernel_rfl) (by kernel_rfl) (fun _ _ _ h => h) (Or.inl ⟨by rfl, ?hy33⟩) (by assumption) ?re33
          case hy33 => (intro w hSw; (try dsimp only at hSw); go_simp; try with_reducible rfl)
          (try simp only [Act.put, List.setIfInBounds_toArray, List.set_cons_zero, List.set_cons_succ])
          refine wpAnyH_take (i := 34) (oi := ({ dst := some 109, op := Op.load 26 (Operand.tmp 2), type := 26, pos := "outright.go:81", after := #[{ on := 32, ground := Ground.guard }], guard := some (32, false) } : Oper)) (v := ?v34) rfl (by kernel_rfl) (by kernel_rfl) (by kernel_rfl) (fun _ _ _ h => h) (Or.inl ⟨by rfl, ?hy34⟩) (by assumption) ?re34
          case hy34 => (intro w hSw; (try dsimp only at hSw); go_simp; try with_reducible rfl)
          (try simp only [Act.put, List.setIfInBounds_toArray, List.set_cons_zero, List.set_cons_succ])
          refine wpAnyH_take (i := 35) (oi := ({ dst := some 110, op := Op.binOp BinOp.neq 26 (Operand.tmp 108) (Operand.tmp 109) 26, type := 4, pos := "outright.go:81", after := #[{ on := 33, ground := Ground.data }, { on := 34, ground := Ground.data }, { on := 32, ground := Ground.guard }], guard := some (32, false) } : Oper)) (v := ?v35) rfl (by kernel_rfl) (by kernel_rfl) (by kernel_rfl) (fun _ _ _ h => h) (Or.inl ⟨by rfl, ?hy35⟩) (by assumption) ?re35
          case hy35 => (intro w hSw; (try dsimp only at hSw); go_simp; try with_reducible rfl)
          (try simp only [Act.put, List.setIfInBounds_toArray, List.set_cons_zero, List.set_cons_succ])
          refine wpAnyH_take (i := 36) (oi := ({ dst := some 111, op := Op.pick (Operand.tmp 107) (Operand.const (Value.bool true)) (Operand.tmp 110), type := 4, pos := "outright.go:81", after := #[{ on := 32, ground := Ground.data }, { on := 35, ground := Ground.data }], guard := none } : Oper)) (v := ?v36) rfl (by kernel_rfl) (by kernel_rfl) (by kernel_rfl) (fun _ _ _ h => h) (Or.inl ⟨by rfl, ?hy36⟩) (by assumption) ?re36
          case hy36 => (intro w hSw; (try dsimp only at hSw); go_simp; try with_reducible rfl)
          (try simp only [Act.put, List.setIfInBounds_toArray, List.set_cons_zero, List.set_cons_succ])
          refine wpAnyH_take (i := 37) (oi := ({ dst := some 112, op := Op.move (Operand.tmp 111), type := 4, pos := "outright.go:81", after := #[{ on := 36, ground := Ground.data }, { on := 32, ground := Ground.chain }], guard := none } : Oper)) (v := ?v37) rfl (by kernel_rfl) (by kernel_rfl) (by kernel_rfl) (fun _ _ _ h => h) (Or.inl ⟨by rfl, ?hy37⟩) (by assumption) ?re37
          case hy37 => (intro w hSw; (try dsimp only at hSw); go_simp; try with_reducible rfl)
          (try simp only [Act.put, List.setIfInBounds_toArray, List.set_cons_zero, List.set_cons_succ])
          refine wpAnyH_take (i := 38) (oi := ({ dst := some 113, op := Op.move (Operand.tmp 15), type := 3, pos := "outright.go:81", after := #[{ on := 37, ground := Ground.guard }], guard := some (37, false) } : Oper)) (v := ?v38) rfl (by kernel_rfl) (by kernel_rfl) (by kernel_rfl) (fun _ _ _ h => h) (Or.inl ⟨by rfl, ?hy38⟩) (by assumption) ?re38
          case hy38 => (intro w hSw; (try dsimp only at hSw); go_simp; try with_reducible rfl)
          (try simp only [Act.put, List.setIfInBounds_toArray, List.set_cons_zero, List.set_cons_succ])
          refine wpAnyH_take (i := 39) (oi := ({ dst := some 114, op := Op.binOp BinOp.gtr 3 (Operand.tmp 113) (Operand.const (Value.int IntKind.i64 0)) 3, type := 4, pos := "outright.go:81", after := #[{ on := 38, ground := Ground.data }, { on := 37, ground := Ground.guard }], guard := some (37, false) } : Oper)) (v := ?v39) rfl (by kernel_rfl) (by kernel_rfl) (by kernel_rfl) (fun _ _ _ h => h) (Or.inl ⟨by rfl, ?hy39⟩) (by assumption) ?re39
          case hy39 => (intro w hSw; (try dsimp only at hSw); go_simp; try with_reducible rfl)
          (try simp only [Act.put, List.setIfInBounds_toArray, List.set_cons_zero, List.set_cons_succ])
          refine wpAnyH_take (i := 40) (oi := ({ dst := some 115, op := Op.pick (Operand.tmp 112) (Operand.const (Value.bool true)) (Operand.tmp 114), type := 4, pos := "outright.go:81", after := #[{ on := 37, ground := Ground.data }, { on := 39, ground := Ground.data }], guard := none } : Oper)) (v := ?v40) rfl (by kernel_rfl) (by kernel_rfl) (by kernel_rfl) (fun _ _ _ h => h) (Or.inl ⟨by rfl, ?hy40⟩) (by assumption) ?re40
          case hy40 => (intro w hSw; (try dsimp only at hSw); go_simp; try with_reducible rfl)
          (try simp only [Act.put, List.setIfInBounds_toArray, List.set_cons_zero, List.set_cons_succ])
          refine wpAnyH_take (i := 41) (oi := ({ dst := some 116, op := Op.move (Operand.tmp 115), type := 4, pos := "outright.go:81", after := #[{ on := 40, ground := Ground.data }, { on := 37, ground := Ground.chain }], guard := none } : Oper)) (v := ?v41) rfl (by kernel_rfl) (by kernel_rfl) (by kernel_rfl) (fun _ _ _ h => h) (Or.inl ⟨by rfl, ?hy41⟩) (by assumption) ?re41
          case hy41 => (intro w hSw; (try dsimp only at hSw); go_simp; try with_reducible rfl)
          (try simp only [Act.put, List.setIfInBounds_toArray, List.set_cons_zero, List.set_cons_succ])
          refine wpAnyH_take (i := 42) (oi := ({ dst := some 117, op := Op.move (Operand.tmp 17), type := 3, pos := "outright.go:81", after := #[{ on := 41, ground := Ground.guard }], guard := some (41, false) } : Oper)) (v := ?v42) rfl (by kernel_rfl) (by kernel_rfl) (by kernel_rfl) (fun _ _ _ h => h) (Or.inl ⟨by rfl, ?hy42⟩) (by assumption) ?re42
          case hy42 => (intro w hSw; (try dsimp only at hSw); go_simp; try with_reducible rfl)
          (try simp only [Act.put, List.setIfInBounds_toArray, List.set_cons_zero, List.set_cons_succ])
          refine wpAnyH_take (i := 43) (oi := ({ dst := some 118, op := Op.binOp BinOp.gtr 3 (Operand.tmp 117) (Operand.const (Value.int IntKind.i64 0)) 3, type := 4, pos := "outright.go:81", after := #[{ on := 42, ground := Ground.data }, { on := 41, ground := Ground.guard }], guard := some (41, false) } : Oper)) (v := ?v43) rfl (by kernel_rfl) (by kernel_rfl) (by kernel_rfl) (fun _ _ _ h => h) (Or.inl ⟨by rfl, ?hy43⟩) (by assumption) ?re43
          case hy43 => (intro w hSw; (try dsimp only at hSw); go_simp; try with_reducible rfl)
          (try simp only [Act.put, List.setIfInBounds_toArray, List.set_cons_zero, List.set_cons_succ])
          refine wpAnyH_take (i := 44) (oi := ({ dst := some 119, op := Op.pick (Operand.tmp 116) (Operand.const (Value.bool true)) (Operand.tmp 118), type := 4, pos := "outright.go:81", after := #[{ on := 41, ground := Ground.data }, { on := 43, ground := Ground.data }], guard := none } : Oper)) (v := ?v44) rfl (by kernel_rfl) (by kernel_rfl) (by kernel_rfl) (fun _ _ _ h => h) (Or.inl ⟨by rfl, ?hy44⟩) (by assumption) ?re44
          case hy44 => (intro w hSw; (try dsimp only at hSw); go_simp; try with_reducible rfl)
          (try simp only [Act.put, List.setIfInBounds_toArray, List.set_cons_zero, List.set_cons_succ])
          refine wpAnyH_take (i := 45) (oi := ({ dst := some 120, op := Op.move (Operand.tmp 119), type := 4, pos := "outright.go:81", after := #[{ on := 44, ground := Ground.data }, { on := 41, ground := Ground.chain }], guard := none } : Oper)) (v := ?v45) rfl (by kernel_rfl) (by kernel_rfl) (by kernel_rfl) (fun _ _ _ h => h) (Or.inl ⟨by rfl, ?hy45⟩) (by assumption) ?re45
          case hy45 => (intro w hSw; (try dsimp only at hSw); go_simp; try with_reducible rfl)
          (try simp only [Act.put, List.setIfInBounds_toArray, List.set_cons_zero, List.set_cons_succ])
          refine wpAnyH_take (i := 46) (oi := ({ dst := some 121, op := Op.load 26 (Operand.tmp 13), type := 26, pos := "outright.go:81", after := #[{ on := 45, ground := Ground.guard }], guard := some (45, false) } : Oper)) (v := ?v46) rfl (by kernel_rfl) (by kernel_rfl) (by kernel_rfl) (fun _ _ _ h => h) (Or.inl ⟨by rfl, ?hy46⟩) (by assumption) ?re46
          case hy46 => (intro w hSw; (try dsimp only at hSw); go_simp; try with_reducible rfl)
          (try simp only [Act.put, List.setIfInBounds_toArray, List.set_cons_zero, List.set_cons_succ])
          refine wpAnyH_ready (rs := [47]) (by kernel_rfl) (by simp) ?restb
          refine AllReadyH.cons (o := _) rfl (fun K hK => ?stepb) AllReadyH.nil
          go_simp
          (go_at_call 28; ((with_reducible refine (dof_0 _).mono ?_); rintro e w1 ⟨rfl, hb1⟩; obtain ⟨osJ, dJ, rfl⟩ := ext_of_below hb1; clear hb1))
          refine hK.out _ _ ?hSc (fun hHeld => ?restc)
          case hSc => ((try dsimp only); (first | (simp [go_sem]; done) | go_keep))
          clear hK K
          (try simp only [Act.put, List.setIfInBounds_toArray, List.set_cons_zero, List.set_cons_succ])
          refine wpAnyH_take (i := 48) (oi := ({ dst := some 123, op := Op.binOp BinOp.neq 26 (Operand.tmp 121) (Operand.tmp 122) 26, type := 4, pos := "outright.go:81", after := #[{ on := 46, ground := Ground.data }, { on := 47, ground := Ground.data }, { on := 45, ground := Ground.guard }], guard := some (45, false) } : Oper)) (v := ?v48) rfl (by kernel_rfl) (by kernel_rfl) (by kernel_rfl) (fun _ _ _ h => h) (Or.inl ⟨by rfl, ?hy48⟩) (by assumption) ?re48
          case hy48 => (intro w hSw; (try dsimp only at hSw); go_simp; try with_reducible rfl)
          (try simp only [Act.put, List.setIfInBounds_toArray, List.set_cons_zero, List.set_cons_succ])
          refine wpAnyH_take (i := 49) (oi := ({ dst := some 124, op := Op.move (Operand.tmp 123), type := 4, pos := "outright.go:81", after := #[{ on := 48, ground := Ground.data }, { on := 47, ground := Ground.chain }, { on := 45, ground := Ground.guard }], guard := some (45, false) } : Oper)) (v := ?v49) rfl (by kernel_rfl) (by kernel_rfl) (by kernel_rfl) (fun _ _ _ h => h) (Or.inl ⟨by rfl, ?hy49⟩) (by assumption) ?re49
          case hy49 => (intro w hSw; (try dsimp only at hSw); go_simp; try with_reducible rfl)
          (try simp only [Act.put, List.setIfInBounds_toArray, List.set_cons_zero, List.set_cons_succ])
          refine wpAnyH_take (i := 50) (oi := ({ dst := some 125, op := Op.load 26 (Operand.tmp 13), type := 26, pos := "outright.go:81", after := #[{ on := 49, ground := Ground.guard }], guard := some (49, true) } : Oper)) (v := undef) rfl (by kernel_rfl) (by kernel_rfl) (by kernel_rfl) (fun _ _ _ h => h) (Or.inr ⟨by rfl, rfl⟩) (by assumption) ?re50
          (try simp only [Act.put, List.setIfInBounds_toArray, List.set_cons_zero, List.set_cons_succ])
          refine wpAnyH_take (i := 51) (oi := ({ dst := some 126, op := Op.call { callee := Callee.value (Operand.func 28), args := #[Operand.const (Value.int IntKind.i64 1)], argTypes := #[3] }, type := 26, pos := "outright.go:81", after := #[{ on := 49, ground := Ground.chain }, { on := 49, ground := Ground.guard }], guard := some (49, true) } : Oper)) (v := undef) rfl (by kernel_rfl) (by kernel_rfl) (by kernel_rfl) (fun _ _ _ h => h) (Or.inr ⟨by rfl, rfl⟩) (by assumption) ?re51
          (try simp only [Act.put, List.setIfInBounds_toArray, List.set_cons_zero, List.set_cons_succ])
          refine wpAnyH_take (i := 52) (oi := ({ dst := some 127, op := Op.binOp BinOp.neq 26 (Operand.tmp 125) (Operand.tmp 126) 26, type := 4, pos := "outright.go:81", after := #[{ on := 50, ground := Ground.data }, { on := 51, ground := Ground.data }, { on := 49, ground := Ground.guard }], guard := some (49, true) } : Oper)) (v := undef) rfl (by kernel_rfl) (by kernel_rfl) (by kernel_rfl) (fun _ _ _ h => h) (Or.inr ⟨by rfl, rfl⟩) (by assumption) ?re52
          (try simp only [Act.put, List.setIfInBounds_toArray, List.set_cons_zero, List.set_cons_succ])
          refine wpAnyH_take (i := 53) (oi := ({ dst := some 128, op := Op.pick (Operand.tmp 124) (Operand.tmp 127) (Operand.const (Value.bool false)), type := 4, pos := "outright.go:81", after := #[{ on := 49, ground := Ground.data }, { on := 52, ground := Ground.data }, { on := 45, ground := Ground.guard }], guard := some (45, false) } : Oper)) (v := ?v53) rfl (by kernel_rfl) (by kernel_rfl) (by kernel_rfl) (fun _ _ _ h => h) (Or.inl ⟨by rfl, ?hy53⟩) (by assumption) ?re53
          case hy53 => (intro w hSw; (try dsimp only at hSw); go_simp; try with_reducible rfl)
          (try simp only [Act.put, List.setIfInBounds_toArray, List.set_cons_zero, List.set_cons_succ])
          refine wpAnyH_take (i := 54) (oi := ({ dst := some 129, op := Op.pick (Operand.tmp 120) (Operand.const (Value.bool true)) (Operand.tmp 128), type := 4, pos := "outright.go:81", after := #[{ on := 45, ground := Ground.data }, { on := 53, ground := Ground.data }], guard := none } : Oper)) (v := ?v54) rfl (by kernel_rfl) (by kernel_rfl) (by kernel_rfl) (fun _ _ _ h => h) (Or.inl ⟨by rfl, ?hy54⟩) (by assumption) ?re54
          case hy54 => (intro w hSw; (try dsimp only at hSw); go_simp; try with_reducible rfl)
          (try simp only [Act.put, List.setIfInBounds_toArray, List.set_cons_zero, List.set_cons_succ])
          refine wpAnyH_done (by kernel_rfl) ?restd _
          go_wp2_with fail
          go_meet
          exact meet_b (by (repeat' (first | (with_reducible exact Below.refl _ _) | (with_reducible assumption) | (with_reducible refine Below.alloc ?_ ?_ _) | (with_reducible refine below_drewN ?_ _) | (with_reducible refine below_drew ?_) | (with_reducible refine below_ext ?_ ?_ _ _) | (with_reducible refine Below.setCell ?_ ?_ _) | (simp; done) | (simp; omega) | omega)))
        case rest =>
          obtain ⟨osR, dR, rfl, rfl⟩ := hcut
          rcases HW.out with ⟨rfl, z1, z2, z3, h7⟩ | ⟨hnb, h9, r3, n3, hcase⟩
          · have H7 := Lib.hid h7
            clear h7 HW
            go_wp2_with (first
              | (go_at_call 14; ((with_reducible refine (H7.out _ (HT.out _ (by (repeat' (first | (with_reducible exact Below.refl _ _) | (with_reducible assumption) | (with_reducible refine Below.alloc ?_ ?_ _) | (with_reducible refine below_drewN ?_ _) | (with_reducible refine below_drew ?_) | (with_reducible refine below_ext ?_ ?_ _ _) | (with_reducible refine Below.setCell ?_ ?_ _) | (simp; done) | (simp; omega) | omega))))).mono ?_); rintro e w1 ⟨rfl, hb1⟩; obtain ⟨osL, dL, rfl⟩ := ext_of_below hb1; clear hb1))
              | (go_at_call 29; ((with_reducible refine (H8.out _ (HT.out _ (by (repeat' (first | (with_reducible exact Below.refl _ _) | (with_reducible assumption) | (with_reducible refine Below.alloc ?_ ?_ _) | (with_reducible refine below_drewN ?_ _) | (with_reducible refine below_drew ?_) | (with_reducible refine below_ext ?_ ?_ _ _) | (with_reducible refine Below.setCell ?_ ?_ _) | (simp; done) | (simp; omega) | omega))))).mono ?_); rintro e w1 ⟨rfl, hb1⟩; obtain ⟨osM, dM, rfl⟩ := ext_of_below hb1; clear hb1))
              | (go_at_call 29; ((with_reducible refine (H9.out _ (HT.out _ (by (repeat' (first | (with_reducible exact Below.refl _ _) | (with_reducible assumption) | (with_reducible refine Below.alloc ?_ ?_ _) | (with_reducible refine below_drewN ?_ _) | (with_reducible refine below_drew ?_) | (with_reducible refine below_ext ?_ ?_ _ _) | (with_reducible refine Below.setCell ?_ ?_ _) | (simp; done) | (simp; omega) | omega))))).mono ?_); rintro e w1 ⟨rfl, hb1⟩; obtain ⟨osN, dN, rfl⟩ := ext_of_below hb1; clear hb1))
              | (go_at_call 19; ((with_reducible refine (H10.out _ (HT.out _ (by (repeat' (first | (with_reducible exact Below.refl _ _) | (with_reducible assumption) | (with_reducible refine Below.alloc ?_ ?_ _) | (with_reducible refine below_drewN ?_ _) | (with_reducible refine below_drew ?_) | (with_reducible refine below_ext ?_ ?_ _ _) | (with_reducible refine Below.setCell ?_ ?_ _) | (simp; done) | (simp; omega) | omega))))).mono ?_); rintro e w1 ⟨rfl, hb1⟩; obtain ⟨osO, dO, rfl⟩ := ext_of_below hb1; clear hb1)))
            go_ret
            exact ⟨rfl, by (repeat' (first | (with_reducible exact Below.refl _ _) | (with_reducible assumption) | (with_reducible refine Below.alloc ?_ ?_ _) | (with_reducible refine below_drewN ?_ _) | (with_reducible refine below_drew ?_) | (with_reducible refine below_ext ?_ ?_ _ _) | (with_reducible refine Below.setCell ?_ ?_ _) | (simp; done) | (simp; omega) | omega))⟩
          · have H9 := Lib.hid h9
            rcases hcase with ⟨h7, h8, h10⟩ | ⟨c, s, hnc, h7, h8, h10⟩
            · have H7 := Lib.hid h7; have H8 := Lib.hid h8; have H10 := Lib.hid h10
              clear h7 h8 h9 h10 HW
              rcases hnb with nz | ⟨nz, nz'⟩
              all_goals
                go_wp2_with (first
                  | (go_at_call 14; ((with_reducible refine (H7.out _ (HT.out _ (by (repeat' (first | (with_reducible exact Below.refl _ _) | (with_reducible assumption) | (with_reducible refine Below.alloc ?_ ?_ _) | (with_reducible refine below_drewN ?_ _) | (with_reducible refine below_drew ?_) | (with_reducible refine below_ext ?_ ?_ _ _) | (with_reducible refine Below.setCell ?_ ?_ _) | (simp; done) | (simp; omega) | omega))))).mono ?_); rintro e w1 ⟨rfl, hb1⟩; obtain ⟨osL, dL, rfl⟩ := ext_of_below hb1; clear hb1))
                  | (go_at_call 29; ((with_reducible refine (H8.out _ (HT.out _ (by (repeat' (first | (with_reducible exact Below.refl _ _) | (with_reducible assumption) | (with_reducible refine Below.alloc ?_ ?_ _) | (with_reducible refine below_drewN ?_ _) | (with_reducible refine below_drew ?_) | (with_reducible refine below_ext ?_ ?_ _ _) | (with_reducible refine Below.setCell ?_ ?_ _) | (simp; done) | (simp; omega) | omega))))).mono ?_); rintro e w1 ⟨rfl, hb1⟩; obtain ⟨osM, dM, rfl⟩ := ext_of_below hb1; clear hb1))
                  | (go_at_call 29; ((with_reducible refine (H9.out _ (HT.out _ (by (repeat' (first | (with_reducible exact Below.refl _ _) | (with_reducible assumption) | (with_reducible refine Below.alloc ?_ ?_ _) | (with_reducible refine below_drewN ?_ _) | (with_reducible refine below_drew ?_) | (with_reducible refine below_ext ?_ ?_ _ _) | (with_reducible refine Below.setCell ?_ ?_ _) | (simp; done) | (simp; omega) | omega))))).mono ?_); rintro e w1 ⟨rfl, hb1⟩; obtain ⟨osN, dN, rfl⟩ := ext_of_below hb1; clear hb1))
                  | (go_at_call 19; ((with_reducible refine (H10.out _ (HT.out _ (by (repeat' (first | (with_reducible exact Below.refl _ _) | (with_reducible assumption) | (with_reducible refine Below.alloc ?_ ?_ _) | (with_reducible refine below_drewN ?_ _) | (with_reducible refine below_drew ?_) | (with_reducible refine below_ext ?_ ?_ _ _) | (with_reducible refine Below.setCell ?_ ?_ _) | (simp; done) | (simp; omega) | omega))))).mono ?_); rintro e w1 ⟨rfl, hb1⟩; obtain ⟨osO, dO, rfl⟩ := ext_of_below hb1; clear hb1)))
                go_ret
                exact ⟨rfl, by (repeat' (first | (with_reducible exact Below.refl _ _) | (with_reducible assumption) | (with_reducible refine Below.alloc ?_ ?_ _) | (with_reducible refine below_drewN ?_ _) | (with_reducible refine below_drew ?_) | (with_reducible refine below_ext ?_ ?_ _ _) | (with_reducible refine Below.setCell ?_ ?_ _) | (simp; done) | (simp; omega) | omega))⟩
            · have H7 := Lib.hid h7; have H8 := Lib.hid h8; have H10 := Lib.hid h10
              clear h7 h8 h9 h10 HW
              rcases hnb with nz | ⟨nz, nz'⟩
              all_goals
                rcases hnc with mz | ⟨mz, mz'⟩
                all_goals
                  go_wp2_with (first
                    | (go_at_call 14; ((with_reducible refine (H7.out _ (HT.out _ (by (repeat' (first | (with_reducible exact Below.refl _ _) | (with_reducible assumption) | (with_reducible refine Below.alloc ?_ ?_ _) | (with_reducible refine below_drewN ?_ _) | (with_reducible refine below_drew ?_) | (with_reducible refine below_ext ?_ ?_ _ _) | (with_reducible refine Below.setCell ?_ ?_ _) | (simp; done) | (simp; omega) | omega))))).mono ?_); rintro e w1 ⟨rfl, hb1⟩; obtain ⟨osL, dL, rfl⟩ := ext_of_below hb1; clear hb1))
                    | (go_at_call 29; ((with_reducible refine (H8.out _ (HT.out _ (by (repeat' (first | (with_reducible exact Below.refl _ _) | (with_reducible assumption) | (with_reducible refine Below.alloc ?_ ?_ _) | (with_reducible refine below_drewN ?_ _) | (with_reducible refine below_drew ?_) | (with_reducible refine below_ext ?_ ?_ _ _) | (with_reducible refine Below.setCell ?_ ?_ _) | (simp; done) | (simp; omega) | omega))))).mono ?_); rintro e w1 ⟨rfl, hb1⟩; obtain ⟨osM, dM, rfl⟩ := ext_of_below hb1; clear hb1))
                    | (go_at_call 29; ((with_reducible refine (H9.out _ (HT.out _ (by (repeat' (first | (with_reducible exact Below.refl _ _) | (with_reducible assumption) | (with_reducible refine Below.alloc ?_ ?_ _) | (with_reducible refine below_drewN ?_ _) | (with_reducible refine below_drew ?_) | (with_reducible refine below_ext ?_ ?_ _ _) | (with_reducible refine Below.setCell ?_ ?_ _) | (simp; done) | (simp; omega) | omega))))).mono ?_); rintro e w1 ⟨rfl, hb1⟩; obtain ⟨osN, dN, rfl⟩ := ext_of_below hb1; clear hb1))
                    | (go_at_call 19; ((with_reducible refine (H10.out _ (HT.out _ (by (repeat' (first | (with_reducible exact Below.refl _ _) | (with_reducible assumption) | (with_reducible refine Below.alloc ?_ ?_ _) | (with_reducible refine below_drewN ?_ _) | (with_reducible refine below_drew ?_) | (with_reducible refine below_ext ?_ ?_ _ _) | (with_reducible refine Below.setCell ?_ ?_ _) | (simp; done) | (simp; omega) | omega))))).mono ?_); rintro e w1 ⟨rfl, hb1⟩; obtain ⟨osO, dO, rfl⟩ := ext_of_below hb1; clear hb1)))
                  go_ret
                  exact ⟨rfl, by (repeat' (first | (with_reducible exact Below.refl _ _) | (with_reducible assumption) | (with_reducible refine Below.alloc ?_ ?_ _) | (with_reducible refine below_drewN ?_ _) | (with_reducible refine below_drew ?_) | (with_reducible refine below_ext ?_ ?_ _ _) | (with_reducible refine Below.setCell ?_ ?_ _) | (simp; done) | (simp; omega) | omega))⟩
      · have H4 := Lib.hid h4; have H5 := Lib.hid h5'; have H6 := Lib.hid h6'
        clear h4 h5' h6'
        go_enter Tryd.func7, Tryd.ntmps7
        go_upto_region 12 with (first
          | (go_at_call 8; ((with_reducible refine (knownD _ (HT.out _ (by (repeat' (first | (with_reducible exact Below.refl _ _) | (with_reducible assumption) | (with_reducible refine Below.alloc ?_ ?_ _) | (with_reducible refine below_drewN ?_ _) | (with_reducible refine below_drew ?_) | (with_reducible refine below_ext ?_ ?_ _ _) | (with_reducible refine Below.setCell ?_ ?_ _) | (simp; done) | (simp; omega) | omega))))).mono ?_); rintro e w1 ⟨rfl, hb1⟩; obtain ⟨osA, dA, rfl⟩ := ext_of_below hb1; clear hb1))
          | (go_at_call 20; ((with_reducible refine (FA.out _).mono ?_); rintro e w1 ⟨rfl, hb1⟩; obtain ⟨osB, dB, rfl⟩ := ext_of_below hb1; clear hb1))
          | (go_at_call 20; ((with_reducible refine (FB.out _).mono ?_); rintro e w1 ⟨rfl, hb1⟩; obtain ⟨osC, dC, rfl⟩ := ext_of_below hb1; clear hb1))
          | (go_at_call 24; ((with_reducible refine (H1.out _ (HT.out _ (by (repeat' (first | (with_reducible exact Below.refl _ _) | (with_reducible assumption) | (with_reducible refine Below.alloc ?_ ?_ _) | (with_reducible refine below_drewN ?_ _) | (with_reducible refine below_drew ?_) | (with_reducible refine below_ext ?_ ?_ _ _) | (with_reducible refine Below.setCell ?_ ?_ _) | (simp; done) | (simp; omega) | omega))))).mono ?_); rintro e w1 ⟨rfl, hb1⟩; obtain ⟨osD, dD, rfl⟩ := ext_of_below hb1; clear hb1))
          | (go_at_call 25; ((with_reducible refine (H2.out _ (HT.out _ (by (repeat' (first | (with_reducible exact Below.refl _ _) | (with_reducible assumption) | (with_reducible refine Below.alloc ?_ ?_ _) | (with_reducible refine below_drewN ?_ _) | (with_reducible refine below_drew ?_) | (with_reducible refine below_ext ?_ ?_ _ _) | (with_reducible refine Below.setCell ?_ ?_ _) | (simp; done) | (simp; omega) | omega))))).mono ?_); rintro e w1 ⟨rfl, hb1⟩; obtain ⟨osE, dE, rfl⟩ := ext_of_below hb1; clear hb1))
          | (go_at_call 26; ((with_reducible refine (H3.out _ (HT.out _ (by (repeat' (first | (with_reducible exact Below.refl _ _) | (with_reducible assumption) | (with_reducible refine Below.alloc ?_ ?_ _) | (with_reducible refine below_drewN ?_ _) | (with_reducible refine below_drew ?_) | (with_reducible refine below_ext ?_ ?_ _ _) | (with_reducible refine Below.setCell ?_ ?_ _) | (simp; done) | (simp; omega) | omega))))).mono ?_); rintro e w1 ⟨rfl, hb1⟩; obtain ⟨osF, dF, rfl⟩ := ext_of_below hb1; clear hb1))
          | (go_at_call 27; ((with_reducible refine (H4.out _ (HT.out _ (by (repeat' (first | (with_reducible exact Below.refl _ _) | (with_reducible assumption) | (with_reducible refine Below.alloc ?_ ?_ _) | (with_reducible refine below_drewN ?_ _) | (with_reducible refine below_drew ?_) | (with_reducible refine below_ext ?_ ?_ _ _) | (with_reducible refine Below.setCell ?_ ?_ _) | (simp; done) | (simp; omega) | omega))))).mono ?_); rintro e w1 ⟨rfl, hb1⟩; obtain ⟨osG, dG, rfl⟩ := ext_of_below hb1; clear hb1))
          | (go_at_call 19; ((with_reducible refine (H5.out _ (HT.out _ (by (repeat' (first | (with_reducible exact Below.refl _ _) | (with_reducible assumption) | (with_reducible refine Below.alloc ?_ ?_ _) | (with_reducible refine below_drewN ?_ _) | (with_reducible refine below_drew ?_) | (with_reducible refine below_ext ?_ ?_ _ _) | (with_reducible refine Below.setCell ?_ ?_ _) | (simp; done) | (simp; omega) | omega))))).mono ?_); rintro e w1 ⟨rfl, hb1⟩; obtain ⟨osH, dH, rfl⟩ := ext_of_below hb1; clear hb1))
          | (go_at_call 19; ((with_reducible refine (H6.out _ (HT.out _ (by (repeat' (first | (with_reducible exact Below.refl _ _) | (with_reducible assumption) | (with_reducible refine Below.alloc ?_ ?_ _) | (with_reducible refine below_drewN ?_ _) | (with_reducible refine below_drew ?_) | (with_reducible refine below_ext ?_ ?_ _ _) | (with_reducible refine Below.setCell ?_ ?_ _) | (simp; done) | (simp; omega) | omega))))).mono ?_); rintro e w1 ⟨rfl, hb1⟩; obtain ⟨osI, dI, rfl⟩ := ext_of_below hb1; clear hb1)))
        go_cut [129] (fun sc wx => ∃ (os : Array Obj) (d' : Nat), sc = .bool false ∧ wx = ext (ext (ext ((ext ((ext ((ext ((ext (ext (ext (ext ((w.alloc (.cells #[.bool na, .int .u64 (hi ca : Int), .int .u64 (lo ca : Int), .int .i64 (SA : Int)] 26)).alloc (.cells #[.bool nb, .int .u64 (hi cb : Int), .int .u64 (lo cb : Int), .int .i64 (SB : Int)] 26)) osA dA) osB dB) osC dC) osD dD).alloc (.cells #[.bool g1, .int .u64 (hi q1 : Int), .int .u64 (lo q1 : Int), .int .i64 0] 26)) osE dE).alloc (.cells #[.bool g2, .int .u64 (hi q2 : Int), .int .u64 (lo q2 : Int), .int .i64 0] 26)) osF dF).alloc (.cells #[.bool na, .int .u64 (hi ca : Int), .int .u64 (lo ca : Int), .int .i64 (SA : Int)] 26)) osG dG).alloc (.cells #[.bool false, .int .u64 0, .int .u64 1, .int .i64 0] 26)) osH dH) osI dI) os d')
        case first =>
          go_region_held3 (fun w' => w'.cell? ⟨w.heap.size + 1 + 1 + osA.size + osB.size + osC.size + osD.size, 3, none⟩ = some (.int .i64 0) ∧ w'.cell? ⟨w.heap.size + 1 + 1 + osA.size + osB.size + osC.size + osD.size + 1 + osE.size, 3, none⟩ = some (.int .i64 0) ∧ w'.cell? ⟨w.heap.size + 1 + 1 + osA.size + osB.size + osC.size + osD.size + 1 + osE.size + 1 + osF.size, 0, none⟩ = some (.bool na) ∧ w'.cell? ⟨w.heap.size + 1 + 1 + osA.size + osB.size + osC.size + osD.size + 1 + osE.size + 1 + osF.size, 1, none⟩ = some (.int .u64 (hi ca : Int)) ∧ w'.cell? ⟨w.heap.size + 1 + 1 + osA.size + osB.size + osC.size + osD.size + 1 + osE.size + 1 + osF.size, 2, none⟩ = some (.int .u64 (lo ca : Int)) ∧ w'.cell? ⟨w.heap.size + 1 + 1 + osA.size + osB.size + osC.size + osD.size + 1 + osE.size + 1 + osF.size, 3, none⟩ = some (.int .i64 (SA : Int)) ∧ w'.cell? ⟨w.heap.size, 0, none⟩ = some (.bool na) ∧ w'.cell? ⟨w.heap.size, 1, none⟩ = some (.int .u64 (hi ca : Int)) ∧ w'.cell? ⟨w.heap.size, 2, none⟩ = some (.int .u64 (lo ca : Int)) ∧ w'.cell? ⟨w.heap.size, 3, none⟩ = some (.int .i64 (SA : Int)) ∧ w'.cell? ⟨w.heap.size + 1 + 1 + osA.size + osB.size + osC.size + osD.size + 1 + osE.size + 1 + osF.size + 1 + osG.size, 0, none⟩ = some (.bool false) ∧ w'.cell? ⟨w.heap.size + 1 + 1 + osA.size + osB.size + osC.size + osD.size + 1 + osE.size + 1 + osF.size + 1 + osG.size, 1, none⟩ = some (.int .u64 0) ∧ w'.cell? ⟨w.heap.size + 1 + 1 + osA.size + osB.size + osC.size + osD.size + 1 + osE.size + 1 + osF.size + 1 + osG.size, 2, none⟩ = some (.int .u64 1) ∧ w'.cell? ⟨w.heap.size + 1 + 1 + osA.size + osB.size + osC.size + osD.size + 1 + osE.size + 1 + osF.size + 1 + osG.size, 3, none⟩ = some (.int .i64 0)) (first | (simp [go_sem]; done) | go_keep) (first
            | (go_at_call 28; ((with_reducible refine (dof_0 _).mono ?_); rintro e w1 ⟨rfl, hb1⟩; obtain ⟨osJ, dJ, rfl⟩ := ext_of_below hb1; clear hb1))
            | (go_at_call 28; ((with_reducible refine (dof_1 _).mono ?_); rintro e w1 ⟨rfl, hb1⟩; obtain ⟨osK, dK, rfl⟩ := ext_of_below hb1; clear hb1)))
          all_goals
            go_wp2_with fail
            go_meet
            exact meet_b (by (repeat' (first | (with_reducible exact Below.refl _ _) | (with_reducible assumption) | (with_reducible refine Below.alloc ?_ ?_ _) | (with_reducible refine below_drewN ?_ _) | (with_reducible refine below_drew ?_) | (with_reducible refine below_ext ?_ ?_ _ _) | (with_reducible refine Below.setCell ?_ ?_ _) | (simp; done) | (simp; omega) | omega)))
        case rest =>
          obtain ⟨osR, dR, rfl, rfl⟩ := hcut
          rcases HW.out with ⟨rfl, z1, z2, z3, h7⟩ | ⟨hnb, h9, r3, n3, hcase⟩
          · have H7 := Lib.hid h7
            clear h7 HW
            go_wp2_with (first
              | (go_at_call 14; ((with_reducible refine (H7.out _ (HT.out _ (by (repeat' (first | (with_reducible exact Below.refl _ _) | (with_reducible assumption) | (with_reducible refine Below.alloc ?_ ?_ _) | (with_reducible refine below_drewN ?_ _) | (with_reducible refine below_drew ?_) | (with_reducible refine below_ext ?_ ?_ _ _) | (with_reducible refine Below.setCell ?_ ?_ _) | (simp; done) | (simp; omega) | omega))))).mono ?_); rintro e w1 ⟨rfl, hb1⟩; obtain ⟨osL, dL, rfl⟩ := ext_of_below hb1; clear hb1))
              | (go_at_call 29; ((with_reducible refine (H8.out _ (HT.out _ (by (repeat' (first | (with_reducible exact Below.refl _ _) | (with_reducible assumption) | (with_reducible refine Below.alloc ?_ ?_ _) | (with_reducible refine below_drewN ?_ _) | (with_reducible refine below_drew ?_) | (with_reducible refine below_ext ?_ ?_ _ _) | (with_reducible refine Below.setCell ?_ ?_ _) | (simp; done) | (simp; omega) | omega))))).mono ?_); rintro e w1 ⟨rfl, hb1⟩; obtain ⟨osM, dM, rfl⟩ := ext_of_below hb1; clear hb1))
              | (go_at_call 29; ((with_reducible refine (H9.out _ (HT.out _ (by (repeat' (first | (with_reducible exact Below.refl _ _) | (with_reducible assumption) | (with_reducible refine Below.alloc ?_ ?_ _) | (with_reducible refine below_drewN ?_ _) | (with_reducible refine below_drew ?_) | (with_reducible refine below_ext ?_ ?_ _ _) | (with_reducible refine Below.setCell ?_ ?_ _) | (simp; done) | (simp; omega) | omega))))).mono ?_); rintro e w1 ⟨rfl, hb1⟩; obtain ⟨osN, dN, rfl⟩ := ext_of_below hb1; clear hb1))
              | (go_at_call 19; ((with_reducible refine (H10.out _ (HT.out _ (by (repeat' (first | (with_reducible exact Below.refl _ _) | (with_reducible assumption) | (with_reducible refine Below.alloc ?_ ?_ _) | (with_reducible refine below_drewN ?_ _) | (with_reducible refine below_drew ?_) | (with_reducible refine below_ext ?_ ?_ _ _) | (with_reducible refine Below.setCell ?_ ?_ _) | (simp; done) | (simp; omega) | omega))))).mono ?_); rintro e w1 ⟨rfl, hb1⟩; obtain ⟨osO, dO, rfl⟩ := ext_of_below hb1; clear hb1)))
            go_ret
            exact ⟨rfl, by (repeat' (first | (with_reducible exact Below.refl _ _) | (with_reducible assumption) | (with_reducible refine Below.alloc ?_ ?_ _) | (with_reducible refine below_drewN ?_ _) | (with_reducible refine below_drew ?_) | (with_reducible refine below_ext ?_ ?_ _ _) | (with_reducible refine Below.setCell ?_ ?_ _) | (simp; done) | (simp; omega) | omega))⟩
          · have H9 := Lib.hid h9
            rcases hcase with ⟨h7, h8, h10⟩ | ⟨c, s, hnc, h7, h8, h10⟩
            · have H7 := Lib.hid h7; have H8 := Lib.hid h8; have H10 := Lib.hid h10
              clear h7 h8 h9 h10 HW
              rcases hnb with nz | ⟨nz, nz'⟩
              all_goals
                go_wp2_with (first
                  | (go_at_call 14; ((with_reducible refine (H7.out _ (HT.out _ (by (repeat' (first | (with_reducible exact Below.refl _ _) | (with_reducible assumption) | (with_reducible refine Below.alloc ?_ ?_ _) | (with_reducible refine below_drewN ?_ _) | (with_reducible refine below_drew ?_) | (with_reducible refine below_ext ?_ ?_ _ _) | (with_reducible refine Below.setCell ?_ ?_ _) | (simp; done) | (simp; omega) | omega))))).mono ?_); rintro e w1 ⟨rfl, hb1⟩; obtain ⟨osL, dL, rfl⟩ := ext_of_below hb1; clear hb1))
                  | (go_at_call 29; ((with_reducible refine (H8.out _ (HT.out _ (by (repeat' (first | (with_reducible exact Below.refl _ _) | (with_reducible assumption) | (with_reducible refine Below.alloc ?_ ?_ _) | (with_reducible refine below_drewN ?_ _) | (with_reducible refine below_drew ?_) | (with_reducible refine below_ext ?_ ?_ _ _) | (with_reducible refine Below.setCell ?_ ?_ _) | (simp; done) | (simp; omega) | omega))))).mono ?_); rintro e w1 ⟨rfl, hb1⟩; obtain ⟨osM, dM, rfl⟩ := ext_of_below hb1; clear hb1))
                  | (go_at_call 29; ((with_reducible refine (H9.out _ (HT.out _ (by (repeat' (first | (with_reducible exact Below.refl _ _) | (with_reducible assumption) | (with_reducible refine Below.alloc ?_ ?_ _) | (with_reducible refine below_drewN ?_ _) | (with_reducible refine below_drew ?_) | (with_reducible refine below_ext ?_ ?_ _ _) | (with_reducible refine Below.setCell ?_ ?_ _) | (simp; done) | (simp; omega) | omega))))).mono ?_); rintro e w1 ⟨rfl, hb1⟩; obtain ⟨osN, dN, rfl⟩ := ext_of_below hb1; clear hb1))
                  | (go_at_call 19; ((with_reducible refine (H10.out _ (HT.out _ (by (repeat' (first | (with_reducible exact Below.refl _ _) | (with_reducible assumption) | (with_reducible refine Below.alloc ?_ ?_ _) | (with_reducible refine below_drewN ?_ _) | (with_reducible refine below_drew ?_) | (with_reducible refine below_ext ?_ ?_ _ _) | (with_reducible refine Below.setCell ?_ ?_ _) | (simp; done) | (simp; omega) | omega))))).mono ?_); rintro e w1 ⟨rfl, hb1⟩; obtain ⟨osO, dO, rfl⟩ := ext_of_below hb1; clear hb1)))
                go_ret
                exact ⟨rfl, by (repeat' (first | (with_reducible exact Below.refl _ _) | (with_reducible assumption) | (with_reducible refine Below.alloc ?_ ?_ _) | (with_reducible refine below_drewN ?_ _) | (with_reducible refine below_drew ?_) | (with_reducible refine below_ext ?_ ?_ _ _) | (with_reducible refine Below.setCell ?_ ?_ _) | (simp; done) | (simp; omega) | omega))⟩
            · have H7 := Lib.hid h7; have H8 := Lib.hid h8; have H10 := Lib.hid h10
              clear h7 h8 h9 h10 HW
              rcases hnb with nz | ⟨nz, nz'⟩
              all_goals
                rcases hnc with mz | ⟨mz, mz'⟩
                all_goals
                  go_wp2_with (first
                    | (go_at_call 14; ((with_reducible refine (H7.out _ (HT.out _ (by (repeat' (first | (with_reducible exact Below.refl _ _) | (with_reducible assumption) | (with_reducible refine Below.alloc ?_ ?_ _) | (with_reducible refine below_drewN ?_ _) | (with_reducible refine below_drew ?_) | (with_reducible refine below_ext ?_ ?_ _ _) | (with_reducible refine Below.setCell ?_ ?_ _) | (simp; done) | (simp; omega) | omega))))).mono ?_); rintro e w1 ⟨rfl, hb1⟩; obtain ⟨osL, dL, rfl⟩ := ext_of_below hb1; clear hb1))
                    | (go_at_call 29; ((with_reducible refine (H8.out _ (HT.out _ (by (repeat' (first | (with_reducible exact Below.refl _ _) | (with_reducible assumption) | (with_reducible refine Below.alloc ?_ ?_ _) | (with_reducible refine below_drewN ?_ _) | (with_reducible refine below_drew ?_) | (with_reducible refine below_ext ?_ ?_ _ _) | (with_reducible refine Below.setCell ?_ ?_ _) | (simp; done) | (simp; omega) | omega))))).mono ?_); rintro e w1 ⟨rfl, hb1⟩; obtain ⟨osM, dM, rfl⟩ := ext_of_below hb1; clear hb1))
                    | (go_at_call 29; ((with_reducible refine (H9.out _ (HT.out _ (by (repeat' (first | (with_reducible exact Below.refl _ _) | (with_reducible assumption) | (with_reducible refine Below.alloc ?_ ?_ _) | (with_reducible refine below_drewN ?_ _) | (with_reducible refine below_drew ?_) | (with_reducible refine below_ext ?_ ?_ _ _) | (with_reducible refine Below.setCell ?_ ?_ _) | (simp; done) | (simp; omega) | omega))))).mono ?_); rintro e w1 ⟨rfl, hb1⟩; obtain ⟨osN, dN, rfl⟩ := ext_of_below hb1; clear hb1))
                    | (go_at_call 19; ((with_reducible refine (H10.out _ (HT.out _ (by (repeat' (first | (with_reducible exact Below.refl _ _) | (with_reducible assumption) | (with_reducible refine Below.alloc ?_ ?_ _) | (with_reducible refine below_drewN ?_ _) | (with_reducible refine below_drew ?_) | (with_reducible refine below_ext ?_ ?_ _ _) | (with_reducible refine Below.setCell ?_ ?_ _) | (simp; done) | (simp; omega) | omega))))).mono ?_); rintro e w1 ⟨rfl, hb1⟩; obtain ⟨osO, dO, rfl⟩ := ext_of_below hb1; clear hb1)))
                  go_ret
                  exact ⟨rfl, by (repeat' (first | (with_reducible exact Below.refl _ _) | (with_reducible assumption) | (with_reducible refine Below.alloc ?_ ?_ _) | (with_reducible refine below_drewN ?_ _) | (with_reducible refine below_drew ?_) | (with_reducible refine below_ext ?_ ?_ _ _) | (with_reducible refine Below.setCell ?_ ?_ _) | (simp; done) | (simp; omega) | omega))⟩
end Go.Proofs.YtcnkcfbodpkllaaDoor
namespace Go.Proofs.YtcnkcfbodpkllaaDoor
open Go.ChangeShapes Go.WideShapes Go.ChangeAt Go.RowKit Go.Joins

set_option maxRecDepth 100000 in
theorem decParts_lifted (os : Os) (started : os.Started) (H : Type) (enc : TypeId × Value → H) :
    ReturnsInHanded {} Tryd.checked os 7 .any (fun w args => (Rows.decPartsSpec.pre enc Tryd.prog Tryd.f7 [] false w args ∧ laidMetH Tryd.prog tensLaid w) ∧ sizedMet enc Tryd.prog Tryd.f7 (OpenSpec.ofChange Rows.decPartsSpec) false w args)
      (Rows.decPartsSpec.post enc Tryd.prog Tryd.f7 false true false false) := by
  refine returnsInHanded_of_change_and (C := Tryd.checked) (X := fun w _ => laidMetH Tryd.prog tensLaid w) (fun _ _ _ hh h => h.of_heap hh) own started (by kernel_rfl) Tryd.func7
    (ChangeSpec.witness_shaped (enc := enc) (C := Tryd.checked) (os := os) (X := fun w _ => laidMetH Tryd.prog tensLaid w) false (World.doorLaid Tryd.prog 400 os) #[.agg #[.bool false, .int .u64 0, .int .u64 0, .int .i64 0], .agg #[.bool false, .int .u64 0, .int .u64 0, .int .i64 0]] 8 rfl (World.shaped_of_RefB (by kernel_rfl) (by kernel_rfl)) (by kernel_rfl) (by kernel_rfl) (by kernel_rfl) (door_met os _)) ?_
  intro W0 base args ds gs before hval0 hW _ _ hL _
  have hval : ∀ (j : Nat) t v, Tryd.f7.params[j]? = some t → args[j]? = some v → Value.okWide Tryd.prog W0 .any base t v := hval0
  have hW' := hW
  obtain ⟨p, q, hA0, hV, rfl, hfz, hnd⟩ := hW
  have hA : DataW.TrodAll enc Tryd.prog W0 0 (fun _ => true) true Tryd.f7.params.toList args.toList ds p := hA0
  rw [Tryd.params7] at hA hval
  obtain ⟨v0, vs0, d0, ds0, p0, q0, hargs, rfl, rfl, h0, r0⟩ := trodAll_cons hA
  obtain ⟨v1, vs1, d1, ds1, p1, q1, rfl, rfl, rfl, h1, r1⟩ := trodAll_cons r0
  obtain ⟨rfl, rfl, rfl⟩ := trodAll_nil r1
  obtain rfl : args = #[v0, v1] := by cases args; simp_all
  obtain ⟨rfl, rfl⟩ := trodVars_none hV
  obtain ⟨n0, a0, s0, b0, rfl, rfl, rfl, x0, y0, z0⟩ := open_dec (hval 0 26 v0 rfl rfl) h0
  obtain ⟨n1, a1, s1, b1, rfl, rfl, rfl, x1, y1, z1⟩ := open_dec (hval 1 26 v1 rfl rfl) h1
  clear hA0 hval0
  simp only [List.append_nil] at hW'
  refine (decParts_law n0 a0 s0 n1 a1 s1 b0 z0 b1 z1 W0 (tens_of_laid hL)).mono fun e W' ⟨he, hbel⟩ => ?_
  subst he
  exact ⟨_, rfl, post_below (pa := []) (pv := []) hW' (fun _ _ _ => trodAll_mk1 (shut_bool Tryd.underlying4 _)) (fun sp _ => (trodAll_cons_mk (shut_dec n0 a0 s0 x0 y0 z0) (trodAll_cons_mk (shut_dec n1 a1 s1 x1 y1 z1) trodAll_mk0))) (fun _ _ => rfl) rfl hbel (ok_one (by kernel_rfl) rfl (okWide_bool_mk Tryd.underlying4 _))⟩

theorem decParts_holds : Rows.DecPartsSaid :=
  OpenClaim.holds_of_wide 7 Tryd.f7 rfl rfl rfl rfl rfl rfl rfl ⟨rfl, rfl, rfl, rfl, rfl⟩ rfl rfl rfl rfl rfl (by kernel_rfl) Tryd.func7 (by kernel_rfl)
    (of_decide_eq_true (by kernel_rfl)) (by unfold Func.isWrapper; first | (rw [if_pos (by decide +kernel)]; kernel_rfl) | (rw [if_neg (by decide +kernel)]; exact ⟨rfl, rfl⟩))
    (fun os started H enc _ => decParts_lifted os started H enc)

theorem decParts_card : Rows.DecPartsCardSaid :=
  Claim7.holds_tied_plain_at .later [] [.data] true _ false
    decParts_holds (fun _ h => by cases h) (by kernel_rfl) (fun _ h => by cases h) decParts_row_tie rfl ⟨rfl, rfl⟩ (by kernel_rfl) rfl
    (fun f fn hf hfn => by
      obtain rfl : f = 7 := Option.some.inj ((show Tryd.prog.funcNamed "tariff/tarifflaw02.DecParts" = some 7 by kernel_rfl).symm.trans hf) |>.symm
      obtain rfl : fn = Tryd.f7 := (Option.some.inj (Tryd.func7.symm.trans hfn)).symm
      exact ⟨by kernel_rfl, fun j t ht => by
        rw [Tryd.params7] at ht
        have hm : t ∈ [26] := by simpa using Array.mem_of_getElem? ht
        have hall : ([26].all fun u => !Tryd.prog.wantsStandIn u) = true := by kernel_rfl
        exact (show Tryd.prog.wantsStandIn t = false by simpa using List.all_eq_true.1 hall t hm)⟩)
    (by kernel_rfl)
end Go.Proofs.YtcnkcfbodpkllaaDoor
