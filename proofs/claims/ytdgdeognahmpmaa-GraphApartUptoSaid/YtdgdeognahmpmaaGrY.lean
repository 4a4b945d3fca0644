/-
  An order, step by step: each thing is the least that was ready; levels rise along needs. Plain facts.
-/
import Derived.Test.YtdgdeognahmpmaaGrG
namespace Go.Proofs.Ytdgdeognahmpmaa
open Go.RowKit
open Gk (okN okN_iff nxt nxt_some nxt_none ord ord_none ord_some Dn nodup_le)

theorem ord_more {nd : Nat → List Nat} {N : Nat} : ∀ (n : Nat) (D : List Nat), D.length ≤ (ord nd N n D).length
  | 0, D => Nat.le_refl _
  | n + 1, D => by
    cases e : nxt nd N D with
    | none => rw [ord_none e]; exact Nat.le_refl _
    | some t =>
      rw [ord_some e]
      have := ord_more (nd := nd) (N := N) n (D ++ [t])
      rw [List.length_append] at this
      exact Nat.le_trans (Nat.le_add_right _ _) this
theorem ord_end {nd : Nat → List Nat} {N : Nat} : ∀ (n : Nat) (D : List Nat), (ord nd N n D).length ≤ D.length → ord nd N n D = D
  | 0, D, _ => rfl
  | n + 1, D, h => by
    cases e : nxt nd N D with
    | none => exact ord_none e
    | some t =>
      rw [ord_some e] at h
      have := ord_more (nd := nd) (N := N) n (D ++ [t])
      rw [List.length_append] at this
      simp only [List.length_cons, List.length_nil] at this
      omega
theorem ord_take {nd : Nat → List Nat} {N : Nat} : ∀ (n : Nat) (D : List Nat) (p : Nat), D.length ≤ p → ∀ h : p < (ord nd N n D).length, nxt nd N ((ord nd N n D).take p) = some (ord nd N n D)[p] ∧ (ord nd N n D).take D.length = D
  | 0, D, p, hp, h => by
    have h2 : p < D.length := h
    omega
  | n + 1, D, p, hp, h => by
    cases e : nxt nd N D with
    | none =>
      have e2 : ord nd N (n + 1) D = D := ord_none e
      rw [e2] at h
      omega
    | some t =>
      have e2 : ord nd N (n + 1) D = ord nd N n (D ++ [t]) := ord_some e
      simp only [e2] at h ⊢
      have hpre : (ord nd N n (D ++ [t])).take (D.length + 1) = D ++ [t] := by
        have h3 : (D ++ [t]).length = D.length + 1 := by simp
        rcases Nat.lt_or_ge (D.length + 1) (ord nd N n (D ++ [t])).length with h4 | h4
        · have := (ord_take n (D ++ [t]) (D.length + 1) (by omega) h4).2
          rw [h3] at this; exact this
        · have h5 : ord nd N n (D ++ [t]) = D ++ [t] := ord_end n (D ++ [t]) (by omega)
          rw [h5, ← h3, List.take_length]
      have hD : (ord nd N n (D ++ [t])).take D.length = D := by
        have := congrArg (List.take D.length) hpre
        rw [List.take_take, Nat.min_eq_left (by omega)] at this
        rw [this]; simp
      refine ⟨?_, hD⟩
      by_cases hp2 : p = D.length
      · subst hp2
        rw [hD, e]
        have h6 : (ord nd N n (D ++ [t]))[D.length]? = some t := by
          have h7 : ((ord nd N n (D ++ [t])).take (D.length + 1))[D.length]? = some t := by rw [hpre]; simp
          rwa [List.getElem?_take, if_pos (by omega)] at h7
        rw [List.getElem?_eq_getElem h] at h6
        injection h6 with h6
        rw [h6]
      · exact (ord_take n (D ++ [t]) p (by simp; omega) h).1
/-- what stands between where a thing was ready and where it stands is less -/
theorem ord_less {nd : Nat → List Nat} {N n p i : Nat} (hp : p < (ord nd N n []).length) (hi : p < (ord nd N n []).idxOf i) (hx : ∀ x ∈ nd i, x ∈ ord nd N n [] ∧ (ord nd N n []).idxOf x < p) : ¬ i < (ord nd N n [])[p] := by
  intro hlt
  have h := (nxt_some.1 (ord_take n [] p (Nat.zero_le _) hp).1).2.2 i hlt
  have h2 : okN nd ((ord nd N n []).take p) i = true := okN_iff.2 ⟨fun hm => by
      obtain ⟨k, hk, e⟩ := List.getElem_of_mem hm
      rw [List.length_take] at hk
      rw [List.getElem_take] at e
      have h5 := (ord_dn n (Dn.nil nd N)).nodup.idxOf_getElem k (by omega)
      rw [e] at h5
      omega, fun x hxm => by
      obtain ⟨h3, h4⟩ := hx x hxm
      have h5 := List.idxOf_lt_length_of_mem h3
      rw [List.mem_take_iff_getElem]
      exact ⟨(ord nd N n []).idxOf x, by omega, List.getElem_idxOf h5⟩⟩
  rw [h2] at h; cases h
theorem lvR_other {t : Nat} : ∀ (l : List Nat) (f : Nat → Nat) (i : Nat), i ≠ t → lvR t l f i = f i
  | [], _, _, _ => rfl
  | x :: r, f, i, h => by
    show lvR t r (upl t x f) i = f i
    rw [lvR_other r _ i h]
    unfold upl
    rw [if_neg h]
theorem lvR_ge {t : Nat} : ∀ (l : List Nat) (f : Nat → Nat), f t ≤ lvR t l f t
  | [], _ => Nat.le_refl _
  | x :: r, f => by
    refine Nat.le_trans ?_ (lvR_ge r (upl t x f))
    unfold upl
    rw [if_pos rfl]
    exact Nat.le_max_left _ _
theorem lvR_above {t : Nat} : ∀ (l : List Nat) (f : Nat → Nat), t ∉ l → ∀ x ∈ l, f x < lvR t l f t
  | [], _, _, _, h => by cases h
  | y :: r, f, ht, x, h => by
    rw [List.mem_cons, not_or] at ht
    show f x < lvR t r (upl t y f) t
    rcases List.mem_cons.1 h with rfl | h
    · refine Nat.lt_of_lt_of_le ?_ (lvR_ge r (upl t x f))
      unfold upl
      rw [if_pos rfl]
      omega
    · have := lvR_above r (upl t y f) ht.2 x h
      have e : upl t y f x = f x := by
        unfold upl
        rw [if_neg (fun e2 => ht.2 (by rw [← e2]; exact h))]
      rw [e] at this
      exact this
/-- levels rise along needs -/
theorem lvT_rises {nd : Nat → List Nat} : ∀ (R D : List Nat) (f : Nat → Nat), (D ++ R).Nodup → (∀ k (h : k < R.length), ∀ x ∈ nd R[k], x ∈ D ++ R.take k) → (∀ i ∈ D, ∀ x ∈ nd i, x ∈ D ∧ f x < f i) → ∀ i ∈ D ++ R, ∀ x ∈ nd i, lvT nd R f x < lvT nd R f i
  | [], D, f, _, _, h3, i, hi, x, hx => (h3 i (by simpa using hi) x hx).2
  | t :: R, D, f, h1, h2, h3, i, hi, x, hx => by
    have htD : t ∉ D := fun h => by
      rw [List.nodup_append] at h1
      exact h1.2.2 t h t (by simp) rfl
    have ht0 : ∀ x ∈ nd t, x ∈ D := fun x hx => by
      have := h2 0 (by simp) x hx
      simpa using this
    have e : D ++ t :: R = (D ++ [t]) ++ R := by simp
    show lvT nd R (lvR t (nd t) f) x < lvT nd R (lvR t (nd t) f) i
    refine lvT_rises R (D ++ [t]) _ (by rw [← e]; exact h1) (fun k hk x hx => ?_) (fun j hj y hy => ?_) i (by rw [← e]; exact hi) x hx
    · have := h2 (k + 1) (by simp; omega) x (by simpa using hx)
      simpa using this
    · rcases List.mem_append.1 hj with hj | hj
      · obtain ⟨h4, h5⟩ := h3 j hj y hy
        refine ⟨List.mem_append_left _ h4, ?_⟩
        rw [lvR_other _ _ y (fun e2 => htD (by rw [← e2]; exact h4)), lvR_other _ _ j (fun e2 => htD (by rw [← e2]; exact hj))]
        exact h5
      · rw [List.mem_singleton] at hj
        subst hj
        have h4 := ht0 y hy
        refine ⟨List.mem_append_left _ h4, ?_⟩
        rw [lvR_other _ _ y (fun e2 => htD (by rw [← e2]; exact h4))]
        exact lvR_above _ _ (fun h => htD (ht0 _ h)) y hy
theorem ord_rises {nd : Nat → List Nat} {N n : Nat} {f : Nat → Nat} {i x : Nat} (hi : i ∈ ord nd N n []) (hx : x ∈ nd i) : lvT nd (ord nd N n []) f x < lvT nd (ord nd N n []) f i := by
  have hd := ord_dn n (Dn.nil nd N)
  refine lvT_rises (ord nd N n []) [] f (by simpa using hd.nodup) (fun k hk y hy => ?_) (fun i h => by cases h) i (by simpa using hi) x hx
  have h := (nxt_some.1 (ord_take n [] k (Nat.zero_le _) hk).1).1
  simpa using (okN_iff.1 h).2 y hy
end Go.Proofs.Ytdgdeognahmpmaa
