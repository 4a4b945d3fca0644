/-
  Heaps as lists: what sifting up and sifting down keep: no program stands in this text.
-/
import Derived.Test.YtdgdeognahmpmaaRows
namespace Go.Proofs.Ytdgdeognahmpmaa.Hp

/-- the value at a place -/
abbrev at_ (l : List Nat) (i : Nat) : Nat := l.getD i 0
theorem at_of {l : List Nat} {i : Nat} (h : i < l.length) : at_ l i = l[i] := by
  unfold at_; rw [List.getD_eq_getElem?_getD, List.getElem?_eq_getElem h]; rfl
/-- two places exchanged -/
def swp (l : List Nat) (i j : Nat) : List Nat := (l.set i (at_ l j)).set j (at_ l i)
theorem swp_len (l : List Nat) (i j : Nat) : (swp l i j).length = l.length := by unfold swp; simp
theorem swp_at {l : List Nat} {i j : Nat} (hi : i < l.length) (hj : j < l.length) (k : Nat) (hk : k < l.length) : at_ (swp l i j) k = if k = j then at_ l i else if k = i then at_ l j else at_ l k := by
  rw [at_of (by rw [swp_len]; exact hk)]
  unfold swp
  rw [List.getElem_set]
  by_cases h1 : k = j
  · subst h1; simp
  · rw [if_neg (Ne.symm h1), if_neg h1, List.getElem_set]
    by_cases h2 : k = i
    · subst h2; simp
    · rw [if_neg (Ne.symm h2), if_neg h2, at_of hk]
theorem swp_perm {l : List Nat} {i j : Nat} (hi : i < l.length) (hj : j < l.length) : (swp l i j).Perm l := by
  have h := Array.swap_perm (xs := l.toArray) (i := i) (j := j) (by simpa using hi) (by simpa using hj)
  have e : (l.toArray.swap i j (by simpa using hi) (by simpa using hj)).toList = swp l i j := by
    apply List.ext_getElem
    · rw [swp_len]; simp
    · intro k h1 h2
      have hk : k < l.length := by rw [swp_len] at h2; exact h2
      have a := swp_at hi hj k hk
      rw [at_of h2] at a
      rw [a, Array.getElem_toList, Array.getElem_swap]
      by_cases e1 : k = i
      · rw [if_pos e1]
        by_cases e2 : k = j
        · rw [if_pos e2]; subst e1; subst e2; rw [at_of hk]; rfl
        · rw [if_neg e2, if_pos e1, at_of hj]; rfl
      · rw [if_neg e1]
        by_cases e2 : k = j
        · rw [if_pos e2, if_pos e2, at_of hi]; rfl
        · rw [if_neg e2, if_neg e2, if_neg e1, at_of hk]; rfl
  rw [← e]
  have := Array.perm_iff_toList_perm.1 h
  simpa using this
/-- the parent's place -/
abbrev par (j : Nat) : Nat := (j - 1) / 2
/-- a heap on the first n places -/
def Heap (l : List Nat) (n : Nat) : Prop := ∀ k, 0 < k → k < n → at_ l (par k) ≤ at_ l k
/-- a heap but for one place that may be too small for its parent -/
def Up (l : List Nat) (j n : Nat) : Prop := (∀ k, 0 < k → k < n → k ≠ j → at_ l (par k) ≤ at_ l k) ∧ ∀ k, 0 < k → k < n → par k = j → 0 < j → at_ l (par j) ≤ at_ l k
theorem Up.stop {l : List Nat} {j n : Nat} (h : Up l j n) (hs : j = 0 ∨ at_ l (par j) ≤ at_ l j) : Heap l n := by
  intro k h0 hk
  by_cases e : k = j
  · subst e
    rcases hs with h | h
    · omega
    · exact h
  · exact h.1 k h0 hk e
theorem Up.step {l : List Nat} {j n : Nat} (h : Up l j n) (hj : 0 < j) (hjn : j < n) (hn : n ≤ l.length) (hl : at_ l j < at_ l (par j)) : Up (swp l (par j) j) (par j) n := by
  have hp : par j < j := by unfold par; omega
  have hsw : ∀ k, k < n → at_ (swp l (par j) j) k = if k = j then at_ l (par j) else if k = par j then at_ l j else at_ l k := fun k hk => swp_at (by omega) (by omega) k (by omega)
  refine ⟨fun k h0 hk hne => ?_, fun k h0 hk hpk hpj => ?_⟩
  · have hpk : par k < k := by unfold par; omega
    rw [hsw k hk, hsw (par k) (by omega)]
    by_cases e1 : k = j
    · subst e1
      rw [if_pos rfl, if_neg (by omega), if_pos rfl]; omega
    · rw [if_neg e1, if_neg hne]
      by_cases e2 : par k = j
      · rw [if_pos e2]; exact h.2 k h0 hk e2 hj
      · rw [if_neg e2]
        have hk2 := h.1 k h0 hk e1
        by_cases e3 : par k = par j
        · rw [if_pos e3]; rw [e3] at hk2; omega
        · rw [if_neg e3]; exact hk2
  · have hpp : par (par j) < par j := by unfold par at hpj ⊢; omega
    have hgp := h.1 (par j) hpj (by omega) (by omega)
    rw [hsw k hk, hsw (par (par j)) (by omega), if_neg (show ¬ par (par j) = j by omega), if_neg (show ¬ par (par j) = par j by omega)]
    by_cases e1 : k = j
    · rw [if_pos e1]; exact hgp
    · rw [if_neg e1, if_neg (by have : par k < k := by unfold par; omega
                                omega)]
      have hk2 := h.1 k h0 hk e1
      rw [hpk] at hk2; omega
/-- a heap but for one place that may be too great for its children -/
def Down (l : List Nat) (i n : Nat) : Prop := (∀ k, 0 < k → k < n → par k ≠ i → at_ l (par k) ≤ at_ l k) ∧ ∀ k, 0 < k → k < n → par k = i → 0 < i → at_ l (par i) ≤ at_ l k
theorem Down.stop {l : List Nat} {i n : Nat} (h : Down l i n) (hs : ∀ k, 0 < k → k < n → par k = i → at_ l i ≤ at_ l k) : Heap l n := by
  intro k h0 hk
  by_cases e : par k = i
  · rw [e]; exact hs k h0 hk e
  · exact h.1 k h0 hk e
/-- j is the least child -/
theorem Down.step {l : List Nat} {i j n : Nat} (h : Down l i n) (hj : j < n) (h0j : 0 < j) (hpj : par j = i) (hn : n ≤ l.length) (hl : at_ l j < at_ l i) (hm : ∀ k, 0 < k → k < n → par k = i → at_ l j ≤ at_ l k) : Down (swp l i j) j n := by
  have hij : i < j := by rw [← hpj]; unfold par; omega
  have hsw : ∀ k, k < n → at_ (swp l i j) k = if k = j then at_ l i else if k = i then at_ l j else at_ l k := fun k hk => swp_at (by omega) (by omega) k (by omega)
  refine ⟨fun k h0 hk hne => ?_, fun k h0 hk hpk h0j2 => ?_⟩
  · have hpk : par k < k := by unfold par; omega
    rw [hsw k hk, hsw (par k) (by omega), if_neg hne]
    by_cases e1 : k = j
    · subst e1
      rw [if_pos rfl, if_pos hpj]; omega
    · rw [if_neg e1]
      by_cases e2 : par k = i
      · rw [if_pos e2, if_neg (by omega)]
        exact hm k h0 hk e2
      · rw [if_neg e2]
        by_cases e3 : k = i
        · rw [if_pos e3]
          subst e3
          exact h.2 j h0j hj hpj h0
        · rw [if_neg e3]; exact h.1 k h0 hk e2
  · have hpk2 : par k < k := by unfold par; omega
    rw [hsw k hk, hpj, hsw i (by omega), if_neg (by omega), if_pos rfl, if_neg (by omega), if_neg (by omega)]
    have := h.1 k h0 hk (by omega)
    rw [hpk] at this; exact this
theorem Heap.least {l : List Nat} {n : Nat} (h : Heap l n) : ∀ k, k < n → at_ l 0 ≤ at_ l k := by
  intro k
  induction k using Nat.strongRecOn with
  | _ k ih =>
    intro hk
    by_cases h0 : k = 0
    · subst h0; exact Nat.le_refl _
    · have hp : par k < k := by unfold par; omega
      exact Nat.le_trans (ih (par k) hp (by omega)) (h k (by omega) hk)
theorem Heap.mono {l : List Nat} {n m : Nat} (h : Heap l n) (hm : m ≤ n) : Heap l m := fun k h0 hk => h k h0 (by omega)
/-- one more behind: all but it is a heap -/
theorem Heap.push {l : List Nat} (h : Heap l l.length) (x : Nat) : Up (l ++ [x]) l.length (l.length + 1) := by
  have ha : ∀ k, k < l.length → at_ (l ++ [x]) k = at_ l k := fun k hk => by
    rw [at_of (by rw [List.length_append]; omega), at_of hk, List.getElem_append_left hk]
  refine ⟨fun k h0 hk hne => ?_, fun k h0 hk hpk _ => ?_⟩
  · have hp : par k < k := by unfold par; omega
    rw [ha k (by omega), ha (par k) (by omega)]
    exact h k h0 (by omega)
  · exfalso
    have hp : par k < k := by unfold par; omega
    omega
/-- the last one put to the front: below it all is a heap -/
theorem Heap.pop {l : List Nat} {n : Nat} (h : Heap l (n + 1)) (hl : l.length = n + 1) : Down (swp l 0 n) 0 n := by
  have hsw : ∀ k, k < n + 1 → at_ (swp l 0 n) k = if k = n then at_ l 0 else if k = 0 then at_ l n else at_ l k := fun k hk => swp_at (by omega) (by omega) k (by omega)
  refine ⟨fun k h0 hk hne => ?_, fun k _ _ _ h0 => absurd h0 (Nat.lt_irrefl _)⟩
  have hp : par k < k := by unfold par; omega
  rw [hsw k (by omega), hsw (par k) (by omega), if_neg (show ¬ k = n by omega), if_neg (show ¬ k = 0 by omega), if_neg (show ¬ par k = n by omega), if_neg hne]
  exact h k h0 (by omega)
end Go.Proofs.Ytdgdeognahmpmaa.Hp
