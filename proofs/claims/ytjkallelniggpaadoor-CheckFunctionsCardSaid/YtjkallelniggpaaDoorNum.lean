/-
  Plain facts about decimal digits of natural numbers, least digit first: no program stands in this text.
-/
namespace Go.Proofs.YtjkallelniggpaaDoor.Num

def dg : Nat → List Nat
  | 0 => []
  | n + 1 => ((n + 1) % 10) :: dg ((n + 1) / 10)
termination_by n => n
decreasing_by omega

def lv : List Nat → Nat
  | [] => 0
  | d :: l => d + 10 * lv l

theorem dg_zero : dg 0 = [] := by simp [dg]
theorem dg_pos {n : Nat} (h : 0 < n) : dg n = n % 10 :: dg (n / 10) := by
  match n, h with
  | n + 1, _ => rw [dg]
theorem lv_dg (n : Nat) : lv (dg n) = n := by
  induction n using Nat.strongRecOn with
  | _ n ih =>
    rcases Nat.eq_zero_or_pos n with h | h
    · subst h; simp [dg_zero, lv]
    · rw [dg_pos h, lv, ih (n / 10) (by omega)]; omega
theorem dg_lt (n : Nat) : ∀ d ∈ dg n, d < 10 := by
  induction n using Nat.strongRecOn with
  | _ n ih =>
    rcases Nat.eq_zero_or_pos n with h | h
    · subst h; simp [dg_zero]
    · rw [dg_pos h]
      intro d hd
      rcases List.mem_cons.1 hd with rfl | hd
      · omega
      · exact ih (n / 10) (by omega) d hd
theorem div_pow_succ (n j : Nat) : n / 10 ^ (j + 1) = n / 10 ^ j / 10 := by
  rw [Nat.pow_succ, Nat.div_div_eq_div_mul]
theorem div_pow_succ' (n j : Nat) : n / 10 ^ (j + 1) = n / 10 / 10 ^ j := by
  rw [Nat.pow_succ, Nat.mul_comm, Nat.div_div_eq_div_mul]
theorem dg_len_le {n k : Nat} : (dg n).length ≤ k ↔ n < 10 ^ k := by
  induction k generalizing n with
  | zero =>
    rcases Nat.eq_zero_or_pos n with h | h
    · subst h; simp [dg_zero]
    · rw [dg_pos h]; simp; omega
  | succ k ih =>
    rcases Nat.eq_zero_or_pos n with h | h
    · subst h; simp [dg_zero, Nat.pow_pos]
    · rw [dg_pos h, List.length_cons, Nat.add_le_add_iff_right, ih, Nat.pow_succ]; omega
theorem dg_len_lt {n k : Nat} : k < (dg n).length ↔ 10 ^ k ≤ n := by
  rw [← Nat.not_le, dg_len_le, Nat.not_lt]
theorem dg_getElem? (n j : Nat) : (dg n)[j]? = if 10 ^ j ≤ n then some (n / 10 ^ j % 10) else none := by
  induction j generalizing n with
  | zero =>
    rcases Nat.eq_zero_or_pos n with h | h
    · subst h; simp [dg_zero]
    · rw [dg_pos h]; simp; omega
  | succ j ih =>
    rcases Nat.eq_zero_or_pos n with h | h
    · subst h; simp [dg_zero]
    · rw [dg_pos h, List.getElem?_cons_succ, ih, div_pow_succ']
      have e : 10 ^ j ≤ n / 10 ↔ 10 ^ (j + 1) ≤ n := by rw [Nat.pow_succ]; omega
      simp only [e]
theorem dg_drop (n k : Nat) : (dg n).drop k = dg (n / 10 ^ k) := by
  induction k generalizing n with
  | zero => simp
  | succ k ih =>
    rcases Nat.eq_zero_or_pos n with h | h
    · subst h; simp [dg_zero]
    · rw [dg_pos h, List.drop_succ_cons, ih, div_pow_succ']
theorem lv_append (a b : List Nat) : lv (a ++ b) = lv a + 10 ^ a.length * lv b := by
  induction a with
  | nil => simp [lv]
  | cons d l ih =>
    simp only [List.cons_append, lv, ih, List.length_cons, Nat.pow_succ]
    rw [Nat.mul_add, Nat.mul_comm (10 ^ l.length) 10, Nat.mul_assoc]; omega
theorem lv_zeros (k : Nat) : lv (List.replicate k 0) = 0 := by
  induction k with
  | zero => rfl
  | succ k ih => rw [List.replicate_succ, lv, ih]
theorem lv_lt {l : List Nat} (h : ∀ d ∈ l, d < 10) : lv l < 10 ^ l.length := by
  induction l with
  | nil => simp [lv]
  | cons d l ih =>
    have h1 := h d (by simp)
    have h2 := ih fun x hx => h x (by simp [hx])
    rw [lv, List.length_cons, Nat.pow_succ]; omega
/-- the numbers below ten at the places below k -/
def pad (k n : Nat) : List Nat := (List.range k).map fun j => n / 10 ^ j % 10
theorem pad_len (k n : Nat) : (pad k n).length = k := by simp [pad]
theorem pad_zero (n : Nat) : pad 0 n = [] := rfl
theorem pad_succ (k n : Nat) : pad (k + 1) n = pad k n ++ [n / 10 ^ k % 10] := by
  simp [pad, List.range_succ]
theorem pad_lt (k n : Nat) : ∀ d ∈ pad k n, d < 10 := by
  intro d hd
  obtain ⟨j, _, rfl⟩ := List.mem_map.1 hd
  omega
theorem pad_getElem? (k n j : Nat) : (pad k n)[j]? = if j < k then some (n / 10 ^ j % 10) else none := by
  unfold pad
  rw [List.getElem?_map]
  by_cases h : j < k
  · simp [h]
  · rw [if_neg h, List.getElem?_eq_none (by simp; omega)]; rfl
theorem lv_pad (k n : Nat) : lv (pad k n) = n % 10 ^ k := by
  induction k with
  | zero => simp [pad, lv]; omega
  | succ k ih =>
    rw [pad_succ, lv_append, ih, pad_len, lv, lv, Nat.mul_zero, Nat.add_zero, Nat.pow_succ, Nat.mod_mul]
/-- a list of digits whose last one isn't nought is the digits of its number -/
theorem eq_dg {l : List Nat} (h : ∀ d ∈ l, d < 10) (hl : ∀ d, l.getLast? = some d → d ≠ 0) : l = dg (lv l) := by
  induction l with
  | nil => simp [lv, dg_zero]
  | cons d l ih =>
    have h1 := h d (by simp)
    have h2 := ih (fun x hx => h x (by simp [hx]))
    rcases l with _ | ⟨e, l⟩
    · have h3 := hl d rfl
      have hp : 0 < lv [d] := by simp [lv]; omega
      rw [dg_pos hp]
      simp only [lv]
      have e1 : (d + 10 * 0) % 10 = d := by omega
      have e2 : (d + 10 * 0) / 10 = 0 := by omega
      rw [e1, e2, dg_zero]
    · have h3 := h2 (fun x hx => hl x (by simpa using hx))
      have hp : 0 < lv (e :: l) := by
        rcases Nat.eq_zero_or_pos (lv (e :: l)) with h0 | h0
        · rw [h0, dg_zero] at h3; cases h3
        · exact h0
      have hq : 0 < lv (d :: e :: l) := by rw [lv]; omega
      rw [dg_pos hq]
      have e1 : lv (d :: e :: l) % 10 = d := by rw [lv]; omega
      have e2 : lv (d :: e :: l) / 10 = lv (e :: l) := by rw [lv]; omega
      rw [e1, e2, ← h3]
theorem dg_pad {n k : Nat} (h : (dg n).length = k) : dg n = pad k n := by
  apply List.ext_getElem?
  intro j
  rw [dg_getElem?, pad_getElem?]
  have e : 10 ^ j ≤ n ↔ j < k := by rw [← h, dg_len_lt]
  simp only [e]
theorem dg_last_ne {n d : Nat} (h : (dg n).getLast? = some d) : d ≠ 0 := by
  rw [List.getLast?_eq_getElem?, dg_getElem?] at h
  split at h
  · rename_i h1
    have h2 : n < 10 ^ (dg n).length := dg_len_le.1 (Nat.le_refl _)
    have h3 : 0 < (dg n).length := by
      rcases Nat.eq_zero_or_pos (dg n).length with h0 | h0
      · rw [h0] at h1 h2; simp at h1 h2; omega
      · exact h0
    obtain ⟨k, hk⟩ : ∃ k, (dg n).length = k + 1 := ⟨(dg n).length - 1, by omega⟩
    rw [hk] at h1 h2 h
    simp only [Nat.add_sub_cancel] at h1 h
    injection h with h
    have h4 : n / 10 ^ k < 10 := by
      rw [Nat.div_lt_iff_lt_mul (Nat.pow_pos (by decide))]; rw [Nat.pow_succ] at h2; omega
    have h5 : 1 ≤ n / 10 ^ k := (Nat.le_div_iff_mul_le (Nat.pow_pos (by decide))).2 (by omega)
    omega
  · cases h
theorem dg_shift {n : Nat} (h : 0 < n) (k : Nat) : List.replicate k 0 ++ dg n = dg (n * 10 ^ k) := by
  have hl : lv (List.replicate k 0 ++ dg n) = n * 10 ^ k := by
    rw [lv_append, lv_zeros, lv_dg, List.length_replicate, Nat.zero_add, Nat.mul_comm]
  rw [← hl]
  apply eq_dg
  · intro d hd
    rcases List.mem_append.1 hd with hd | hd
    · have := List.eq_of_mem_replicate hd; omega
    · exact dg_lt n d hd
  · intro d hd
    have hne : dg n ≠ [] := by rw [dg_pos h]; simp
    rw [List.getLast?_append] at hd
    cases hg : (dg n).getLast? with
    | none => exact absurd (List.getLast?_eq_none_iff.1 hg) hne
    | some x =>
      rw [hg] at hd
      have : x = d := by simpa using hd
      subst this
      exact dg_last_ne hg
end Go.Proofs.YtjkallelniggpaaDoor.Num
