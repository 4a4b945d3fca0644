/-
  Plain facts about lists of decimal digits: doubling, halving, sums, differences, products. No program stands in this text.
-/
import Derived.Test.YtdgdeognahmpmaaNum
namespace Go.Proofs.Ytdgdeognahmpmaa.Num

/-- every one is a digit -/
def Dig (l : List Nat) : Prop := ∀ d ∈ l, d < 10
theorem Dig.nil : Dig [] := fun _ h => by cases h
theorem Dig.snoc {l : List Nat} {d : Nat} (h : Dig l) (hd : d < 10) : Dig (l ++ [d]) := fun x hx => by
  rcases List.mem_append.1 hx with hx | hx
  · exact h x hx
  · rw [List.mem_singleton.1 hx]; exact hd
theorem Dig.cons {l : List Nat} {d : Nat} (h : Dig l) (hd : d < 10) : Dig (d :: l) := fun x hx => by
  rcases List.mem_cons.1 hx with rfl | hx
  · exact hd
  · exact h x hx
theorem dig_dg (n : Nat) : Dig (dg n) := dg_lt n
theorem Dig.get {l : List Nat} (h : Dig l) {j : Nat} (hj : j < l.length) : l[j] < 10 := h _ (List.getElem_mem hj)
/-- twice and one more or not -/
def twL : Nat → List Nat → List Nat
  | b, [] => if 0 < b then [b] else []
  | b, d :: l => (2 * d + b) % 10 :: twL ((2 * d + b) / 10) l
theorem twL_dg : ∀ (n b : Nat), b ≤ 1 → twL b (dg n) = dg (2 * n + b) := by
  intro n
  induction n using Nat.strongRecOn with
  | _ n ih =>
    intro b hb
    rcases Nat.eq_zero_or_pos n with h | h
    · subst h
      rw [dg_zero, twL]
      rcases (show b = 0 ∨ b = 1 by omega) with rfl | rfl
      · rw [if_neg (by decide)]; exact dg_zero.symm
      · rw [if_pos (by decide), dg_pos (by decide), dg_zero]
    · rw [dg_pos h, twL, ih (n / 10) (by omega) _ (by omega), dg_pos (show 0 < 2 * n + b by omega)]
      congr 1
      · omega
      · congr 1; omega
/-- half, from the top -/
def hfL : List Nat → List Nat × Nat
  | [] => ([], 0)
  | d :: l => ((10 * (hfL l).2 + d) / 2 :: (hfL l).1, (10 * (hfL l).2 + d) % 2)
theorem hfL_len : ∀ l : List Nat, (hfL l).1.length = l.length
  | [] => rfl
  | d :: l => by simp [hfL, hfL_len l]
theorem hfL_left : ∀ l : List Nat, (hfL l).2 ≤ 1
  | [] => by simp [hfL]
  | d :: l => by simp only [hfL]; omega
theorem hfL_dig : ∀ {l : List Nat}, Dig l → Dig (hfL l).1
  | [], _ => Dig.nil
  | d :: l, h => by
    have h1 := h d (by simp)
    have h2 := hfL_left l
    exact Dig.cons (hfL_dig fun x hx => h x (by simp [hx])) (by omega)
theorem hfL_lv : ∀ l : List Nat, 2 * lv (hfL l).1 + (hfL l).2 = lv l
  | [] => rfl
  | d :: l => by
    have := hfL_lv l
    simp only [hfL, lv]
    omega
theorem hfL_dg (n : Nat) : lv (hfL (dg n)).1 = n / 2 ∧ (hfL (dg n)).2 = n % 2 := by
  have h1 := hfL_lv (dg n)
  have h2 := hfL_left (dg n)
  rw [lv_dg] at h1
  omega
theorem hfL_drop (l : List Nat) (i : Nat) (h : i < l.length) : hfL (l.drop i) = ((10 * (hfL (l.drop (i + 1))).2 + l[i]) / 2 :: (hfL (l.drop (i + 1))).1, (10 * (hfL (l.drop (i + 1))).2 + l[i]) % 2) := by
  rw [List.drop_eq_getElem_cons h, hfL]
theorem lv_drop (l : List Nat) (i : Nat) (h : i < l.length) : lv (l.drop i) = l[i] + 10 * lv (l.drop (i + 1)) := by
  rw [List.drop_eq_getElem_cons h, lv]
theorem lv_drop_end (l : List Nat) (i : Nat) (h : l.length ≤ i) : lv (l.drop i) = 0 := by
  rw [List.drop_of_length_le h]; rfl
theorem lv_zeros_tail : ∀ (l : List Nat) (n : Nat), (∀ j (hj : j < l.length), n ≤ j → l[j] = 0) → lv (l.take n) = lv l
  | [], n, _ => by simp
  | d :: l, 0, h => by
    have h0 := h 0 (by simp) (Nat.le_refl _)
    have hr := lv_zeros_tail l 0 (fun j hj _ => by have := h (j + 1) (by simp; omega) (by omega); simpa using this)
    simp at h0 hr
    simp [lv, h0, ← hr]
  | d :: l, n + 1, h => by
    have hr := lv_zeros_tail l n (fun j hj hn => by have := h (j + 1) (by simp; omega) (by omega); simpa using this)
    simp [lv, hr]
theorem cut_eq (l : List Nat) (n : Nat) (hd : Dig l) (hn : n ≤ l.length) (h0 : ∀ j (hj : j < l.length), n ≤ j → l[j] = 0) (h1 : n = 0 ∨ ∃ h : n - 1 < l.length, ¬ l[n - 1] = 0) : l.take n = dg (lv l) := by
  rw [← lv_zeros_tail l n h0]
  refine eq_dg (fun d hx => hd d (List.mem_of_mem_take hx)) ?_
  intro d he
  rcases h1 with rfl | ⟨hlt, hne⟩
  · simp at he
  · by_cases hz : n = 0
    · subst hz; simp at he
    · rw [List.getLast?_eq_getElem?, List.length_take, Nat.min_eq_left hn, List.getElem?_take, if_pos (by omega), List.getElem?_eq_getElem hlt] at he
      cases he
      exact hne
/-- the number of a row of numbers -/
def lvF (f : Nat → Int) : Nat → Int
  | 0 => 0
  | n + 1 => lvF f n + f n * 10 ^ n
def upd (f : Nat → Int) (k : Nat) (v : Int) : Nat → Int := fun j => if j = k then v else f j
theorem lvF_past (f : Nat → Int) (k : Nat) (v : Int) : ∀ n, n ≤ k → lvF (upd f k v) n = lvF f n
  | 0, _ => rfl
  | n + 1, h => by
    rw [lvF, lvF, lvF_past f k v n (by omega), upd, if_neg (by omega)]
theorem lvF_upd (f : Nat → Int) (k : Nat) (v : Int) : ∀ n, k < n → lvF (upd f k v) n = lvF f n + (v - f k) * 10 ^ k
  | 0, h => by omega
  | n + 1, h => by
    rw [lvF, lvF]
    by_cases hk : k = n
    · subst hk
      rw [lvF_past f k v k (Nat.le_refl _), upd, if_pos rfl, Int.sub_mul]; omega
    · rw [lvF_upd f k v n (by omega), upd, if_neg (by omega)]; omega
theorem lvF_congr {f g : Nat → Int} : ∀ n, (∀ j, j < n → f j = g j) → lvF f n = lvF g n
  | 0, _ => rfl
  | n + 1, h => by rw [lvF, lvF, lvF_congr n (fun j hj => h j (by omega)), h n (by omega)]
theorem lvF_list (l : List Nat) : ∀ n, n ≤ l.length → lvF (fun j => (l.getD j 0 : Int)) n = (lv (l.take n) : Int)
  | 0, _ => by simp [lvF, lv]
  | n + 1, h => by
    rw [lvF, lvF_list l n (by omega), List.take_succ_eq_append_getElem (by omega), lv_append, List.length_take, Nat.min_eq_left (by omega)]
    have : l.getD n 0 = l[n]'(by omega) := by rw [List.getD_eq_getElem?_getD, List.getElem?_eq_getElem (by omega)]; rfl
    rw [this]
    simp only [lv]
    push_cast
    rw [Int.mul_comm]
    simp
theorem lvF_lt (f : Nat → Int) : ∀ n, (∀ j, j < n → 0 ≤ f j ∧ f j ≤ 9) → 0 ≤ lvF f n ∧ lvF f n < 10 ^ n
  | 0, _ => by simp [lvF]
  | n + 1, h => by
    have h1 := lvF_lt f n (fun j hj => h j (by omega))
    have h2 := h n (by omega)
    have h3 : (0 : Int) < 10 ^ n := Int.pow_pos (by decide)
    rw [lvF, Int.pow_succ]
    have h4 : f n * 10 ^ n ≤ 9 * 10 ^ n := Int.mul_le_mul_of_nonneg_right h2.2 (by omega)
    have h5 : 0 ≤ f n * 10 ^ n := Int.mul_nonneg h2.1 (by omega)
    omega
/-- what Plus keeps: the digits so far, the carry, and what is left of both -/
def PlusAt (T : Nat) (a b : List Nat) (i c : Nat) (acc : List Nat) : Prop := acc.length = i ∧ Dig acc ∧ c ≤ 1 ∧ lv acc + 10 ^ i * (c + lv (a.drop i) + lv (b.drop i)) = T
theorem plus_start (a b : List Nat) : PlusAt (lv a + lv b) a b 0 0 [] := ⟨rfl, Dig.nil, by decide, by simp [lv]⟩
theorem plus_step {T : Nat} {a b : List Nat} {i c : Nat} {acc : List Nat} (h : PlusAt T a b i c acc) (s : Nat) (hs : ∃ x y, s = c + x + y ∧ x < 10 ∧ y < 10 ∧ lv (a.drop i) = x + 10 * lv (a.drop (i + 1)) ∧ lv (b.drop i) = y + 10 * lv (b.drop (i + 1))) : PlusAt T a b (i + 1) (s / 10) (acc ++ [s % 10]) := by
  obtain ⟨h1, h2, h3, h4⟩ := h
  obtain ⟨x, y, rfl, hx, hy, ha, hb⟩ := hs
  refine ⟨by simp [h1], h2.snoc (by omega), by omega, ?_⟩
  rw [← h4, lv_append, h1, ha, hb, Nat.pow_succ]
  simp only [lv]
  generalize 10 ^ i = p
  generalize lv (a.drop (i + 1)) = u
  generalize lv (b.drop (i + 1)) = v
  have e : p * 10 * ((c + x + y) / 10 + u + v) = p * (10 * ((c + x + y) / 10) + 10 * u + 10 * v) := by rw [Nat.mul_assoc]; congr 1; omega
  rw [e, Nat.mul_zero, Nat.add_zero, Nat.add_assoc, ← Nat.mul_add]
  congr 2
  omega
theorem plus_end {T : Nat} {a b : List Nat} {i : Nat} {acc : List Nat} (h : PlusAt T a b i 0 acc) (ha : a.length ≤ i) (hb : b.length ≤ i) : Dig acc ∧ lv acc = T := by
  obtain ⟨-, h2, -, h4⟩ := h
  rw [lv_drop_end a i ha, lv_drop_end b i hb] at h4
  exact ⟨h2, by omega⟩
theorem lv_drop_none (l : List Nat) (i : Nat) (h : l.length ≤ i) : lv (l.drop i) = 0 + 10 * lv (l.drop (i + 1)) := by
  rw [lv_drop_end l i h, lv_drop_end l (i + 1) (by omega)]
/-- comparing from the top -/
theorem cmp_len {a b : Nat} (h : (dg a).length < (dg b).length) : a < b := by
  have h1 := (dg_len_lt (n := b) (k := (dg a).length)).1 h
  have h2 := (dg_len_le (n := a) (k := (dg a).length)).1 (Nat.le_refl _)
  omega
theorem cmp_top {a b : Nat} {i : Nat} (he : a / 10 ^ (i + 1) = b / 10 ^ (i + 1)) (hlt : a / 10 ^ i % 10 < b / 10 ^ i % 10) : a < b := by
  rw [div_pow_succ, div_pow_succ] at he
  have h : a / 10 ^ i < b / 10 ^ i := by omega
  exact Nat.lt_of_not_le fun hh => absurd (Nat.div_le_div_right (c := 10 ^ i) hh) (by omega)
theorem cmp_down {a b : Nat} {i : Nat} (he : a / 10 ^ (i + 1) = b / 10 ^ (i + 1)) (heq : a / 10 ^ i % 10 = b / 10 ^ i % 10) : a / 10 ^ i = b / 10 ^ i := by
  rw [div_pow_succ, div_pow_succ] at he
  omega
theorem cmp_start {a b : Nat} (h : (dg a).length = (dg b).length) : a / 10 ^ (dg a).length = b / 10 ^ (dg a).length := by
  have h1 := (dg_len_le (n := a) (k := (dg a).length)).1 (Nat.le_refl _)
  have h2 := (dg_len_le (n := b) (k := (dg a).length)).1 (by omega)
  rw [Nat.div_eq_of_lt h1, Nat.div_eq_of_lt h2]
theorem dg_get {n j : Nat} (hj : j < (dg n).length) : (dg n)[j] = n / 10 ^ j % 10 := by
  have h := dg_getElem? n j
  rw [List.getElem?_eq_getElem hj, if_pos (dg_len_lt.1 hj)] at h
  exact Option.some.inj h
/-- a row of numbers from nought to nine as digits -/
def listOf (f : Nat → Int) (n : Nat) : List Nat := (List.range n).map fun j => (f j).toNat
theorem listOf_len (f : Nat → Int) (n : Nat) : (listOf f n).length = n := by simp [listOf]
theorem listOf_get (f : Nat → Int) (n j : Nat) (hj : j < (listOf f n).length) : (listOf f n)[j] = (f j).toNat := by simp [listOf]
theorem listOf_dig {f : Nat → Int} {n : Nat} (h : ∀ j, j < n → 0 ≤ f j ∧ f j ≤ 9) : Dig (listOf f n) := by
  intro d hd
  obtain ⟨j, hj, rfl⟩ := List.mem_map.1 hd
  have := h j (List.mem_range.1 hj)
  omega
theorem listOf_lv {f : Nat → Int} : ∀ {n : Nat}, (∀ j, j < n → 0 ≤ f j) → ((lv (listOf f n) : Nat) : Int) = lvF f n
  | 0, _ => rfl
  | n + 1, h => by
    have ih := listOf_lv (n := n) fun j hj => h j (by omega)
    have e : listOf f (n + 1) = listOf f n ++ [(f n).toNat] := by simp [listOf, List.range_succ]
    have h0 := h n (by omega)
    rw [e, lv_append, listOf_len, lvF, ← ih]
    simp only [lv]
    push_cast
    rw [Int.toNat_of_nonneg h0]
    have : (10 : Int) ^ n * (f n + 0) = f n * 10 ^ n := by rw [Int.add_zero, Int.mul_comm]
    omega
theorem pow_pos_int (n : Nat) : (0 : Int) < 10 ^ n := Int.pow_pos (by decide)
/-- what Less keeps while it takes away -/
def LessA (A : Nat) (b : List Nat) (n i : Nat) (f : Nat → Int) : Prop := lvF f n = (A : Int) - (lv (b.take i) : Int) ∧ (∀ j, j < n → -9 ≤ f j ∧ f j ≤ 9) ∧ ∀ j, i ≤ j → j < n → 0 ≤ f j
theorem lessA_start (a b : List Nat) (ha : Dig a) : LessA (lv a) b a.length 0 (fun j => (a.getD j 0 : Int)) := by
  refine ⟨?_, fun j hj => ?_, fun j _ _ => Int.natCast_nonneg _⟩
  · rw [lvF_list a a.length (Nat.le_refl _), List.take_length]; simp [lv]
  · have e : a.getD j 0 = a[j] := by rw [List.getD_eq_getElem?_getD, List.getElem?_eq_getElem hj]; rfl
    have := ha.get hj
    show -9 ≤ ((a.getD j 0 : Nat) : Int) ∧ ((a.getD j 0 : Nat) : Int) ≤ 9
    rw [e]; omega
theorem lv_take_succ (b : List Nat) (i : Nat) (h : i < b.length) : lv (b.take (i + 1)) = lv (b.take i) + 10 ^ i * b[i] := by
  rw [List.take_succ_eq_append_getElem h, lv_append, List.length_take, Nat.min_eq_left (by omega)]
  simp only [lv, Nat.mul_zero, Nat.add_zero]
theorem lessA_step {A : Nat} {b : List Nat} {n i : Nat} {f : Nat → Int} (h : LessA A b n i f) (hb : Dig b) (hi : i < b.length) (hn : i < n) : LessA A b n (i + 1) (upd f i (f i - (b[i] : Int))) := by
  obtain ⟨h1, h2, h3⟩ := h
  have hd := hb.get hi
  refine ⟨?_, fun j hj => ?_, fun j h4 hj => ?_⟩
  · rw [lvF_upd f i _ n hn, h1, lv_take_succ b i hi]
    push_cast
    have e : (f i - (b[i] : Int) - f i) * 10 ^ i = - (10 ^ i * (b[i] : Int)) := by
      rw [show f i - (b[i] : Int) - f i = - (b[i] : Int) by omega, Int.neg_mul, Int.mul_comm]
    rw [e]; omega
  · unfold upd
    split
    · have := h2 i hn; have := h3 i (Nat.le_refl _) hn; omega
    · exact h2 j hj
  · unfold upd
    rw [if_neg (by omega)]
    exact h3 j (by omega) hj
/-- what Less keeps while it borrows -/
def LessB (T : Int) (n i : Nat) (f : Nat → Int) : Prop := lvF f n = T ∧ (∀ j, j < i → j < n → 0 ≤ f j ∧ f j ≤ 9) ∧ ∀ j, j < n → -10 ≤ f j ∧ f j ≤ 9 ∧ (i < j → -9 ≤ f j)
theorem lessB_start {A : Nat} {b : List Nat} {n : Nat} {f : Nat → Int} (h : LessA A b n b.length f) : LessB ((A : Int) - (lv b : Int)) n 0 f := by
  obtain ⟨h1, h2, -⟩ := h
  rw [List.take_length] at h1
  exact ⟨h1, fun j hj => by omega, fun j hj => by have := h2 j hj; omega⟩
theorem lessB_keep {T : Int} {n i : Nat} {f : Nat → Int} (h : LessB T n i f) (h0 : 0 ≤ f i) : LessB T n (i + 1) f := by
  obtain ⟨h1, h2, h3⟩ := h
  refine ⟨h1, fun j hj hn => ?_, fun j hj => ?_⟩
  · by_cases e : j = i
    · subst e; have := h3 j hn; omega
    · exact h2 j (by omega) hn
  · have := h3 j hj; omega
theorem lessB_step {T : Int} {n i : Nat} {f : Nat → Int} (h : LessB T n i f) (hi : i + 1 < n) (h0 : f i < 0) : LessB T n (i + 1) (upd (upd f i (f i + 10)) (i + 1) (f (i + 1) - 1)) := by
  obtain ⟨h1, h2, h3⟩ := h
  refine ⟨?_, fun j hj hn => ?_, fun j hj => ?_⟩
  · rw [lvF_upd _ (i + 1) _ n hi, lvF_upd f i _ n (by omega), h1]
    have e1 : upd f i (f i + 10) (i + 1) = f (i + 1) := by unfold upd; rw [if_neg (by omega)]
    rw [e1, Int.pow_succ]
    have e2 : (f i + 10 - f i) * (10 : Int) ^ i = 10 * 10 ^ i := by congr 1; omega
    have e3 : (f (i + 1) - 1 - f (i + 1)) * ((10 : Int) ^ i * 10) = - (10 * 10 ^ i) := by
      rw [show f (i + 1) - 1 - f (i + 1) = -1 by omega, Int.neg_one_mul, Int.mul_comm]
    rw [e2, e3]; omega
  · unfold upd
    rw [if_neg (by omega)]
    split
    · have := h3 i (by omega); omega
    · exact h2 j (by omega) hn
  · unfold upd
    split
    · have := h3 (i + 1) hi; omega
    · split
      · have := h3 i (by omega); omega
      · have := h3 j hj; omega
theorem lessB_end {T : Int} {n i : Nat} {f : Nat → Int} (h : LessB T n i f) (hi : n ≤ i + 1) (hT : 0 ≤ T) : ∀ j, j < n → 0 ≤ f j ∧ f j ≤ 9 := by
  obtain ⟨h1, h2, h3⟩ := h
  intro j hj
  by_cases hji : j < i
  · exact h2 j hji hj
  · have hjn : j + 1 = n := by omega
    have hb := h3 j hj
    refine ⟨?_, hb.2.1⟩
    have hlow := lvF_lt f j (fun k hk => h2 k (by omega) (by omega))
    rw [← hjn, lvF] at h1
    have hp := pow_pos_int j
    refine Int.not_lt.1 fun hneg => ?_
    have : f j * 10 ^ j ≤ (-1) * 10 ^ j := Int.mul_le_mul_of_nonneg_right (by omega) (by omega)
    omega
theorem less_list {T : Int} {n i : Nat} {f : Nat → Int} (h : LessB T n i f) (hi : n ≤ i + 1) (hT : 0 ≤ T) : Dig (listOf f n) ∧ ((lv (listOf f n) : Nat) : Int) = T := by
  have h4 := lessB_end h hi hT
  exact ⟨listOf_dig h4, (listOf_lv fun j hj => (h4 j hj).1).trans h.1⟩
/-- what Times keeps while it adds -/
def TimesA (a b : List Nat) (i k : Nat) (f : Nat → Int) : Prop := lvF f (a.length + b.length + 1) = (lv (a.take i) : Int) * (lv b : Int) + ((10 ^ i * a.getD i 0 : Nat) : Int) * (lv (b.take k) : Int) ∧ ∀ j, j < a.length + b.length + 1 → 0 ≤ f j ∧ f j ≤ 81 * (1000 * (i : Int) + k)
theorem timesA_start (a b : List Nat) (f : Nat → Int) (h0 : ∀ j, f j = 0) : TimesA a b 0 0 f := by
  refine ⟨?_, fun j _ => by rw [h0]; decide⟩
  have : ∀ n, lvF f n = 0 := fun n => by induction n with
    | zero => rfl
    | succ n ih => rw [lvF, ih, h0]; simp
  rw [this]; simp [lv]
theorem timesA_step {a b : List Nat} {i k : Nat} {f : Nat → Int} (h : TimesA a b i k f) (ha : Dig a) (hb : Dig b) (hi : i < a.length) (hk : k < b.length) : TimesA a b i (k + 1) (upd f (i + k) (f (i + k) + ((a[i] : Nat) : Int) * ((b[k] : Nat) : Int))) := by
  obtain ⟨h1, h2⟩ := h
  have hda := ha.get hi
  have hdb := hb.get hk
  have hm : (a[i] : Int) * (b[k] : Int) ≤ 9 * 9 := Int.mul_le_mul (by omega) (by omega) (by omega) (by omega)
  have hm0 : 0 ≤ (a[i] : Int) * (b[k] : Int) := Int.mul_nonneg (by omega) (by omega)
  refine ⟨?_, fun j hj => ?_⟩
  · rw [lvF_upd f (i + k) _ _ (by omega), h1, lv_take_succ b k hk]
    have e : a.getD i 0 = a[i] := by rw [List.getD_eq_getElem?_getD, List.getElem?_eq_getElem hi]; rfl
    rw [e]
    generalize a[i] = x
    generalize b[k] = y
    generalize lv (b.take k) = u
    rw [show f (i + k) + (x : Int) * (y : Int) - f (i + k) = (x : Int) * y by omega, Int.pow_add]
    push_cast
    rw [Int.mul_add]
    have : (x : Int) * y * (10 ^ i * 10 ^ k) = 10 ^ i * x * (10 ^ k * y) := by
      simp only [Int.mul_assoc, Int.mul_comm, Int.mul_left_comm]
    rw [this]; omega
  · have := h2 j hj
    have := h2 (i + k) (by omega)
    unfold upd
    split <;> omega
theorem timesA_row {a b : List Nat} {i : Nat} {f : Nat → Int} (h : TimesA a b i b.length f) (hi : i < a.length) (hbl : b.length ≤ 1000) : TimesA a b (i + 1) 0 f := by
  obtain ⟨h1, h2⟩ := h
  refine ⟨?_, fun j hj => by have := h2 j hj; omega⟩
  rw [h1, List.take_length, lv_take_succ a i hi]
  have e : a.getD i 0 = a[i] := by rw [List.getD_eq_getElem?_getD, List.getElem?_eq_getElem hi]; rfl
  rw [e]
  push_cast
  simp [lv, Int.add_mul]
def TimesB (T : Int) (n i : Nat) (f : Nat → Int) : Prop := lvF f n = T ∧ (∀ j, j < i → j < n → 0 ≤ f j ∧ f j ≤ 9) ∧ ∀ j, j < n → 0 ≤ f j ∧ f j ≤ 200000000 ∧ (i < j → f j ≤ 100000000)
theorem timesB_start {a b : List Nat} {i : Nat} {f : Nat → Int} (h : TimesA a b i 0 f) (hi : i = a.length) (ha : a.length ≤ 1000) : TimesB ((lv a : Int) * (lv b : Int)) (a.length + b.length + 1) 0 f := by
  obtain ⟨h1, h2⟩ := h
  subst hi
  refine ⟨?_, fun j hj => by omega, fun j hj => by have := h2 j hj; omega⟩
  rw [h1, List.take_length]; simp [lv]
theorem timesB_step {T : Int} {n i : Nat} {f : Nat → Int} (h : TimesB T n i f) (hi : i + 1 < n) : TimesB T n (i + 1) (upd (upd f (i + 1) (f (i + 1) + f i / 10)) i (f i % 10)) := by
  obtain ⟨h1, h2, h3⟩ := h
  have b0 := h3 i (by omega)
  have b1 := h3 (i + 1) hi
  refine ⟨?_, fun j hj hn => ?_, fun j hj => ?_⟩
  · rw [lvF_upd _ i _ n (by omega), lvF_upd f (i + 1) _ n hi, h1]
    have e1 : upd f (i + 1) (f (i + 1) + f i / 10) i = f i := by unfold upd; rw [if_neg (by omega)]
    rw [e1, Int.pow_succ, show f (i + 1) + f i / 10 - f (i + 1) = f i / 10 by omega]
    have e2 : f i / 10 * (10 ^ i * 10) = (f i / 10 * 10) * 10 ^ i := by simp only [Int.mul_assoc, Int.mul_comm, Int.mul_left_comm]
    have e3 : (f i % 10 - f i) * 10 ^ i = - ((f i / 10 * 10) * 10 ^ i) := by rw [← Int.neg_mul]; congr 1; omega
    rw [e2, e3]; omega
  · unfold upd
    split
    · omega
    · rw [if_neg (by omega)]
      exact h2 j (by omega) hn
  · unfold upd
    split
    · omega
    · split
      · omega
      · have := h3 j hj; omega
theorem times_list {T : Int} {n i : Nat} {f : Nat → Int} (h : TimesB T n i f) (hn : 0 < n) (hi : n ≤ i + 1) (hT : T < 10 ^ (n - 1)) : Dig (listOf f n) ∧ ((lv (listOf f n) : Nat) : Int) = T := by
  obtain ⟨h1, h2, h3⟩ := h
  have h4 : ∀ j, j < n → 0 ≤ f j ∧ f j ≤ 9 := by
    intro j hj
    by_cases hji : j < i
    · exact h2 j hji hj
    · have hjn : j + 1 = n := by omega
      have hb := h3 j hj
      have hlow := lvF_lt f j (fun k hk => h2 k (by omega) (by omega))
      have e : n - 1 = j := by omega
      rw [e] at hT
      rw [← hjn, lvF] at h1
      have hp := pow_pos_int j
      by_cases hz : 1 ≤ f j
      · have : 1 * 10 ^ j ≤ f j * 10 ^ j := Int.mul_le_mul_of_nonneg_right hz (by omega)
        omega
      · omega
  exact ⟨listOf_dig h4, (listOf_lv fun j hj => (h4 j hj).1).trans h1⟩
end Go.Proofs.Ytdgdeognahmpmaa.Num
