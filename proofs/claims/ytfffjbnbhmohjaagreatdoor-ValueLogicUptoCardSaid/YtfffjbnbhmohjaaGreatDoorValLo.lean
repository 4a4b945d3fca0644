/-
  What order and equality say of two values in form, as data.
-/
import Derived.Test.YtfffjbnbhmohjaaGreatDoorValRF
import Derived.Test.YtfffjbnbhmohjaaGreatDoorValKn
namespace Go.Proofs.YtfffjbnbhmohjaaGreatDoor
open Go.RowKit Word Txt

theorem bl_tri : ∀ x y : List UInt8, (Op.bytesLess x y = true ∧ Op.bytesLess y x = false ∧ x ≠ y) ∨ (Op.bytesLess x y = false ∧ Op.bytesLess y x = true ∧ x ≠ y) ∨ (Op.bytesLess x y = false ∧ Op.bytesLess y x = false ∧ x = y)
  | [], [] => .inr (.inr ⟨rfl, rfl, rfl⟩)
  | [], _ :: _ => .inl ⟨rfl, rfl, by simp⟩
  | _ :: _, [] => .inr (.inl ⟨rfl, rfl, by simp⟩)
  | a :: x, b :: y => by
    have e1 : Op.bytesLess (a :: x) (b :: y) = (decide (a < b) || (a == b && Op.bytesLess x y)) := rfl
    have e2 : Op.bytesLess (b :: y) (a :: x) = (decide (b < a) || (b == a && Op.bytesLess y x)) := rfl
    rw [e1, e2]
    rcases Nat.lt_trichotomy a.toNat b.toNat with h | h | h
    · have h1 : a < b := UInt8.lt_iff_toNat_lt.2 h
      have h2 : ¬ b < a := fun h3 => by have := UInt8.lt_iff_toNat_lt.1 h3; omega
      have h3 : ¬ a = b := fun e => by rw [e] at h; omega
      have h4 : ¬ b = a := fun e => h3 e.symm
      exact .inl ⟨by simp [h1], by simp [h2, h4], by simp [h3]⟩
    · have h3 : a = b := UInt8.toNat_inj.1 h
      subst h3
      have h2 : ¬ a < a := fun h3 => by have := UInt8.lt_iff_toNat_lt.1 h3; omega
      rcases bl_tri x y with ⟨p, q, r⟩ | ⟨p, q, r⟩ | ⟨p, q, r⟩
      · exact .inl (by simp [h2, p, q, r])
      · exact .inr (.inl (by simp [h2, p, q, r]))
      · exact .inr (.inr (by subst r; simp [h2, p]))
    · have h1 : b < a := UInt8.lt_iff_toNat_lt.2 h
      have h2 : ¬ a < b := fun h3 => by have := UInt8.lt_iff_toNat_lt.1 h3; omega
      have h3 : ¬ a = b := fun e => by rw [e] at h; omega
      exact .inr (.inl (by simp [h1, h2, h3]))
theorem bare_open {k : Int} {yes neg : Bool} {c : Nat} {s : Int} {t : ByteArray} {day : Int} {l : List V} {ns : List ByteArray} (h : (V.mk k yes neg c s t day l ns).form = true) :
    (k ≠ 1 → yes = false) ∧ (k ≠ 2 → neg = false ∧ c = 0 ∧ s = 0) ∧ (k ≠ 3 → t.size = 0) ∧ (k ≠ 4 → day = 0) ∧ (k < 5 → l = []) ∧ (k ≠ 6 → ns = []) := by
  rw [form_doc] at h
  simp only [Bool.and_eq_true] at h
  have hb := h.2.1
  unfold bareB at hb
  simp only [Bool.and_eq_true, Bool.or_eq_true, beq_iff_eq, decide_eq_true_eq, Bool.not_eq_true'] at hb
  obtain ⟨b1, b2, b3, b4, b5, b6⟩ := hb
  refine ⟨fun h => b1.resolve_left h, fun h => b2.resolve_left h, fun h => b3.resolve_left h, fun h => b4.resolve_left h, fun h => List.length_eq_zero_iff.1 (b5.resolve_left (Int.not_le.2 h)), fun h => List.length_eq_zero_iff.1 (b6.resolve_left h)⟩
theorem text_empty {t : ByteArray} (h : t.size = 0) : t = ⟨#[]⟩ := by
  cases t with
  | mk d =>
    have : d.size = 0 := h
    rw [Array.size_eq_zero_iff.1 this]
/-- order and equality of two values in form -/
theorem logic_facts (v v' : V) (hf : v.form = true) (hf' : v'.form = true) : (v.lt3 v' = (0, false) ∧ v'.lt3 v = (0, false)) ∨ (v.lt3 v' = (1, true) ∧ v'.lt3 v = (1, false) ∧ v.eq3 v' = (1, false)) ∨
    (v.lt3 v' = (1, false) ∧ v'.lt3 v = (1, true) ∧ v.eq3 v' = (1, false)) ∨ (v.lt3 v' = (1, false) ∧ v'.lt3 v = (1, false) ∧ v.eq3 v' = (1, true)) := by
  obtain ⟨k, yes, neg, c, s, t, day, l, ns, rfl⟩ : ∃ k yes neg c s t day l ns, v = V.mk k yes neg c s t day l ns := by cases v; exact ⟨_, _, _, _, _, _, _, _, _, rfl⟩
  obtain ⟨k', yes', neg', c', s', t', day', l', ns', rfl⟩ : ∃ k yes neg c s t day l ns, v' = V.mk k yes neg c s t day l ns := by cases v'; exact ⟨_, _, _, _, _, _, _, _, _, rfl⟩
  have b1 := bare_open hf
  have b2 := bare_open hf'
  rw [lt3_two, lt3_two, eq3_two, eqb_head]
  by_cases hk : k ≠ k'
  · rw [if_pos hk, if_pos fun e => hk e.symm]; exact .inl ⟨rfl, rfl⟩
  obtain rfl : k = k' := Decidable.byContradiction hk
  rw [if_neg hk, if_neg hk]
  clear hk
  by_cases k2 : k = 2
  · subst k2
    obtain ⟨rfl, -, c3, rfl, rfl, rfl⟩ : yes = false ∧ True ∧ t.size = 0 ∧ day = 0 ∧ l = [] ∧ ns = [] := ⟨b1.1 (by omega), trivial, b1.2.2.1 (by omega), b1.2.2.2.1 (by omega), b1.2.2.2.2.1 (by omega), b1.2.2.2.2.2 (by omega)⟩
    obtain ⟨rfl, -, d3, rfl, rfl, rfl⟩ : yes' = false ∧ True ∧ t'.size = 0 ∧ day' = 0 ∧ l' = [] ∧ ns' = [] := ⟨b2.1 (by omega), trivial, b2.2.2.1 (by omega), b2.2.2.2.1 (by omega), b2.2.2.2.2.1 (by omega), b2.2.2.2.2.2 (by omega)⟩
    obtain rfl := text_empty c3
    obtain rfl := text_empty d3
    have fa := form_num hf rfl
    have fb := form_num hf' rfl
    obtain ⟨S, rfl, hS18, hcS, hS3, hS4⟩ := form_open fa
    obtain ⟨S', rfl, hS18', hcS', hS3', hS4'⟩ := form_open fb
    have g1 := fun h => form_signed hS3 hS4 (neg := neg) h
    have g2 := fun h => form_signed hS3' hS4' (neg := neg') h
    have o1 := ordV_sv (na := neg) (nb := neg') (x := Fit.uni c S) (y := Fit.uni c' S') g1 g2
    have o2 := ordV_sv (na := neg') (nb := neg) (x := Fit.uni c' S') (y := Fit.uni c S) g2 g1
    rw [if_pos rfl, if_pos rfl, if_neg (by omega), if_neg (fun h => h rfl), if_neg (by omega), if_neg (by omega)]
    have e1 : ltN neg c (S : Int) neg' c' (S' : Int) = decide (ordV neg (Fit.uni c S) neg' (Fit.uni c' S') < 0) := by unfold ltN; simp
    have e2 : ltN neg' c' (S' : Int) neg c (S : Int) = decide (ordV neg' (Fit.uni c' S') neg (Fit.uni c S) < 0) := by unfold ltN; simp
    rw [e1, e2]
    have hE : headB 2 false neg c (S : Int) ⟨#[]⟩ 0 ([] : List V).length ([] : List ByteArray).length 2 false neg' c' (S' : Int) ⟨#[]⟩ 0 ([] : List V).length ([] : List ByteArray).length = decide (neg = neg' ∧ c = c' ∧ S = S') := by
      unfold headB
      rw [← numE_hl]
      by_cases h1 : neg = neg' <;> by_cases h2 : c = c' <;> by_cases h3 : S = S' <;> simp [h1, h2, h3] <;> omega
    rw [hE]
    have hnil : (decide (([] : List ByteArray) = []) && eqbL [] []) = true := by unfold eqbL; simp
    rw [hnil, Bool.and_true]
    rcases o1 with ⟨p1, p2⟩ | ⟨p1, p2⟩ | ⟨p1, p2⟩
    · rcases o2 with ⟨q1, q2⟩ | ⟨q1, q2⟩ | ⟨q1, q2⟩
      · omega
      · omega
      · rw [p2, q2, show decide (neg = neg' ∧ c = c' ∧ S = S') = false from decide_eq_false (fun h => by obtain ⟨rfl, rfl, rfl⟩ := h; omega)]
        exact .inr (.inl ⟨rfl, rfl, rfl⟩)
    · rcases o2 with ⟨q1, q2⟩ | ⟨q1, q2⟩ | ⟨q1, q2⟩
      · omega
      · rw [p2, q2, decide_eq_true (form_inj hS18 hS18' hS3 hS4 hS3' hS4' p1)]
        exact .inr (.inr (.inr ⟨rfl, rfl, rfl⟩))
      · omega
    · rcases o2 with ⟨q1, q2⟩ | ⟨q1, q2⟩ | ⟨q1, q2⟩
      · rw [p2, q2, show decide (neg = neg' ∧ c = c' ∧ S = S') = false from decide_eq_false (fun h => by obtain ⟨rfl, rfl, rfl⟩ := h; omega)]
        exact .inr (.inr (.inl ⟨rfl, rfl, rfl⟩))
      · omega
      · omega
  rw [if_neg k2, if_neg k2]
  by_cases k3 : k = 3
  · subst k3
    obtain ⟨rfl, ⟨rfl, rfl, rfl⟩, rfl, rfl, rfl⟩ : yes = false ∧ (neg = false ∧ c = 0 ∧ s = 0) ∧ day = 0 ∧ l = [] ∧ ns = [] := ⟨b1.1 (by omega), b1.2.1 (by omega), b1.2.2.2.1 (by omega), b1.2.2.2.2.1 (by omega), b1.2.2.2.2.2 (by omega)⟩
    obtain ⟨rfl, ⟨rfl, rfl, rfl⟩, rfl, rfl, rfl⟩ : yes' = false ∧ (neg' = false ∧ c' = 0 ∧ s' = 0) ∧ day' = 0 ∧ l' = [] ∧ ns' = [] := ⟨b2.1 (by omega), b2.2.1 (by omega), b2.2.2.2.1 (by omega), b2.2.2.2.2.1 (by omega), b2.2.2.2.2.2 (by omega)⟩
    rw [if_pos rfl, if_pos rfl, if_neg (by omega), if_neg (fun h => h rfl), if_neg (by omega), if_neg (by omega)]
    have hE : headB 3 false false 0 0 t 0 ([] : List V).length ([] : List ByteArray).length 3 false false 0 0 t' 0 ([] : List V).length ([] : List ByteArray).length = (t.toList == t'.toList) := by
      unfold headB; simp
    have hnil : (decide (([] : List ByteArray) = []) && eqbL [] []) = true := by unfold eqbL; simp
    rw [hE, hnil, Bool.and_true]
    rcases bl_tri t.toList t'.toList with ⟨p, q, r⟩ | ⟨p, q, r⟩ | ⟨p, q, r⟩
    · rw [p, q, beq_eq_false_iff_ne.2 r]; exact .inr (.inl ⟨rfl, rfl, rfl⟩)
    · rw [p, q, beq_eq_false_iff_ne.2 r]; exact .inr (.inr (.inl ⟨rfl, rfl, rfl⟩))
    · rw [p, q, beq_iff_eq.2 r]; exact .inr (.inr (.inr ⟨rfl, rfl, rfl⟩))
  rw [if_neg k3, if_neg k3]
  by_cases k4 : k = 4
  · subst k4
    obtain ⟨rfl, ⟨rfl, rfl, rfl⟩, c3, rfl, rfl⟩ : yes = false ∧ (neg = false ∧ c = 0 ∧ s = 0) ∧ t.size = 0 ∧ l = [] ∧ ns = [] := ⟨b1.1 (by omega), b1.2.1 (by omega), b1.2.2.1 (by omega), b1.2.2.2.2.1 (by omega), b1.2.2.2.2.2 (by omega)⟩
    obtain ⟨rfl, ⟨rfl, rfl, rfl⟩, d3, rfl, rfl⟩ : yes' = false ∧ (neg' = false ∧ c' = 0 ∧ s' = 0) ∧ t'.size = 0 ∧ l' = [] ∧ ns' = [] := ⟨b2.1 (by omega), b2.2.1 (by omega), b2.2.2.1 (by omega), b2.2.2.2.2.1 (by omega), b2.2.2.2.2.2 (by omega)⟩
    obtain rfl := text_empty c3
    obtain rfl := text_empty d3
    rw [if_pos rfl, if_pos rfl, if_neg (by omega), if_neg (fun h => h rfl), if_neg (by omega), if_neg (by omega)]
    have hE : headB 4 false false 0 0 ⟨#[]⟩ day ([] : List V).length ([] : List ByteArray).length 4 false false 0 0 ⟨#[]⟩ day' ([] : List V).length ([] : List ByteArray).length = (day == day') := by
      unfold headB; simp
    have hnil : (decide (([] : List ByteArray) = []) && eqbL [] []) = true := by unfold eqbL; simp
    rw [hE, hnil, Bool.and_true]
    rcases Int.lt_trichotomy day day' with h | h | h
    · rw [decide_eq_true h, decide_eq_false (by omega), beq_eq_false_iff_ne.2 (by omega)]; exact .inr (.inl ⟨rfl, rfl, rfl⟩)
    · subst h; rw [decide_eq_false (by omega), beq_self_eq_true]; exact .inr (.inr (.inr ⟨rfl, rfl, rfl⟩))
    · rw [decide_eq_false (by omega), decide_eq_true h, beq_eq_false_iff_ne.2 (by omega)]; exact .inr (.inr (.inl ⟨rfl, rfl, rfl⟩))
  rw [if_neg k4, if_neg k4]
  exact .inl ⟨rfl, rfl⟩
theorem not3_pr (p : P3) : Pr (not3 p) := by
  unfold not3 notK notY Pr
  by_cases h : p.1 = 1
  · cases p.2 <;> simp [h]
  · simp [h]
theorem tv_code {p : P3} (h : Pr p) : (tvV p).code = 0 := by
  refine code_form ?_ ?_ ?_
  · rw [tv_count]; omega
  · unfold tvV V.depth depthL; omega
  · rcases h with rfl | rfl | rfl
    all_goals
      unfold tvV V.form
      rw [soundB_is, if_neg (by decide), if_neg (by decide), if_neg (by decide), if_neg (by decide)]
      unfold bareB formL
      simp
      try rfl
theorem code2_tv {p q : P3} (h : Pr p) (h2 : Pr q) : code2 (tvV p) (tvV q) = 0 := by unfold code2; rw [tv_code h, if_pos rfl, tv_code h2]
end Go.Proofs.YtfffjbnbhmohjaaGreatDoor
