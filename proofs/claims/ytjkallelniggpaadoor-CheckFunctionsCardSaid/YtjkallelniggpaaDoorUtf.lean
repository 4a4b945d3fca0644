/-
  Texts in plain words: which characters stand in them, decoded from a place on.
-/
import Derived.Lib.ValidLaws
import Derived.Lib.FieldsU
import Derived.Lib.QuoteLoop
import Derived.Lib.RuneCount
namespace Txt
open Go Go.Lib
/-- a character of a text -/
def okI (r : Int) : Bool := decide (r = 9 ∨ r = 10 ∨ r = 13 ∨ (32 ≤ r ∧ r ≤ 55295) ∨ (57344 ≤ r ∧ r ≤ 65533) ∨ (65536 ≤ r ∧ r ≤ 1114111))
/-- a character of a text begins at a place -/
def good (s : ByteArray) (i : Nat) : Bool := !decide ((Utf8.decode s i).1 = 65533 ∧ (Utf8.decode s i).2 = 1) && okI ((Utf8.decode s i).1 : Int)
def textFrom (s : ByteArray) : Nat → Nat → Bool
  | 0, _ => true
  | f + 1, pos => if pos < s.size then good s pos && textFrom s f (pos + (Utf8.decode s pos).2) else true
def isText (s : ByteArray) : Bool := textFrom s s.size 0
theorem textFrom_end (s : ByteArray) (f pos : Nat) (h : ¬ pos < s.size) : textFrom s f pos = true := by
  cases f with
  | zero => rfl
  | succ f => simp [textFrom, h]
theorem textFrom_step (s : ByteArray) (f pos : Nat) (h : pos < s.size) : textFrom s (f + 1) pos = (good s pos && textFrom s f (pos + (Utf8.decode s pos).2)) := by simp [textFrom, h]
theorem width_pos (s : ByteArray) (pos : Nat) : 1 ≤ (Utf8.decode s pos).2 := Lib.width_pos s pos
theorem width_in (s : ByteArray) (pos : Nat) (h : pos < s.size) : pos + (Utf8.decode s pos).2 ≤ s.size := by
  have : (Utf8.decode s pos).2 ≤ s.size - pos := by rw [decode_at]; exact decodeN_width_le _ _ _ _ _ (by omega)
  omega
/-- enough fuel is enough -/
theorem textFrom_fuel (s : ByteArray) : ∀ (f g pos : Nat), s.size ≤ pos + f → s.size ≤ pos + g → textFrom s f pos = textFrom s g pos
  | 0, g, pos, hf, _ => by rw [textFrom_end s 0 pos (by omega), textFrom_end s g pos (by omega)]
  | f + 1, 0, pos, _, hg => by rw [textFrom_end s _ pos (by omega), textFrom_end s 0 pos (by omega)]
  | f + 1, g + 1, pos, hf, hg => by
    by_cases h : pos < s.size
    · have := width_pos s pos
      rw [textFrom_step s f pos h, textFrom_step s g pos h, textFrom_fuel s f g _ (by omega) (by omega)]
    · rw [textFrom_end s _ pos h, textFrom_end s _ pos h]
theorem valid_of_text (s : ByteArray) : ∀ (f pos : Nat), s.size ≤ pos + f → textFrom s f pos = true → validD (s.data.toList.drop pos) = true
  | 0, pos, hf, _ => by
    rw [List.drop_eq_nil_of_le (by simpa using hf)]
    rfl
  | f + 1, pos, hf, h => by
    by_cases hp : pos < s.size
    · rw [textFrom_step s f pos hp, Bool.and_eq_true] at h
      have hw := width_pos s pos
      have ih := valid_of_text s f _ (by omega) h.2
      have hne : s.data.toList.drop pos ≠ [] := by simp; omega
      rw [validD_step _ hne, decodeL_drop, List.drop_drop]
      have hg := h.1
      unfold good at hg
      rw [Bool.and_eq_true, Bool.not_eq_true', decide_eq_false_iff_not] at hg
      rw [if_neg hg.1]
      exact ih
    · rw [List.drop_eq_nil_of_le (by simp; omega)]
      rfl
theorem not_text_of_invalid (s : ByteArray) (h : validD s.data.toList = false) : isText s = false := by
  cases ht : isText s with
  | false => rfl
  | true =>
    have := valid_of_text s s.size 0 (by omega) ht
    rw [List.drop_zero] at this
    rw [this] at h
    cases h
/-- of a valid string what is left is valid, and no character is a broken one -/
theorem valid_at (s : ByteArray) (pos : Nat) (hp : pos < s.size) (h : validD (s.data.toList.drop pos) = true) :
    ¬ ((Utf8.decode s pos).1 = 65533 ∧ (Utf8.decode s pos).2 = 1) ∧ validD (s.data.toList.drop (pos + (Utf8.decode s pos).2)) = true := by
  have hne : s.data.toList.drop pos ≠ [] := by simp; omega
  rw [validD_step _ hne, decodeL_drop, List.drop_drop] at h
  by_cases hb : (Utf8.decode s pos).1 = 65533 ∧ (Utf8.decode s pos).2 = 1
  · rw [if_pos hb] at h; cases h
  · rw [if_neg hb] at h; exact ⟨hb, h⟩
theorem good_of_valid (s : ByteArray) (pos : Nat) (h : ¬ ((Utf8.decode s pos).1 = 65533 ∧ (Utf8.decode s pos).2 = 1)) : good s pos = okI ((Utf8.decode s pos).1 : Int) := by
  unfold good
  rw [decide_eq_false h]
  rfl
/-- what the document's decoder answers, by the bytes' numbers -/
def Rel (s : ByteArray) (i : Nat) (c n : Int) (ok : Bool) : Prop :=
  (ok = true ∧ okI c = true ∧ good s i = true ∧ c = ((Utf8.decode s i).1 : Int) ∧ n = ((Utf8.decode s i).2 : Int)) ∨ (good s i = false ∧ (ok = false ∨ okI c = false))
theorem okI_big {c : Int} (h : 1114111 < c) : okI c = false := by unfold okI; exact decide_eq_false (by omega)
theorem okI_sur {c : Int} (h : 55296 ≤ c) (h' : c < 57344) : okI c = false := by unfold okI; exact decide_eq_false (by omega)
/-- the decoder's answer c, n, ok and the model's own agree -/
theorem rel_of (s : ByteArray) (i : Nat) (c n : Int) (ok : Bool) (D : Nat × Nat) (hD : Utf8.decode s i = D) (h : (ok = true ∧ c = (D.1 : Int) ∧ n = (D.2 : Int) ∧ ¬ (D.1 = 65533 ∧ D.2 = 1)) ∨ (D = (65533, 1) ∧ (ok = false ∨ 1114111 < c ∨ (55296 ≤ c ∧ c < 57344)))) : Rel s i c n ok := by
  unfold Rel good
  rw [hD]
  rcases h with ⟨rfl, rfl, rfl, h⟩ | ⟨rfl, h⟩
  · rw [decide_eq_false h]
    cases hk : okI (D.1 : Int) with
    | true => exact .inl ⟨rfl, rfl, rfl, rfl, rfl⟩
    | false => exact .inr ⟨rfl, .inr rfl⟩
  · refine .inr ⟨rfl, ?_⟩
    rcases h with h | h | h
    · exact .inl h
    · exact .inr (okI_big h)
    · exact .inr (okI_sur h.1 h.2)
theorem get_of (s : ByteArray) (i : Nat) (h : i < s.size) : s.get! i = s[i] := by
  cases s with
  | mk d => exact getElem!_pos d i h
end Txt
