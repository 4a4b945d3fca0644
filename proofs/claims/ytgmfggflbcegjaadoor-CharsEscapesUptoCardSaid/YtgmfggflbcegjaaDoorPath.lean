/-
  Texts cut in two by characters, in plain words: steps from character to character.
-/
import Derived.Test.YtgmfggflbcegjaaDoorUtf
import Derived.Lib.Strings
namespace Txt
open Go Go.Lib
/-- so many characters stand between two places -/
inductive Path (s : ByteArray) : Nat → Nat → Nat → Prop
  | zero (p : Nat) : Path s p 0 p
  | step {p n q : Nat} (hp : p < s.size) (hg : good s p = true) (h : Path s (p + (Utf8.decode s p).2) n q) : Path s p (n + 1) q
theorem Path.le {s : ByteArray} {p n q : Nat} (h : Path s p n q) : p ≤ q := by
  induction h with
  | zero p => exact Nat.le_refl p
  | step hp hg h ih => omega
theorem Path.len {s : ByteArray} {p n q : Nat} (h : Path s p n q) : n ≤ q - p := by
  induction h with
  | zero p => omega
  | @step p n q hp hg h ih => have := width_pos s p; have := h.le; omega
theorem Path.append {s : ByteArray} {p n q m r : Nat} (h : Path s p n q) (g : Path s q m r) : Path s p (n + m) r := by
  induction h with
  | zero p => rw [Nat.zero_add]; exact g
  | @step p n q hp hg h ih => rw [Nat.add_right_comm]; exact .step hp hg (ih g)
theorem Path.fn {s : ByteArray} {p n q : Nat} (h : Path s p n q) : ∀ r, Path s p n r → q = r := by
  induction h with
  | zero p => intro r g; cases g; rfl
  | @step p n q hp hg h ih => intro r g; cases g with
    | step hp2 hg2 g2 => exact ih r g2
theorem path_of_text (s : ByteArray) : ∀ (f pos : Nat), s.size ≤ pos + f → pos ≤ s.size → textFrom s f pos = true → ∃ n, Path s pos n s.size ∧ runeCountFrom s f pos = n
  | 0, pos, hf, hp, _ => by
    obtain rfl : pos = s.size := by omega
    exact ⟨0, .zero _, rfl⟩
  | f + 1, pos, hf, hp, h => by
    by_cases hlt : pos < s.size
    · rw [textFrom_step s f pos hlt, Bool.and_eq_true] at h
      have hw := width_pos s pos
      have hi := width_in s pos hlt
      obtain ⟨n, h1, h2⟩ := path_of_text s f _ (by omega) hi h.2
      refine ⟨n + 1, .step hlt h.1 h1, ?_⟩
      simp only [runeCountFrom, if_pos hlt, h2]
      omega
    · obtain rfl : pos = s.size := by omega
      exact ⟨0, .zero _, runeCountFrom_end s _ _ hlt⟩
theorem Path.text {s : ByteArray} {p n q : Nat} (h : Path s p n q) : q = s.size → ∀ f, s.size ≤ p + f → textFrom s f p = true ∧ runeCountFrom s f p = n := by
  induction h with
  | zero p =>
    intro e f hf
    exact ⟨textFrom_end s f p (by omega), runeCountFrom_end s f p (by omega)⟩
  | @step p n q hp hg h ih =>
    intro e f hf
    have hw := width_pos s p
    cases f with
    | zero => omega
    | succ f =>
      obtain ⟨h1, h2⟩ := ih e f (by omega)
      refine ⟨by rw [textFrom_step s f p hp, hg, h1]; rfl, ?_⟩
      simp only [runeCountFrom, if_pos hp, h2]
      omega
theorem Path.split {s : ByteArray} {p N q : Nat} (h : Path s p N q) : ∀ n, n ≤ N → ∃ r, Path s p n r ∧ Path s r (N - n) q := by
  induction h with
  | zero p => intro n hn; obtain rfl : n = 0 := by omega
              exact ⟨p, .zero p, .zero p⟩
  | @step p N q hp hg h ih =>
    intro n hn
    cases n with
    | zero => exact ⟨p, .zero p, .step hp hg h⟩
    | succ n =>
      obtain ⟨r, h1, h2⟩ := ih n (by omega)
      exact ⟨r, .step hp hg h1, by rw [Nat.add_sub_add_right]; exact h2⟩
/-- the place behind so many characters; the end, if there are no more -/
def placeFrom (s : ByteArray) : Nat → Nat → Nat → Nat
  | 0, _, _ => s.size
  | f + 1, pos, n => if pos < s.size then (if n = 0 then pos else placeFrom s f (pos + (Utf8.decode s pos).2) (n - 1)) else s.size
def place (s : ByteArray) (n : Nat) : Nat := placeFrom s s.size 0 n
theorem placeFrom_end (s : ByteArray) (f pos n : Nat) (h : ¬ pos < s.size) : placeFrom s f pos n = s.size := by
  cases f with
  | zero => rfl
  | succ f => simp [placeFrom, h]
theorem placeFrom_le (s : ByteArray) : ∀ (f pos n : Nat), placeFrom s f pos n ≤ s.size
  | 0, _, _ => Nat.le_refl _
  | f + 1, pos, n => by
    unfold placeFrom
    split
    · split
      · omega
      · exact placeFrom_le s f _ _
    · exact Nat.le_refl _
theorem place_le (s : ByteArray) (n : Nat) : place s n ≤ s.size := placeFrom_le s _ _ _
theorem Path.place {s : ByteArray} {p n q : Nat} (h : Path s p n q) : ∀ f, s.size ≤ p + f → q ≤ s.size → placeFrom s f p n = q := by
  induction h with
  | zero p =>
    intro f hf hq
    cases f with
    | zero => unfold placeFrom; omega
    | succ f =>
      unfold placeFrom
      split
      · rfl
      · omega
  | @step p n q hp hg h ih =>
    intro f hf hq
    have hw := width_pos s p
    cases f with
    | zero => omega
    | succ f =>
      unfold placeFrom
      rw [if_pos hp, if_neg (by omega), Nat.add_sub_cancel]
      exact ih f (by omega) hq
/-- with characters to spare the place is the end -/
theorem placeFrom_big (s : ByteArray) : ∀ (f pos n : Nat), s.size ≤ pos + f → runeCountFrom s f pos ≤ n → placeFrom s f pos n = s.size
  | 0, _, _, _, _ => rfl
  | f + 1, pos, n, hf, h => by
    unfold placeFrom
    split
    next hp =>
      have hw := width_pos s pos
      simp only [runeCountFrom, if_pos hp] at h
      rw [if_neg (by omega)]
      exact placeFrom_big s f _ _ (by omega) (by omega)
    · rfl
theorem ext_data (s : ByteArray) (a b : Nat) : (s.extract a b).data.toList = (s.data.toList.take b).drop a := by
  rw [Lib.extract_data, List.drop_take]
theorem decode_suffix (s : ByteArray) (p k : Nat) : Utf8.decode (s.extract p s.size) k = Utf8.decode s (p + k) := by
  rw [← decodeL_drop, ← decodeL_drop, ext_data, List.take_of_length_le (by simp), List.drop_drop]
theorem size_suffix (s : ByteArray) (p : Nat) : (s.extract p s.size).size = s.size - p := by simp
theorem size_prefix (s : ByteArray) (q : Nat) (h : q ≤ s.size) : (s.extract 0 q).size = q := by simp; omega
theorem decodeN_cut (n m b0 b1 b2 b3 c1 c2 c3 : Nat) (w : Nat × Nat) (h : decodeN n b0 b1 b2 b3 = w) (hok : ¬ (w.1 = 65533 ∧ w.2 = 1)) (hw : w.2 ≤ m)
    (e1 : 1 < m → c1 = b1) (e2 : 2 < m → c2 = b2) (e3 : 3 < m → c3 = b3) : decodeN m b0 c1 c2 c3 = w := by
  subst h
  unfold decodeN at hok hw ⊢
  by_cases h0 : b0 < 128
  · simp only [if_pos h0]
  simp only [if_neg h0] at hok hw ⊢
  by_cases h1 : b0 / 32 = 6 ∧ (1 < n ∧ b1 / 64 = 2)
  · simp only [if_pos h1] at hok hw ⊢
    by_cases g : b0 % 32 * 64 + b1 % 64 ≥ 128
    · simp only [if_pos g] at hw ⊢
      rw [e1 (by omega)]
      rw [if_pos ⟨h1.1, by omega, h1.2.2⟩, if_pos g]
    · simp only [if_neg g] at hok
      exact absurd ⟨trivial, trivial⟩ hok
  simp only [if_neg h1] at hok hw ⊢
  by_cases h2 : b0 / 16 = 14 ∧ (1 < n ∧ b1 / 64 = 2) ∧ (2 < n ∧ b2 / 64 = 2)
  · simp only [if_pos h2] at hok hw ⊢
    have g32 : ¬ b0 / 32 = 6 := by omega
    rw [if_neg (fun h => g32 h.1)]
    by_cases g : b0 % 16 * 4096 + b1 % 64 * 64 + b2 % 64 ≥ 2048 ∧ (b0 % 16 * 4096 + b1 % 64 * 64 + b2 % 64 < 55296 ∨ (57344 ≤ b0 % 16 * 4096 + b1 % 64 * 64 + b2 % 64 ∧ b0 % 16 * 4096 + b1 % 64 * 64 + b2 % 64 ≤ 1114111))
    · simp only [if_pos g] at hw ⊢
      rw [e1 (by omega), e2 (by omega)]
      rw [if_pos ⟨h2.1, ⟨by omega, h2.2.1.2⟩, by omega, h2.2.2.2⟩, if_pos g]
    · simp only [if_neg g] at hok
      exact absurd ⟨trivial, trivial⟩ hok
  simp only [if_neg h2] at hok hw ⊢
  by_cases h3 : b0 / 8 = 30 ∧ (1 < n ∧ b1 / 64 = 2) ∧ (2 < n ∧ b2 / 64 = 2) ∧ (3 < n ∧ b3 / 64 = 2)
  · simp only [if_pos h3] at hok hw ⊢
    have g32 : ¬ b0 / 32 = 6 := by omega
    have g16 : ¬ b0 / 16 = 14 := by omega
    rw [if_neg (fun h => g32 h.1), if_neg (fun h => g16 h.1)]
    by_cases g : b0 % 8 * 262144 + b1 % 64 * 4096 + b2 % 64 * 64 + b3 % 64 ≥ 65536 ∧ (b0 % 8 * 262144 + b1 % 64 * 4096 + b2 % 64 * 64 + b3 % 64 < 55296 ∨ (57344 ≤ b0 % 8 * 262144 + b1 % 64 * 4096 + b2 % 64 * 64 + b3 % 64 ∧ b0 % 8 * 262144 + b1 % 64 * 4096 + b2 % 64 * 64 + b3 % 64 ≤ 1114111))
    · simp only [if_pos g] at hw ⊢
      rw [e1 (by omega), e2 (by omega), e3 (by omega)]
      rw [if_pos ⟨h3.1, ⟨by omega, h3.2.1.2⟩, ⟨by omega, h3.2.2.1.2⟩, by omega, h3.2.2.2.2⟩, if_pos g]
    · simp only [if_neg g] at hok
      exact absurd ⟨trivial, trivial⟩ hok
  · simp only [if_neg h3] at hok
    exact absurd ⟨trivial, trivial⟩ hok
theorem good_ok {s : ByteArray} {p : Nat} (h : good s p = true) : ¬ ((Utf8.decode s p).1 = 65533 ∧ (Utf8.decode s p).2 = 1) := by
  unfold good at h
  rw [Bool.and_eq_true, Bool.not_eq_true', decide_eq_false_iff_not] at h
  exact h.1
theorem get_prefix (s : ByteArray) (q i : Nat) (hq : q ≤ s.size) (hi : i < q) : (s.extract 0 q).get! i = s.get! i := by
  rw [get_of (s.extract 0 q) i (by rw [size_prefix s q hq]; exact hi), get_of s i (by omega), ByteArray.getElem_extract]
  simp
theorem decode_prefix (s : ByteArray) (q p : Nat) (hq : q ≤ s.size) (hg : good s p = true) (hw : p + (Utf8.decode s p).2 ≤ q) : Utf8.decode (s.extract 0 q) p = Utf8.decode s p := by
  have h1 := width_pos s p
  have hp : p < q := by omega
  rw [decode_at (s.extract 0 q) p, size_prefix s q hq, get_prefix s q p hq hp]
  refine decodeN_cut (s.size - p) (q - p) _ (s.get! (p + 1)).toNat (s.get! (p + 2)).toNat (s.get! (p + 3)).toNat _ _ _ _ (decode_at s p).symm (good_ok hg) (by omega) ?_ ?_ ?_
  · intro h; rw [get_prefix s q (p + 1) hq (by omega)]
  · intro h; rw [get_prefix s q (p + 2) hq (by omega)]
  · intro h; rw [get_prefix s q (p + 3) hq (by omega)]
theorem Path.pre {s : ByteArray} {p n q : Nat} (h : Path s p n q) : q ≤ s.size → Path (s.extract 0 q) p n q := by
  induction h with
  | zero p => intro _; exact .zero p
  | @step p n q hp hg h ih =>
    intro hq
    have hle := h.le
    have hw := width_pos s p
    have e := decode_prefix s q p hq hg hle
    refine .step (by rw [size_prefix s q hq]; omega) ?_ ?_
    · unfold good at hg ⊢; rw [e]; exact hg
    · rw [e]; exact ih hq
theorem Path.suf {s : ByteArray} {p n q : Nat} (h : Path s p n q) : ∀ b k, p = b + k → q = s.size → Path (s.extract b s.size) k n (s.size - b) := by
  induction h with
  | zero p =>
    intro b k e hq
    have : k = s.size - b := by omega
    rw [this]
    exact .zero _
  | @step p n q hp hg h ih =>
    intro b k e hq
    have hd := decode_suffix s b k
    rw [← e] at hd
    refine .step (by rw [size_suffix]; omega) ?_ ?_
    · unfold good at hg ⊢; rw [hd]; exact hg
    · rw [hd]; exact ih b (k + (Utf8.decode s p).2) (by omega) hq
/-- steps within what is left are steps of the whole -/
theorem Path.mid {s : ByteArray} {p n q : Nat} (h : Path s p n q) : ∀ b k, p = b + k → q ≤ s.size → Path (s.extract b s.size) k n (q - b) := by
  induction h with
  | zero p =>
    intro b k e hq
    have : k = p - b := by omega
    rw [this]
    exact .zero _
  | @step p n q hp hg h ih =>
    intro b k e hq
    have hd := decode_suffix s b k
    rw [← e] at hd
    refine .step (by rw [size_suffix]; omega) ?_ ?_
    · unfold good at hg ⊢; rw [hd]; exact hg
    · rw [hd]; exact ih b (k + (Utf8.decode s p).2) (by omega) hq
/-- a text cut in two by characters -/
theorem cut_text (s : ByteArray) (n : Nat) (ht : isText s = true) (hn : n ≤ runeCount s) :
    isText (s.extract 0 (place s n)) = true ∧ runeCount (s.extract 0 (place s n)) = n ∧ isText (s.extract (place s n) s.size) = true ∧ runeCount (s.extract (place s n) s.size) = runeCount s - n := by
  obtain ⟨N, hN, hc⟩ := path_of_text s s.size 0 (by omega) (by omega) ht
  have hN' : runeCount s = N := hc
  rw [hN'] at hn ⊢
  obtain ⟨r, h1, h2⟩ := hN.split n hn
  have hr : r ≤ s.size := h2.le
  have hp : place s n = r := h1.place s.size (by omega) hr
  rw [hp]
  obtain ⟨a1, a2⟩ := (h1.pre hr).text (by rw [size_prefix s r hr]) (s.extract 0 r).size (by omega)
  obtain ⟨b1, b2⟩ := (h2.suf r 0 rfl rfl).text (by rw [size_suffix]) (s.extract r s.size).size (by omega)
  exact ⟨a1, a2, b1, b2⟩
theorem count_le (s : ByteArray) : runeCount s ≤ s.size := runeCount_le s
theorem place_all (t : ByteArray) (n : Nat) (h : runeCount t ≤ n) : place t n = t.size := placeFrom_big t t.size 0 n (by omega) h
theorem place_zero (s : ByteArray) : place s 0 = 0 := by
  unfold place
  cases h : s.size with
  | zero => simp [placeFrom, h]
  | succ k => simp [placeFrom, h]
theorem count_zero (s : ByteArray) (h : runeCount s = 0) : s.size = 0 := by
  rcases Nat.eq_zero_or_pos s.size with h0 | h0
  · exact h0
  · unfold runeCount at h
    cases hs : s.size with
    | zero => omega
    | succ k => rw [hs] at h; simp only [runeCountFrom] at h; rw [if_pos (by omega)] at h; omega
theorem put_together (s : ByteArray) (p : Nat) : s.extract 0 p ++ s.extract p s.size = s := by
  apply ByteArray.ext
  apply Array.ext'
  have e : (s.extract 0 p ++ s.extract p s.size).data.toList = (s.extract 0 p).data.toList ++ (s.extract p s.size).data.toList := by rw [ByteArray.data_append, Array.toList_append]
  have h2 : s.data.toList.take s.size = s.data.toList := List.take_of_length_le (by simp)
  rw [e, ext_data, ext_data, List.drop_zero, h2, List.take_append_drop]
end Txt
