/-
  What each label of Unescape's machine stands for, and the steps from label to label.
-/
import Derived.Test.YtgmfggflbcegjaaDoorEscG
import Derived.Test.YtgmfggflbcegjaaDoorQuote
namespace Go.Proofs.YtgmfggflbcegjaaDoor
open Go.RowKit Txt

/-- what is read behind a reference -/
def aft (attr : Bool) (f : Nat) (o : Option (List UInt8 × List UInt8)) (acc : List UInt8) : Option (List UInt8) := match o with
  | none => none
  | some p => une attr f p.2 (acc ++ p.1)
def encP (p : Int × List UInt8) : List UInt8 × List UInt8 := (Lib.encodeRune p.1, p.2)
/-- 0: between references; 1: wrong; 2: behind an &; 3: behind a carriage return; 4: in a number; 5: behind its digits -/
def SE (s : ByteArray) (attr : Bool) (X : Option (List UInt8)) (l k : Nat) (acc : List UInt8) (base code : Int) : Prop :=
  (l = 0 ∧ ∃ f, s.size - k < f ∧ X = une attr f (s.data.toList.drop k) acc) ∨ (l = 1 ∧ X = none) ∨
  (l = 2 ∧ ∃ f, s.size - k < f ∧ X = aft attr f (refr (s.data.toList.drop k)) acc) ∨
  (l = 3 ∧ ∃ f, s.size - k < f ∧ X = une attr f (s.data.toList.drop k) (if (s.data.toList.drop k).head? = some 10 then acc else acc ++ [bl attr 10])) ∨
  (l = 4 ∧ (base = 10 ∨ base = 16) ∧ 0 ≤ code ∧ code ≤ 1114112 ∧ ∃ f, s.size - k < f ∧ X = aft attr f ((num base code (s.data.toList.drop k)).map encP) acc) ∨
  (l = 5 ∧ (∃ h : k < s.size, ¬ dgt (s[k]'h).toNat < base) ∧ 0 ≤ code ∧ code ≤ 1114112 ∧ ∃ f, s.size - k < f ∧ X = aft attr f ((num base code (s.data.toList.drop k)).map encP) acc)
section
variable {s : ByteArray} {attr : Bool} {X : Option (List UInt8)} {f k : Nat} {acc : List UInt8} {base code : Int}
theorem se_wrong (h : X = none) (j : Nat) (a : List UInt8) (b c : Int) : SE s attr X 1 j a b c := .inr (.inl ⟨rfl, h⟩)
theorem se0_end (hf : s.size - s.size < f) (h : X = une attr f (s.data.toList.drop s.size) acc) : X = some acc := by
  obtain ⟨g, rfl⟩ : ∃ g, f = g + 1 := ⟨f - 1, by omega⟩
  rw [h, drop_end]; rfl
theorem se0_less (hf : s.size - k < f) (h : X = une attr f (s.data.toList.drop k) acc) (hk : k < s.size) (hc : s[k] = 60) (j : Nat) (a : List UInt8) (b c : Int) : SE s attr X 1 j a b c := by
  obtain ⟨g, rfl⟩ : ∃ g, f = g + 1 := ⟨f - 1, by omega⟩
  exact se_wrong (by rw [h, drop_at s k hk, hc, une_less]) _ _ _ _
theorem se0_amp (hf : s.size - k < f) (h : X = une attr f (s.data.toList.drop k) acc) (hk : k < s.size) (hc : s[k] = 38) (b c : Int) : SE s attr X 2 (k + 1) acc b c := by
  obtain ⟨g, rfl⟩ : ∃ g, f = g + 1 := ⟨f - 1, by omega⟩
  exact .inr (.inr (.inl ⟨rfl, g, by omega, by rw [h, drop_at s k hk, hc, une_amp]; rfl⟩))
theorem se0_line (hf : s.size - k < f) (h : X = une attr f (s.data.toList.drop k) acc) (hk : k < s.size) (hc : s[k] = 13) (b c : Int) : SE s attr X 3 (k + 1) acc b c := by
  obtain ⟨g, rfl⟩ : ∃ g, f = g + 1 := ⟨f - 1, by omega⟩
  exact .inr (.inr (.inr (.inl ⟨rfl, g, by omega, by rw [h, drop_at s k hk, hc, une_line]⟩)))
theorem se0_take (hf : s.size - k < f) (h : X = une attr f (s.data.toList.drop k) acc) (hk : k < s.size) (h1 : ¬ s[k] = 60) (h2 : ¬ s[k] = 38) (h3 : ¬ s[k] = 13) (b c : Int) : SE s attr X 0 (k + 1) (acc ++ [bl attr s[k]]) b c := by
  obtain ⟨g, rfl⟩ : ∃ g, f = g + 1 := ⟨f - 1, by omega⟩
  exact .inl ⟨rfl, g, by omega, by rw [h, drop_at s k hk, une_other attr g _ _ _ h1 h2 h3]⟩
theorem se3_next (hf : s.size - k < f) (h : X = une attr f (s.data.toList.drop k) (if (s.data.toList.drop k).head? = some 10 then acc else acc ++ [bl attr 10])) (hk : k < s.size) (hc : s[k] = 10) (b c : Int) : SE s attr X 0 k acc b c :=
  .inl ⟨rfl, f, hf, by rw [h, if_pos (by rw [drop_at s k hk, hc]; rfl)]⟩
theorem se3_put (hf : s.size - k < f) (h : X = une attr f (s.data.toList.drop k) (if (s.data.toList.drop k).head? = some 10 then acc else acc ++ [bl attr 10])) (hc : ∀ hk : k < s.size, ¬ s[k] = 10) (b c : Int) : SE s attr X 0 k (acc ++ [bl attr 10]) b c := by
  refine .inl ⟨rfl, f, hf, ?_⟩
  rw [h, if_neg]
  by_cases hk : k < s.size
  · rw [drop_at s k hk]; simpa using hc hk
  · rw [(drop_nil s k).2 (by omega)]; simp
theorem se2_hex (hf : s.size - k < f) (h : X = aft attr f (refr (s.data.toList.drop k)) acc) (hp : Lib.hasPrefix (s.data.toList.drop k) [35, 120] = true) : SE s attr X 4 (k + 2) acc 16 0 := by
  refine .inr (.inr (.inr (.inr (.inl ⟨rfl, .inr rfl, by decide, by decide, f, by omega, ?_⟩))))
  rw [h, refr, if_pos hp, List.drop_drop]; rfl
theorem se2_dec (hf : s.size - k < f) (h : X = aft attr f (refr (s.data.toList.drop k)) acc) (h0 : ¬ Lib.hasPrefix (s.data.toList.drop k) [35, 120] = true) (hp : Lib.hasPrefix (s.data.toList.drop k) [35] = true) : SE s attr X 4 (k + 1) acc 10 0 := by
  refine .inr (.inr (.inr (.inr (.inl ⟨rfl, .inl rfl, by decide, by decide, f, by omega, ?_⟩))))
  rw [h, refr, if_neg h0, if_pos hp, List.drop_drop]; rfl
theorem se2_none (h : X = aft attr f (refr (s.data.toList.drop k)) acc) (h0 : ¬ Lib.hasPrefix (s.data.toList.drop k) [35, 120] = true) (hp : ¬ Lib.hasPrefix (s.data.toList.drop k) [35] = true) (hn : (nm (s.data.toList.drop k)).2 = 0) (j : Nat) (a : List UInt8) (b c : Int) : SE s attr X 1 j a b c :=
  se_wrong (by rw [h, refr, if_neg h0, if_neg hp, if_pos hn]; rfl) _ _ _ _
theorem se2_named (hf : s.size - k < f) (h : X = aft attr f (refr (s.data.toList.drop k)) acc) (h0 : ¬ Lib.hasPrefix (s.data.toList.drop k) [35, 120] = true) (hp : ¬ Lib.hasPrefix (s.data.toList.drop k) [35] = true) (hn : ¬ (nm (s.data.toList.drop k)).2 = 0) (b c : Int) :
    SE s attr X 0 (k + (nm (s.data.toList.drop k)).2) (acc ++ [(nm (s.data.toList.drop k)).1]) b c :=
  .inl ⟨rfl, f, by omega, by rw [h, refr, if_neg h0, if_neg hp, if_neg hn]; simp [aft, List.drop_drop]⟩
theorem se4_end (h : X = aft attr f ((num base code (s.data.toList.drop s.size)).map encP) acc) (j : Nat) (a : List UInt8) (b c : Int) : SE s attr X 1 j a b c :=
  se_wrong (by rw [h, drop_end]; rfl) _ _ _ _
theorem se4_digit (hb : base = 10 ∨ base = 16) (h0 : 0 ≤ code) (hf : s.size - k < f) (h : X = aft attr f ((num base code (s.data.toList.drop k)).map encP) acc) (hk : k < s.size) (hd : dgt s[k].toNat < base) (hd0 : 0 ≤ dgt s[k].toNat) : SE s attr X 4 (k + 1) acc base (min (code * base + dgt s[k].toNat) 1114112) := by
  have hm : 0 ≤ code * base := by rcases hb with rfl | rfl <;> omega
  exact .inr (.inr (.inr (.inr (.inl ⟨rfl, hb, by omega, by omega, f, by omega, by rw [h, drop_at s k hk, num_min _ _ _ _ hd]⟩))))
theorem se4_stop (h0 : 0 ≤ code) (h1 : code ≤ 1114112) (hf : s.size - k < f) (h : X = aft attr f ((num base code (s.data.toList.drop k)).map encP) acc) (hk : k < s.size) (hd : ¬ dgt s[k].toNat < base) : SE s attr X 5 k acc base code :=
  .inr (.inr (.inr (.inr (.inr ⟨rfl, ⟨hk, hd⟩, h0, h1, f, hf, h⟩))))
theorem se5_wrong (h : X = aft attr f ((num base code (s.data.toList.drop k)).map encP) acc) (hk : k < s.size) (hd : ¬ dgt s[k].toNat < base) (hc : ¬ (s[k] = 59 ∧ okI code = true)) (j : Nat) (a : List UInt8) (b c : Int) : SE s attr X 1 j a b c :=
  se_wrong (by rw [h, drop_at s k hk, num_wrong _ _ _ _ hd hc]; rfl) _ _ _ _
theorem se5_put (hf : s.size - k < f) (h : X = aft attr f ((num base code (s.data.toList.drop k)).map encP) acc) (hk : k < s.size) (hd : ¬ dgt s[k].toNat < base) (hc : s[k] = 59 ∧ okI code = true) (b c : Int) : SE s attr X 0 (k + 1) (acc ++ Lib.encodeRune code) b c :=
  .inl ⟨rfl, f, by omega, by rw [h, drop_at s k hk, num_end _ _ _ _ hd hc]; rfl⟩
end
end Go.Proofs.YtgmfggflbcegjaaDoor
