/-
  Plain facts about the texts of decimals: what a text is read as, what is printed of one: no program stands in this text.
  The contracts of strings.CutPrefix, TrimLeft, TrimRight and of stringslite.Index at one byte, at this program's numbers.
  dec.isDigits, the document's digits; strings.Cut at a point.
  dec.Parse: what a text is read as.
-/
import Derived.Test.YtonajmngchfjeaaDoorBi
import Derived.Lib.TrimByte
import Derived.Lib.Bytealg
import Derived.Shelf.Strings.Trim
import Derived.Shelf.Small.Wraps
import Derived.Shelf.Strings.Search2
import Derived.Test.YtonajmngchfjeaaDoorProg
import Derived.Test.YtonajmngchfjeaaDoorBb
import Derived.Handy
import Derived.WalkSpells
import Derived.Test.YtonajmngchfjeaaDoorDecOne
namespace Go.Proofs.YtonajmngchfjeaaDoor
open Go.RowKit Num Word
open Lib (decDigits trimLeftB trimRightB)

/-- one digit or more -/
def digsB (l : List UInt8) : Bool := l.all isDg && !l.isEmpty
theorem digsB_yes {l : List UInt8} : digsB l = true ↔ l.all isDg = true ∧ l ≠ [] := by
  unfold digsB; cases l <;> simp
theorem valL_cons (c : UInt8) (r : List UInt8) : valL (c :: r) = (c.toNat - 48) * 10 ^ r.length + valL r := by
  unfold valL digL
  rw [List.reverse_cons, List.map_append, lv_append]
  simp [lv]
  rw [Nat.mul_comm, Nat.add_comm]
theorem valL_lt {l : List UInt8} (h : l.all isDg = true) : valL l < 10 ^ l.length := by
  have := lv_lt (digL_dig h)
  unfold valL
  rwa [show (digL l).length = l.length by simp [digL]] at this
theorem valL_nought (r : List UInt8) : valL (48 :: r) = valL r := by rw [valL_cons]; simp
theorem valL_noughts (k : Nat) (r : List UInt8) : valL (List.replicate k 48 ++ r) = valL r := by
  induction k with
  | zero => rfl
  | succ k ih => rw [List.replicate_succ, List.cons_append, valL_nought, ih]
theorem valL_pos {c : UInt8} {r : List UInt8} (h : isDg c = true) (hc : c ≠ 48) : 10 ^ r.length ≤ valL (c :: r) := by
  rw [valL_cons]
  have h1 := isDg_yes h
  have h2 : c.toNat ≠ 48 := fun e => hc (UInt8.toNat_inj.1 e)
  have h3 : 1 * 10 ^ r.length ≤ (c.toNat - 48) * 10 ^ r.length := Nat.mul_le_mul_right _ (by omega)
  omega
/-- without the noughts ahead: the same number; nothing is left of nought alone -/
theorem trimL_facts : ∀ {l : List UInt8}, l.all isDg = true → valL (trimLeftB l 48) = valL l ∧ (trimLeftB l 48 = [] ↔ valL l = 0) ∧
    (trimLeftB l 48 ≠ [] → isNumL (trimLeftB l 48) = true ∧ (trimLeftB l 48).length = (dg (valL l)).length)
  | [], _ => ⟨rfl, by simp [trimLeftB, valL, digL, lv], fun h => absurd rfl h⟩
  | c :: r, h => by
    have hr : r.all isDg = true := by simp only [List.all_cons, Bool.and_eq_true] at h; exact h.2
    have hc : isDg c = true := by simp only [List.all_cons, Bool.and_eq_true] at h; exact h.1
    by_cases e : c = 48
    · subst e
      have e1 : trimLeftB (48 :: r) 48 = trimLeftB r 48 := by simp [trimLeftB]
      rw [e1, valL_nought]
      exact trimL_facts hr
    · have e1 : trimLeftB (c :: r) 48 = c :: r := by
        have : (c == 48) = false := by simpa using e
        simp [trimLeftB, this]
      have hp := valL_pos (r := r) hc e
      have hp0 : 0 < 10 ^ r.length := Nat.pow_pos (by decide)
      rw [e1]
      refine ⟨rfl, ⟨(fun h => by cases h), (fun h => by omega)⟩, fun _ => ⟨?_, ?_⟩⟩
      · unfold isNumL; simp [hc, hr, e]
      · have h1 := dg_len_lt (k := r.length) (n := valL (c :: r)) |>.2 hp
        have h2 := dg_len_le (k := r.length + 1) (n := valL (c :: r)) |>.2 (valL_lt h)
        simp only [List.length_cons]; omega
/-- without the noughts behind: nothing, or the last one is no nought -/
theorem trimR_facts (l : List UInt8) : trimRightB l 48 = [] ∨ ∃ m c, trimRightB l 48 = m ++ [c] ∧ c ≠ 48 := by
  unfold trimRightB
  cases h : l.reverse.dropWhile (· == 48) with
  | nil => exact .inl rfl
  | cons c r =>
    refine .inr ⟨r.reverse, c, by rw [List.reverse_cons], ?_⟩
    have := List.head_dropWhile_not (p := (· == (48 : UInt8))) (l := l.reverse) (by rw [h]; simp)
    simp only [h, List.head_cons] at this
    simpa using this
theorem trimR_all {l : List UInt8} (h : l.all isDg = true) : (trimRightB l 48).all isDg = true := by
  rw [List.all_eq_true] at h ⊢
  intro x hx
  unfold trimRightB at hx
  exact h x (List.mem_reverse.1 ((List.dropWhile_sublist _).subset (List.mem_reverse.1 hx)))
theorem trimR_len (l : List UInt8) : (trimRightB l 48).length ≤ l.length := by
  unfold trimRightB
  rw [List.length_reverse]
  have := (List.dropWhile_sublist (· == (48 : UInt8)) (l := l.reverse)).length_le
  rwa [List.length_reverse] at this
theorem trimR_same {m : List UInt8} {c : UInt8} (h : c ≠ 48) : trimRightB (m ++ [c]) 48 = m ++ [c] := by
  have e : (c == 48) = false := by simpa using h
  simp [trimRightB, e]
/-- where the trimmed part has a last digit, the whole's last digit is no nought -/
theorem last_ne {b a : List UInt8} (h : (b ++ trimRightB a 48).all isDg = true) (h0 : (trimRightB a 48).length ≠ 0) : valL (b ++ trimRightB a 48) % 10 ≠ 0 := by
  rcases trimR_facts a with e | ⟨m, c, e, hc⟩
  · rw [e] at h0; exact absurd rfl h0
  · rw [e] at h ⊢
    rw [← List.append_assoc, valL_snoc]
    have hd : isDg c = true := List.all_eq_true.1 h c (by simp)
    have h1 := isDg_yes hd
    have h2 : c.toNat ≠ 48 := fun e => hc (UInt8.toNat_inj.1 e)
    omega
/-- the parts ahead of the point are in form -/
def befOk (b : List UInt8) : Bool := digsB b && (decide (b.length ≤ 1) || decide (b.head? ≠ some 48))
def partsOk (pt : Bool) (b a : List UInt8) : Bool := befOk b && (!pt || digsB a)
def pV (b a : List UInt8) : Nat := valL (b ++ trimRightB a 48)
/-- what a text of these parts is read as: sign, number, scale, error -/
structure POut where
  neg : Bool
  c : Nat
  s : Nat
  e : Int
def pOut (neg pt : Bool) (b a : List UInt8) : POut :=
  if partsOk pt b a = true then
    if pV b a = 0 then (if neg = true then ⟨false, 0, 0, 5⟩ else ⟨false, 0, 0, 0⟩)
    else if 18 < (trimRightB a 48).length ∨ 34 < (dg (pV b a)).length then ⟨false, 0, 0, 3⟩
    else ⟨neg, pV b a, (trimRightB a 48).length, 0⟩
  else ⟨false, 0, 0, 5⟩
theorem pOut_bad {neg pt : Bool} {b a : List UInt8} (h : partsOk pt b a = false) : pOut neg pt b a = ⟨false, 0, 0, 5⟩ := by
  unfold pOut; rw [h]; rfl
theorem pOut_nought {pt : Bool} {b a : List UInt8} (neg : Bool) (h : partsOk pt b a = true) (h0 : pV b a = 0) : pOut neg pt b a = ⟨false, 0, 0, if neg = true then 5 else 0⟩ := by
  unfold pOut; rw [if_pos h, if_pos h0]; cases neg <;> rfl
theorem pOut_over {neg pt : Bool} {b a : List UInt8} (h : partsOk pt b a = true) (h0 : pV b a ≠ 0) (h1 : 18 < (trimRightB a 48).length ∨ 34 < (dg (pV b a)).length) : pOut neg pt b a = ⟨false, 0, 0, 3⟩ := by
  unfold pOut; rw [if_pos h, if_neg h0, if_pos h1]
theorem pOut_yes {neg pt : Bool} {b a : List UInt8} (h : partsOk pt b a = true) (h0 : pV b a ≠ 0) (h1 : ¬ (18 < (trimRightB a 48).length ∨ 34 < (dg (pV b a)).length)) : pOut neg pt b a = ⟨neg, pV b a, (trimRightB a 48).length, 0⟩ := by
  unfold pOut; rw [if_pos h, if_neg h0, if_neg h1]
/-- how a text lies in parts -/
structure Lies (l : List UInt8) (neg pt : Bool) (m b a : List UInt8) : Prop where
  sign : (neg = true ∧ l = 45 :: m) ∨ (neg = false ∧ l = m ∧ m.head? ≠ some 45)
  point : (pt = true ∧ m = b ++ 46 :: a) ∨ (pt = false ∧ m = b ∧ a = [])
  none : ∀ c ∈ b, c ≠ 46
theorem split_at : ∀ m : List UInt8, ∃ pt b a, ((pt = true ∧ m = b ++ 46 :: a) ∨ (pt = false ∧ m = b ∧ a = [])) ∧ ∀ c ∈ b, c ≠ 46
  | [] => ⟨false, [], [], .inr ⟨rfl, rfl, rfl⟩, fun _ h => by cases h⟩
  | c :: r => by
    by_cases e : c = 46
    · subst e; exact ⟨true, [], r, .inl ⟨rfl, rfl⟩, fun _ h => by cases h⟩
    · obtain ⟨pt, b, a, h, hb⟩ := split_at r
      refine ⟨pt, c :: b, a, ?_, fun x hx => ?_⟩
      · rcases h with ⟨h1, h2⟩ | ⟨h1, h2, h3⟩
        · exact .inl ⟨h1, by rw [h2]; rfl⟩
        · exact .inr ⟨h1, by rw [h2], h3⟩
      · rcases List.mem_cons.1 hx with rfl | hx
        · exact e
        · exact hb x hx
theorem lies (l : List UInt8) : ∃ neg pt m b a, Lies l neg pt m b a := by
  by_cases h : ∃ m, l = 45 :: m
  · obtain ⟨m, rfl⟩ := h
    obtain ⟨pt, b, a, h1, h2⟩ := split_at m
    exact ⟨true, pt, m, b, a, .inl ⟨rfl, rfl⟩, h1, h2⟩
  · obtain ⟨pt, b, a, h1, h2⟩ := split_at l
    refine ⟨false, pt, l, b, a, .inr ⟨rfl, rfl, fun e => ?_⟩, h1, h2⟩
    cases l with
    | nil => cases e
    | cons c r => simp only [List.head?_cons, Option.some.injEq] at e; exact h ⟨r, by rw [e]⟩
theorem index_none : ∀ {b : List UInt8}, (∀ c ∈ b, c ≠ 46) → Lib.indexByte b 46 = -1
  | [], _ => rfl
  | c :: r, h => by
    have e : (c == 46) = false := by simpa using h c (by simp)
    have ih := index_none (b := r) (fun x hx => h x (by simp [hx]))
    simp [Lib.indexByte, e, ih]
theorem index_at : ∀ {b : List UInt8} (a : List UInt8), (∀ c ∈ b, c ≠ 46) → Lib.indexByte (b ++ 46 :: a) 46 = (b.length : Int)
  | [], _, _ => by simp [Lib.indexByte]
  | c :: r, a, h => by
    have e : (c == 46) = false := by simpa using h c (by simp)
    have ih := index_at (b := r) a (fun x hx => h x (by simp [hx]))
    rw [List.cons_append, Lib.indexByte, e, ih]
    have : ((r.length : Int) == -1) = false := beq_eq_false_iff_ne.2 (by omega)
    simp [this]
/-- what is printed: padded, cut, signed -/
def padD (c s : Nat) : List UInt8 := List.replicate (s + 1 - (decDigits c).length) 48 ++ decDigits c
def wholeD (c s : Nat) : List UInt8 := (padD c s).take ((padD c s).length - s)
def partD (c s : Nat) : List UInt8 := (padD c s).drop ((padD c s).length - s)
def bareD (c s : Nat) : List UInt8 := if s = 0 then padD c s else wholeD c s ++ 46 :: partD c s
def printD (neg : Bool) (c s : Nat) : List UInt8 := if neg = true then 45 :: bareD c s else bareD c s
theorem padD_all (c s : Nat) : (padD c s).all isDg = true := by
  unfold padD
  rw [List.all_append, dd_all, Bool.and_true, List.all_eq_true]
  intro x hx
  rw [List.eq_of_mem_replicate hx]; rfl
theorem padD_len (c s : Nat) : s + 1 ≤ (padD c s).length := by
  unfold padD; rw [List.length_append, List.length_replicate]; omega
theorem padD_val (c s : Nat) : valL (padD c s) = c := by unfold padD; rw [valL_noughts, dd_val]
theorem dd_pos (c : Nat) : 0 < (decDigits c).length := by
  by_cases h : c < 10
  · rw [dd_small h]; exact Nat.one_pos
  · rw [dd_big h, List.length_append]; simp
theorem all_take' {l : List UInt8} (h : l.all isDg = true) (k : Nat) : (l.take k).all isDg = true := by
  rw [List.all_eq_true] at h ⊢; exact fun x hx => h x (List.mem_of_mem_take hx)
theorem all_drop' {l : List UInt8} (h : l.all isDg = true) (k : Nat) : (l.drop k).all isDg = true := by
  rw [List.all_eq_true] at h ⊢; exact fun x hx => h x (List.mem_of_mem_drop hx)
theorem dg_no {c : UInt8} (h : isDg c = true) : c ≠ 46 ∧ c ≠ 45 := by
  have := isDg_yes h
  constructor <;> (intro e; subst e; simp at this)
theorem ne_of_all {l : List UInt8} (h : l.all isDg = true) : ∀ c ∈ l, c ≠ 46 := fun c hc => (dg_no (List.all_eq_true.1 h c hc)).1
theorem wholeD_ok (c s : Nat) : befOk (wholeD c s) = true ∧ wholeD c s ≠ [] := by
  have hl := padD_len c s
  have hne : wholeD c s ≠ [] := by
    intro e
    have := congrArg List.length e
    unfold wholeD at this
    rw [List.length_take] at this
    simp at this; omega
  refine ⟨?_, hne⟩
  unfold befOk
  rw [show digsB (wholeD c s) = true from digsB_yes.2 ⟨all_take' (padD_all c s) _, hne⟩, Bool.true_and]
  by_cases h1 : s + 1 ≤ (decDigits c).length
  · have e : padD c s = decDigits c := by unfold padD; rw [Nat.sub_eq_zero_of_le h1]; rfl
    rcases Nat.eq_zero_or_pos c with h0 | h0
    · subst h0
      have : (decDigits 0).length = 1 := by rw [dd_small (by decide)]; rfl
      have hz : (wholeD 0 s).length ≤ 1 := by unfold wholeD; rw [List.length_take, e]; omega
      rw [decide_eq_true hz, Bool.true_or]
    · obtain ⟨x, r, hx, hx2⟩ := dd_head c h0
      have : (wholeD c s).head? = some x := by
        unfold wholeD
        rw [e, hx]
        have : (x :: r).length - s = ((x :: r).length - s - 1) + 1 := by rw [← hx]; omega
        rw [this, List.take_succ_cons, List.head?_cons]
      rw [this, decide_eq_true (show some x ≠ some 48 from fun h => hx2 (Option.some.inj h)), Bool.or_true]
  · have hz : (wholeD c s).length ≤ 1 := by
      unfold wholeD padD
      rw [List.length_take, List.length_append, List.length_replicate]; omega
    rw [decide_eq_true hz, Bool.true_or]
theorem partD_len (c s : Nat) : (partD c s).length = s := by
  have := padD_len c s
  unfold partD; rw [List.length_drop]; omega
theorem partD_trim {c s : Nat} (h : c % 10 ≠ 0) : trimRightB (partD c s) 48 = partD c s := by
  have hl := padD_len c s
  have hd : ∃ m x, padD c s = m ++ [x] ∧ x ≠ 48 := by
    have h1 : ∃ m, decDigits c = m ++ [UInt8.ofNat (48 + c % 10)] := by
      by_cases h9 : c < 10
      · exact ⟨[], by rw [dd_small h9, Nat.mod_eq_of_lt h9]; rfl⟩
      · exact ⟨_, dd_big h9⟩
    obtain ⟨m, hm⟩ := h1
    refine ⟨List.replicate (s + 1 - (decDigits c).length) 48 ++ m, UInt8.ofNat (48 + c % 10), by unfold padD; rw [List.append_assoc]; congr 1, fun e => ?_⟩
    have := congrArg UInt8.toNat e
    rw [of48 (by omega)] at this
    have e48 : (48 : UInt8).toNat = 48 := rfl
    omega
  obtain ⟨m, x, e, hx⟩ := hd
  rcases Nat.eq_zero_or_pos s with h0 | h0
  · have : partD c s = [] := List.eq_nil_of_length_eq_zero (by rw [partD_len]; exact h0)
    rw [this]; rfl
  · unfold partD
    rw [e]
    have h2 : (m ++ [x]).length - s ≤ m.length := by rw [List.length_append, List.length_singleton]; omega
    rw [List.drop_append_of_le_length h2]
    exact trimR_same hx
theorem whole_part (c s : Nat) : wholeD c s ++ partD c s = padD c s := List.take_append_drop _ _
/-- what is printed of a decimal in form is read back -/
theorem print_lies (neg : Bool) (c s : Nat) : Lies (printD neg c s) neg (decide (s ≠ 0)) (bareD c s) (if s = 0 then padD c s else wholeD c s) (if s = 0 then [] else partD c s) := by
  have hp : padD c s ≠ [] := fun e => by have := padD_len c s; rw [e] at this; simp at this
  refine ⟨?_, ?_, ?_⟩
  · cases neg with
    | true => exact .inl ⟨rfl, rfl⟩
    | false =>
      refine .inr ⟨rfl, rfl, fun e => ?_⟩
      have key : ∀ {l : List UInt8} (r : List UInt8), l.all isDg = true → l ≠ [] → (l ++ r).head? ≠ some 45 := fun {l} r h h0 he => by
        cases l with
        | nil => exact h0 rfl
        | cons x t =>
          simp only [List.cons_append, List.head?_cons, Option.some.injEq] at he
          exact (dg_no (List.all_eq_true.1 h x (by simp))).2 he
      unfold bareD at e
      by_cases h0 : s = 0
      · rw [if_pos h0] at e
        have := key [] (padD_all c s) hp
        rw [List.append_nil] at this
        exact this e
      · rw [if_neg h0] at e
        exact key _ (all_take' (padD_all c s) _) (wholeD_ok c s).2 e
  · by_cases h0 : s = 0
    · exact .inr ⟨by simp [h0], by unfold bareD; rw [if_pos h0, if_pos h0], by rw [if_pos h0]⟩
    · exact .inl ⟨by simp [h0], by unfold bareD; rw [if_neg h0, if_neg h0, if_neg h0]⟩
  · by_cases h0 : s = 0
    · rw [if_pos h0]; exact ne_of_all (padD_all c s)
    · rw [if_neg h0]; exact ne_of_all (all_take' (padD_all c s) _)
theorem print_out (neg : Bool) (c s : Nat) (h1 : s ≤ 18) (h2 : c < 10 ^ 34) (h3 : s = 0 → neg = true → c ≠ 0) (h4 : s ≠ 0 → c % 10 ≠ 0) :
    pOut neg (decide (s ≠ 0)) (if s = 0 then padD c s else wholeD c s) (if s = 0 then [] else partD c s) = ⟨neg, c, s, 0⟩ := by
  have hdl : ¬ 34 < (dg c).length := by have := dg_len_le (k := 34) |>.2 h2; omega
  by_cases h0 : s = 0
  · subst h0
    rw [if_pos rfl, if_pos rfl]
    have e0 : wholeD c 0 = padD c 0 := by unfold wholeD; rw [Nat.sub_zero, List.take_length]
    have hv : pV (padD c 0) [] = c := by
      unfold pV
      rw [show trimRightB ([] : List UInt8) 48 = [] from rfl, List.append_nil, padD_val]
    have hok : partsOk (decide ((0 : Nat) ≠ 0)) (padD c 0) [] = true := by
      unfold partsOk
      rw [← e0, (wholeD_ok c 0).1]; rfl
    by_cases hc : c = 0
    · subst hc
      rw [pOut_nought neg hok hv]
      cases neg with
      | true => exact absurd rfl (h3 rfl rfl)
      | false => rfl
    · rw [pOut_yes hok (by rw [hv]; exact hc) (by rw [hv]; rintro (h | h); · exact absurd h (by decide)
                                                  · exact hdl h), hv]
      rfl
  · rw [if_neg h0, if_neg h0]
    have hc := h4 h0
    have hv : pV (wholeD c s) (partD c s) = c := by
      unfold pV
      rw [partD_trim hc, whole_part, padD_val]
    have hok : partsOk (decide (s ≠ 0)) (wholeD c s) (partD c s) = true := by
      unfold partsOk
      rw [(wholeD_ok c s).1, show digsB (partD c s) = true from digsB_yes.2 ⟨all_drop' (padD_all c s) _, fun e => by have := partD_len c s; rw [show partD c s = [] from e] at this; exact h0 this.symm⟩]
      simp
    rw [pOut_yes hok (by rw [hv]; intro e; rw [e] at hc; exact hc rfl) (by rw [hv, partD_trim hc, partD_len]; omega), hv, partD_trim hc, partD_len]
end Go.Proofs.YtonajmngchfjeaaDoor
namespace Go.Proofs
open Go.Shelf
def Tryd.lays103_ren : Go.Shelf.Ren := ⟨fun | 103 => 28 | 210 => 36 | 206 => 54 | n => n, fun | 9 => 9 | 4 => 4 | 24 => 55 | 3 => 3 | n => n, fun | n => n⟩
theorem Tryd.lays103 : Go.Proofs.Lays.n103 Tryd.prog Tryd.lays103_ren := {
  mixed := by kernel_rfl
  f103 := Tryd.func28.trans (congrArg some (by kernel_rfl))
  f206 := Tryd.func54.trans (congrArg some (by kernel_rfl))
  f210 := Tryd.func36.trans (congrArg some (by kernel_rfl))
  t3 := Tryd.underlying3
  a3 := Tryd.isAgg3
  z3 := Tryd.sizeOf3
  v3 := Tryd.zeroValue3
  t4 := Tryd.underlying4
  a4 := Tryd.isAgg4
  z4 := Tryd.sizeOf4
  v4 := Tryd.zeroValue4
  t9 := Tryd.underlying9
  a9 := Tryd.isAgg9
  z9 := Tryd.sizeOf9
  v9 := Tryd.zeroValue9
  t24 := Tryd.underlying55
  a24 := Tryd.isAgg55
  z24 := Tryd.sizeOf55
  v24 := Tryd.zeroValue55 }
open Go.RowKit in
/-- strings.CutPrefix: "CutPrefix returns s without the provided leading prefix string and reports whether it found the prefix. If s doesn't start with prefix, CutPrefix returns s, false. If prefix is the empty string, CutPrefix returns s, true.": IT RETURNS '(Lib.trimPrefix s p, Lib.hasPrefix s p)'; the world is as it was. (LAID: no walk: one application.) -/
theorem Tryd.strings_CutPrefix (s p : ByteArray) (w : World) :
    Calls Tryd.prog 28 #[.string s, .string p] w fun e w' => e = .returned (.tuple #[.string ⟨(Lib.trimPrefix s.data.toList p.data.toList).toArray⟩, .bool (Lib.hasPrefix s.data.toList p.data.toList)]) ∧ w' = w := Any.strings_CutPrefix Tryd.lays103 s p w
def Tryd.lays161_ren : Go.Shelf.Ren := ⟨fun | 161 => 32 | 231 => 42 | 227 => 39 | 233 => 43 | 235 => 44 | 228 => 56 | 197 => 59 | 151 => 58 | 260 => 70 | 152 => 69 | 137 => 74 | 119 => 75 | 224 => 66 | 225 => 65 | 217 => 64 | 266 => 72 | n => n, fun | 9 => 9 | 4 => 4 | 3 => 3 | 5 => 5 | 117 => 69 | 116 => 68 | 0 => 0 | 124 => 72 | 105 => 83 | 21 => 21 | 119 => 44 | 46 => 48 | 139 => 47 | 138 => 46 | n => n, fun | 3 => 0 | 4 => 1 | n => n⟩
theorem Tryd.lays161 : Go.Proofs.Lays.n161 Tryd.prog Tryd.lays161_ren := {
  mixed := by kernel_rfl
  f119 := Tryd.func75.trans (congrArg some (by kernel_rfl))
  f137 := Tryd.func74.trans (congrArg some (by kernel_rfl))
  f151 := Tryd.func58.trans (congrArg some (by kernel_rfl))
  f152 := Tryd.func69.trans (congrArg some (by kernel_rfl))
  f161 := Tryd.func32.trans (congrArg some (by kernel_rfl))
  f197 := Tryd.func59.trans (congrArg some (by kernel_rfl))
  f217 := Tryd.func64.trans (congrArg some (by kernel_rfl))
  f224 := Tryd.func66.trans (congrArg some (by kernel_rfl))
  f225 := Tryd.func65.trans (congrArg some (by kernel_rfl))
  f227 := Tryd.func39.trans (congrArg some (by kernel_rfl))
  f228 := Tryd.func56.trans (congrArg some (by kernel_rfl))
  f231 := Tryd.func42.trans (congrArg some (by kernel_rfl))
  f233 := Tryd.func43.trans (congrArg some (by kernel_rfl))
  f235 := Tryd.func44.trans (congrArg some (by kernel_rfl))
  f260 := Tryd.func70.trans (congrArg some (by kernel_rfl))
  f266 := Tryd.func72.trans (congrArg some (by kernel_rfl))
  t0 := Tryd.underlying0
  a0 := Tryd.isAgg0
  z0 := Tryd.sizeOf0
  v0 := Tryd.zeroValue0
  t3 := Tryd.underlying3
  a3 := Tryd.isAgg3
  z3 := Tryd.sizeOf3
  v3 := Tryd.zeroValue3
  t4 := Tryd.underlying4
  a4 := Tryd.isAgg4
  z4 := Tryd.sizeOf4
  v4 := Tryd.zeroValue4
  t5 := Tryd.underlying5
  a5 := Tryd.isAgg5
  z5 := Tryd.sizeOf5
  v5 := Tryd.zeroValue5
  t9 := Tryd.underlying9
  a9 := Tryd.isAgg9
  z9 := Tryd.sizeOf9
  v9 := Tryd.zeroValue9
  t21 := Tryd.underlying21
  a21 := Tryd.isAgg21
  z21 := Tryd.sizeOf21
  v21 := Tryd.zeroValue21
  t46 := Tryd.underlying48
  a46 := Tryd.isAgg48
  z46 := Tryd.sizeOf48
  v46 := Tryd.zeroValue48
  t105 := Tryd.underlying83
  a105 := Tryd.isAgg83
  z105 := Tryd.sizeOf83
  v105 := Tryd.zeroValue83
  t116 := Tryd.underlying68
  a116 := Tryd.isAgg68
  z116 := Tryd.sizeOf68
  t117 := Tryd.underlying69
  a117 := Tryd.isAgg69
  z117 := Tryd.sizeOf69
  v117 := Tryd.zeroValue69
  t119 := Tryd.underlying44
  a119 := Tryd.isAgg44
  z119 := Tryd.sizeOf44
  t124 := Tryd.underlying72
  a124 := Tryd.isAgg72
  z124 := Tryd.sizeOf72
  v124 := Tryd.zeroValue72
  t138 := Tryd.underlying46
  a138 := Tryd.isAgg46
  z138 := Tryd.sizeOf46
  v138 := Tryd.zeroValue46
  t139 := Tryd.underlying47
  a139 := Tryd.isAgg47
  z139 := Tryd.sizeOf47
  v139 := Tryd.zeroValue47
  g3 := by kernel_rfl
  g4 := by kernel_rfl }
open Go.RowKit in
/-- strings.TrimLeft: "TrimLeft returns a slice of the string s with all leading Unicode code points contained in cutset removed.": AT A cutset OF ONE ASCII BYTE. The world is as it was. (LAID: no walk: one application.) -/
theorem Tryd.strings_TrimLeft_one (s : ByteArray) (c : UInt8) (hc : c.toNat < 128) (w : World) :
    Calls Tryd.prog 32 #[.string s, .string ⟨#[c]⟩] w fun e w' => e = .returned (.string ⟨(Lib.trimLeftB s.data.toList c).toArray⟩) ∧ w' = w := Any.strings_TrimLeft_one Tryd.lays161 s c hc w
def Tryd.lays162_ren : Go.Shelf.Ren := ⟨fun | 162 => 31 | 232 => 38 | 227 => 39 | 234 => 40 | 236 => 41 | 228 => 56 | 271 => 57 | 151 => 58 | 120 => 68 | 197 => 59 | 152 => 69 | 260 => 70 | 137 => 74 | 119 => 75 | 224 => 66 | 225 => 65 | 217 => 64 | 266 => 72 | n => n, fun | 9 => 9 | 4 => 4 | 3 => 3 | 5 => 5 | 117 => 69 | 116 => 68 | 0 => 0 | 124 => 72 | 21 => 21 | 105 => 83 | 46 => 48 | 119 => 44 | 139 => 47 | 138 => 46 | n => n, fun | 3 => 0 | 4 => 1 | n => n⟩
theorem Tryd.lays162 : Go.Proofs.Lays.n162 Tryd.prog Tryd.lays162_ren := {
  mixed := by kernel_rfl
  f119 := Tryd.func75.trans (congrArg some (by kernel_rfl))
  f120 := Tryd.func68.trans (congrArg some (by kernel_rfl))
  f137 := Tryd.func74.trans (congrArg some (by kernel_rfl))
  f151 := Tryd.func58.trans (congrArg some (by kernel_rfl))
  f152 := Tryd.func69.trans (congrArg some (by kernel_rfl))
  f162 := Tryd.func31.trans (congrArg some (by kernel_rfl))
  f197 := Tryd.func59.trans (congrArg some (by kernel_rfl))
  f217 := Tryd.func64.trans (congrArg some (by kernel_rfl))
  f224 := Tryd.func66.trans (congrArg some (by kernel_rfl))
  f225 := Tryd.func65.trans (congrArg some (by kernel_rfl))
  f227 := Tryd.func39.trans (congrArg some (by kernel_rfl))
  f228 := Tryd.func56.trans (congrArg some (by kernel_rfl))
  f232 := Tryd.func38.trans (congrArg some (by kernel_rfl))
  f234 := Tryd.func40.trans (congrArg some (by kernel_rfl))
  f236 := Tryd.func41.trans (congrArg some (by kernel_rfl))
  f260 := Tryd.func70.trans (congrArg some (by kernel_rfl))
  f266 := Tryd.func72.trans (congrArg some (by kernel_rfl))
  f271 := Tryd.func57.trans (congrArg some (by kernel_rfl))
  t0 := Tryd.underlying0
  a0 := Tryd.isAgg0
  z0 := Tryd.sizeOf0
  v0 := Tryd.zeroValue0
  t3 := Tryd.underlying3
  a3 := Tryd.isAgg3
  z3 := Tryd.sizeOf3
  v3 := Tryd.zeroValue3
  t4 := Tryd.underlying4
  a4 := Tryd.isAgg4
  z4 := Tryd.sizeOf4
  v4 := Tryd.zeroValue4
  t5 := Tryd.underlying5
  a5 := Tryd.isAgg5
  z5 := Tryd.sizeOf5
  v5 := Tryd.zeroValue5
  t9 := Tryd.underlying9
  a9 := Tryd.isAgg9
  z9 := Tryd.sizeOf9
  v9 := Tryd.zeroValue9
  t21 := Tryd.underlying21
  a21 := Tryd.isAgg21
  z21 := Tryd.sizeOf21
  v21 := Tryd.zeroValue21
  t46 := Tryd.underlying48
  a46 := Tryd.isAgg48
  z46 := Tryd.sizeOf48
  v46 := Tryd.zeroValue48
  t105 := Tryd.underlying83
  a105 := Tryd.isAgg83
  z105 := Tryd.sizeOf83
  v105 := Tryd.zeroValue83
  t116 := Tryd.underlying68
  a116 := Tryd.isAgg68
  z116 := Tryd.sizeOf68
  t117 := Tryd.underlying69
  a117 := Tryd.isAgg69
  z117 := Tryd.sizeOf69
  v117 := Tryd.zeroValue69
  t119 := Tryd.underlying44
  a119 := Tryd.isAgg44
  z119 := Tryd.sizeOf44
  t124 := Tryd.underlying72
  a124 := Tryd.isAgg72
  z124 := Tryd.sizeOf72
  v124 := Tryd.zeroValue72
  t138 := Tryd.underlying46
  a138 := Tryd.isAgg46
  z138 := Tryd.sizeOf46
  v138 := Tryd.zeroValue46
  t139 := Tryd.underlying47
  a139 := Tryd.isAgg47
  z139 := Tryd.sizeOf47
  v139 := Tryd.zeroValue47
  g3 := by kernel_rfl
  g4 := by kernel_rfl }
open Go.RowKit in
/-- strings.TrimRight: "TrimRight returns a slice of the string s, with all trailing Unicode code points contained in cutset removed.": AT A cutset OF ONE ASCII BYTE. The world is as it was. (LAID: no walk: one application.) -/
theorem Tryd.strings_TrimRight_one (s : ByteArray) (c : UInt8) (hc : c.toNat < 128) (w : World) (hs : s.size ≤ 9223372036854775807) :
    Calls Tryd.prog 31 #[.string s, .string ⟨#[c]⟩] w fun e w' => e = .returned (.string ⟨(Lib.trimRightB s.data.toList c).toArray⟩) ∧ w' = w := Any.strings_TrimRight_one Tryd.lays162 s c hc w hs
def Tryd.lays219_ren : Go.Shelf.Ren := ⟨fun | 219 => 55 | 217 => 64 | 225 => 65 | 224 => 66 | 267 => 67 | 266 => 72 | 314 => 73 | n => n, fun | 9 => 9 | 3 => 3 | 4 => 4 | 5 => 5 | 46 => 48 | 146 => 95 | 51 => 94 | n => n, fun | 1 => 2 | n => n⟩
theorem Tryd.lays219 : Go.Proofs.Lays.n219 Tryd.prog Tryd.lays219_ren := {
  mixed := by kernel_rfl
  f217 := Tryd.func64.trans (congrArg some (by kernel_rfl))
  f219 := Tryd.func55.trans (congrArg some (by kernel_rfl))
  f224 := Tryd.func66.trans (congrArg some (by kernel_rfl))
  f225 := Tryd.func65.trans (congrArg some (by kernel_rfl))
  f266 := Tryd.func72.trans (congrArg some (by kernel_rfl))
  f267 := Tryd.func67.trans (congrArg some (by kernel_rfl))
  f314 := Tryd.func73.trans (congrArg some (by kernel_rfl))
  t3 := Tryd.underlying3
  a3 := Tryd.isAgg3
  z3 := Tryd.sizeOf3
  v3 := Tryd.zeroValue3
  t4 := Tryd.underlying4
  a4 := Tryd.isAgg4
  z4 := Tryd.sizeOf4
  v4 := Tryd.zeroValue4
  t5 := Tryd.underlying5
  a5 := Tryd.isAgg5
  z5 := Tryd.sizeOf5
  v5 := Tryd.zeroValue5
  t9 := Tryd.underlying9
  a9 := Tryd.isAgg9
  z9 := Tryd.sizeOf9
  v9 := Tryd.zeroValue9
  t46 := Tryd.underlying48
  a46 := Tryd.isAgg48
  z46 := Tryd.sizeOf48
  v46 := Tryd.zeroValue48
  t51 := Tryd.underlying94
  a51 := Tryd.isAgg94
  z51 := Tryd.sizeOf94
  v51 := Tryd.zeroValue94
  t146 := Tryd.underlying95
  a146 := Tryd.isAgg95
  z146 := Tryd.sizeOf95
  v146 := Tryd.zeroValue95
  g1 := by kernel_rfl }
open Go.RowKit Go.Lib in
/-- internal/stringslite.Index (what strings.Index calls) AT A substr OF ONE BYTE c: IT RETURNS 'Lib.indexByte s c'; the world is as it was. (LAID: no walk: one application.) -/
theorem Tryd.stringslite_Index_one (s : ByteArray) (c : UInt8) (w : World) :
    Calls Tryd.prog 55 #[.string s, .string ⟨#[c]⟩] w fun e w' => e = .returned (.int .i64 (Lib.indexByte s.data.toList c)) ∧ w' = w := Any.stringslite_Index_one Tryd.lays219 s c w
end Go.Proofs
namespace Go.Proofs.YtonajmngchfjeaaDoor
open Go.RowKit Num Word
attribute [local go_sem] setCell_drewN cell?_ext frozen?_ext shape?_ext setCell_ext lt_1' ne_1' en_1' le_1' lt_2' ne_2' en_2' le_2' lt_3' ne_3' en_3' le_3' lt_4' ne_4' en_4' le_4' lt_5' ne_5' en_5' le_5' lt_6' ne_6' en_6' le_6' lt_7' ne_7' en_7' le_7' lt_8' ne_8' en_8' le_8' lt_9' ne_9' en_9' le_9' lt_10' ne_10' en_10' le_10' lt_11' ne_11' en_11' le_11' lt_12' ne_12' en_12' le_12'

theorem digs_empty (s : ByteArray) (h : s.data.toList = []) : digsB s.data.toList = false := by rw [h]; rfl
theorem bytes_ne {s : ByteArray} (h : 0 < s.size) : s.toList.isEmpty = false ∧ ¬ s.toList = [] := by
  have e : s.toList = s.data.toList := ByteArray.toList_eq ..
  have hz : s.data.toList.length = s.size := rfl
  have hn : ¬ s.toList = [] := fun h0 => by rw [e] at h0; rw [h0] at hz; simp at hz; omega
  exact ⟨by cases hl : s.toList with | nil => exact absurd hl hn | cons => rfl, hn⟩
theorem bytes_no {s : ByteArray} (h : s.size = 0) : s.toList.isEmpty = true ∧ s.toList = [] := by
  have e : s.toList = s.data.toList := ByteArray.toList_eq ..
  have : s.toList = [] := by rw [e]; exact List.eq_nil_of_length_eq_zero (show s.data.toList.length = 0 from h)
  exact ⟨by rw [this]; rfl, this⟩
set_option maxRecDepth 100000 in
set_option maxHeartbeats 8000000 in
theorem isDigits_any (s : ByteArray) (hs : s.size ≤ 140737488351232) (w : World) :
    Calls Tryd.prog 30 #[.string s] w fun e w' => e = .returned (.bool (digsB s.data.toList)) ∧ w = w' := by
  have hsz : s.data.toList.length = s.size := rfl
  go_enter Tryd.func30, Tryd.ntmps30
  go_wp2
  go_loop [3] (fun i => ∃ k : Nat, i = .int .i64 k ∧ k ≤ s.size ∧ Hid ((s.data.toList.take k).all isDg = true)) (fun i => s.size - (intOf i).toNat)
  case atStart => exact ⟨0, rfl, Nat.zero_le _, Lib.hid rfl⟩
  case round =>
    obtain ⟨k, rfl, hk, hall⟩ := hrel
    by_cases hlt : k < s.size
    · have hlti : (k : Int) < s.size := by omega
      have hst := all_take (l := s.data.toList) (k := k) (by omega)
      have hgt : s.data.toList[k]'(by omega) = s[k] := rfl
      rw [hgt, hall.out, Bool.true_and] at hst
      cases hdg : isDg s[k] with
      | false =>
        have HF := Lib.hid (show (false : Bool) = digsB s.data.toList from (by
          have hm : s[k] ∈ s.data.toList := by rw [← hgt]; exact List.getElem_mem _
          have : s.data.toList.all isDg = false := Bool.eq_false_iff.2 (fun h => by have := List.all_eq_true.1 h _ hm; rw [hdg] at this; cases this)
          unfold digsB; rw [this]; rfl))
        rcases isDg_no hdg with hb | ⟨hb, hb2⟩
        · have hbi : (s[k].toNat : Int) < 48 := by omega
          clear hst hdg hgt
          go_wp2
          go_ret
          exact ⟨by rw [← HF.out]; rfl, rfl⟩
        · have hbi : ¬ (s[k].toNat : Int) < 48 := by omega
          have hb2i : (57 : Int) < s[k].toNat := by omega
          clear hst hdg hgt
          go_wp2
          go_ret
          exact ⟨by rw [← HF.out]; rfl, rfl⟩
      | true =>
        rw [hdg] at hst
        obtain ⟨hb, hb2⟩ := isDg_yes hdg
        have hbi : ¬ (s[k].toNat : Int) < 48 := by omega
        have hb2i : ¬ (57 : Int) < s[k].toNat := by omega
        have HS := Lib.hid hst
        clear hst hdg hgt
        go_wp2
        go_round
        case rel => exact ⟨k + 1, by go_num, by omega, HS⟩
        case measure => simp only [intOf]; omega
    · obtain rfl : k = s.size := by omega
      have hF := hall.out
      rw [List.take_of_length_le (by omega)] at hF
      by_cases h0 : s.size = 0
      · obtain ⟨n1, n2⟩ := bytes_no h0
        have HF := Lib.hid (digs_empty s (List.eq_nil_of_length_eq_zero (show s.data.toList.length = 0 from h0)))
        clear hF hsz hall
        go_wp2
        go_ret
        exact ⟨by rw [HF.out]; rfl, rfl⟩
      · obtain ⟨n1, n2⟩ := bytes_ne (s := s) (by omega)
        have HF := Lib.hid (show digsB s.data.toList = true from digsB_yes.2 ⟨hF, fun e => h0 (by rw [← hsz, e]; rfl)⟩)
        clear hF hsz hall
        go_wp2
        go_ret
        exact ⟨by rw [HF.out]; rfl, rfl⟩
theorem sliceD_from (s : ByteArray) (z : Int) (p : Nat) (hz : z = (p : Int)) (h : p ≤ s.size) : ∀ w, (Instr.slice 9 (.string s) (some (.int .i64 z)) none none).run Tryd.prog w = .ok (.string (s.extract p s.size)) w := by
  subst hz
  intro w
  have := run_slice_string_l (w := w) (P := Tryd.prog) (t := 9) (s := s) Tryd.underlying9 (kl := .i64) (l := (p : Int)) (h0 := by omega) (h1 := by omega)
  rw [this]; rfl
theorem sliceD_to (s : ByteArray) (z : Int) (p : Nat) (hz : z = (p : Int)) (h : p ≤ s.size) : ∀ w, (Instr.slice 9 (.string s) none (some (.int .i64 z)) none).run Tryd.prog w = .ok (.string (s.extract 0 p)) w := by
  subst hz
  intro w
  have := run_slice_string_h (w := w) (P := Tryd.prog) (t := 9) (s := s) Tryd.underlying9 (kh := .i64) (h := (p : Int)) (h0 := by omega) (h2 := by omega)
  rw [this]; rfl
theorem ext_to (b r : List UInt8) : (⟨(b ++ r).toArray⟩ : ByteArray).extract 0 b.length = ⟨b.toArray⟩ := by
  apply ByteArray.ext
  simp [ByteArray.data_extract]
theorem ext_from (b r : List UInt8) (c : UInt8) : (⟨(b ++ c :: r).toArray⟩ : ByteArray).extract (b.length + 1) (⟨(b ++ c :: r).toArray⟩ : ByteArray).size = ⟨r.toArray⟩ := by
  apply ByteArray.ext
  have : (⟨(b ++ c :: r).toArray⟩ : ByteArray).size = b.length + 1 + r.length := by show (b ++ c :: r).toArray.size = _; simp; omega
  rw [this]
  simp [ByteArray.data_extract]
set_option maxHeartbeats 4000000 in
theorem cutIn_yes (b a : List UInt8) (hb : ∀ c ∈ b, c ≠ 46) (hl : b.length + 1 + a.length ≤ 1048576) (w : World) :
    Calls Tryd.prog 37 #[.string ⟨(b ++ 46 :: a).toArray⟩, .string { data := #[46] }] w fun e w' => e = .returned (.tuple #[.string ⟨b.toArray⟩, .string ⟨a.toArray⟩, .bool true]) ∧ Below w.heap.size w w' := by
  obtain ⟨m, hm⟩ : ∃ m : ByteArray, m = ⟨(b ++ 46 :: a).toArray⟩ := ⟨_, rfl⟩
  have hmz : m.size = b.length + 1 + a.length := by rw [hm]; show (b ++ 46 :: a).toArray.size = _; simp; omega
  have hix := fun w => Tryd.stringslite_Index_one m 46 w
  rw [show m.data.toList = b ++ 46 :: a by rw [hm], index_at a hb] at hix
  obtain ⟨p, hp⟩ : ∃ p, p = b.length := ⟨_, rfl⟩
  have k1 := sliceD_to m (p : Int) p rfl (by omega)
  have k2 := sliceD_from m ((p : Int) + 1) (p + 1) (by omega) (by omega)
  rw [show m.extract 0 p = ⟨b.toArray⟩ by rw [hm, hp]; exact ext_to _ _] at k1
  rw [show m.extract (p + 1) m.size = ⟨a.toArray⟩ by rw [hm, hp]; exact ext_from _ _ _] at k2
  rw [← hp] at hix
  have W1 : IntKind.i64.wrap ((p : Int) + 1) = (p : Int) + 1 := IntWalk.i64_in _ (by omega)
  rw [← hm]
  have HI := Lib.hid hix
  obtain ⟨B, hB⟩ : ∃ m : ByteArray, m = ⟨b.toArray⟩ := ⟨_, rfl⟩
  obtain ⟨A, hA⟩ : ∃ m : ByteArray, m = ⟨a.toArray⟩ := ⟨_, rfl⟩
  rw [← hB] at k1 ⊢
  rw [← hA] at k2 ⊢
  have hp2 : p ≤ 1048576 := by omega
  clear hix hm hmz hp hb hl hA hB
  go_enter Tryd.func37, Tryd.ntmps37
  go_wp2_with (go_at_call 55; ((with_reducible refine (HI.out _).mono ?_); rintro e w' ⟨rfl, rfl⟩))
  go_quiet (fail)
  go_wp2
  go_ret3
  exact ⟨rfl, by (repeat' (first | (with_reducible exact Below.refl _ _) | (with_reducible assumption) | (with_reducible refine Below.alloc ?_ ?_ _) | (with_reducible refine below_drewN ?_ _) | (with_reducible refine below_drew ?_) | (with_reducible refine below_ext ?_ ?_ _ _) | (with_reducible refine Below.setCell ?_ ?_ _) | (simp; done) | (simp; omega) | omega))⟩
set_option maxHeartbeats 4000000 in
theorem cutIn_no (b : List UInt8) (hb : ∀ c ∈ b, c ≠ 46) (w : World) :
    Calls Tryd.prog 37 #[.string ⟨b.toArray⟩, .string { data := #[46] }] w fun e w' => e = .returned (.tuple #[.string ⟨b.toArray⟩, .string { data := #[] }, .bool false]) ∧ Below w.heap.size w w' := by
  obtain ⟨m, hm⟩ : ∃ m : ByteArray, m = ⟨b.toArray⟩ := ⟨_, rfl⟩
  have hix := fun w => Tryd.stringslite_Index_one m 46 w
  rw [show m.data.toList = b by rw [hm], index_none hb] at hix
  rw [← hm]
  have HI := Lib.hid hix
  clear hix hm hb
  go_enter Tryd.func37, Tryd.ntmps37
  go_wp2_with (go_at_call 55; ((with_reducible refine (HI.out _).mono ?_); rintro e w' ⟨rfl, rfl⟩))
  go_ret3
  exact ⟨rfl, by (repeat' (first | (with_reducible exact Below.refl _ _) | (with_reducible assumption) | (with_reducible refine Below.alloc ?_ ?_ _) | (with_reducible refine below_drewN ?_ _) | (with_reducible refine below_drew ?_) | (with_reducible refine below_ext ?_ ?_ _ _) | (with_reducible refine Below.setCell ?_ ?_ _) | (simp; done) | (simp; omega) | omega))⟩
theorem cutS_any (pt : Bool) (m b a : List UInt8) (h : (pt = true ∧ m = b ++ 46 :: a) ∨ (pt = false ∧ m = b ∧ a = [])) (hb : ∀ c ∈ b, c ≠ 46) (hl : m.length ≤ 1048576) (w : World) :
    Calls Tryd.prog 29 #[.string ⟨m.toArray⟩, .string { data := #[46] }] w fun e w' => e = .returned (.tuple #[.string ⟨b.toArray⟩, .string ⟨a.toArray⟩, .bool pt]) ∧ Below w.heap.size w w' := by
  have hk : ∀ w, Calls Tryd.prog 37 #[.string ⟨m.toArray⟩, .string { data := #[46] }] w fun e w' => e = .returned (.tuple #[.string ⟨b.toArray⟩, .string ⟨a.toArray⟩, .bool pt]) ∧ Below w.heap.size w w' := by
    intro w
    rcases h with ⟨rfl, rfl⟩ | ⟨rfl, rfl, rfl⟩
    · exact cutIn_yes b a hb (by simp at hl; omega) w
    · exact cutIn_no m hb w
  have HK := Lib.hid hk
  obtain ⟨M, hM⟩ : ∃ x : ByteArray, x = ⟨m.toArray⟩ := ⟨_, rfl⟩
  obtain ⟨B, hB⟩ : ∃ x : ByteArray, x = ⟨b.toArray⟩ := ⟨_, rfl⟩
  obtain ⟨A, hA⟩ : ∃ x : ByteArray, x = ⟨a.toArray⟩ := ⟨_, rfl⟩
  rw [← hM, ← hB, ← hA] at HK ⊢
  clear hk h hb hl hM hB hA
  go_enter Tryd.func29, Tryd.ntmps29
  go_wp2_with (go_at_call 37; ((with_reducible refine (HK.out _).mono ?_); rintro e w1 ⟨rfl, hb1⟩; obtain ⟨osA, dA, rfl⟩ := ext_of_below hb1; clear hb1))
  go_ret3
  exact ⟨rfl, by (repeat' (first | (with_reducible exact Below.refl _ _) | (with_reducible assumption) | (with_reducible refine Below.alloc ?_ ?_ _) | (with_reducible refine below_drewN ?_ _) | (with_reducible refine below_drew ?_) | (with_reducible refine below_ext ?_ ?_ _ _) | (with_reducible refine Below.setCell ?_ ?_ _) | (simp; done) | (simp; omega) | omega))⟩
theorem prefix_any (l : List UInt8) (neg : Bool) (m : List UInt8) (h : (neg = true ∧ l = 45 :: m) ∨ (neg = false ∧ l = m ∧ m.head? ≠ some 45)) (w : World) :
    Calls Tryd.prog 28 #[.string ⟨l.toArray⟩, .string { data := #[45] }] w fun e w' => e = .returned (.tuple #[.string ⟨m.toArray⟩, .bool neg]) ∧ w = w' := by
  have hk := Tryd.strings_CutPrefix ⟨l.toArray⟩ { data := #[45] } w
  refine hk.mono ?_
  rintro e w' ⟨rfl, rfl⟩
  refine ⟨?_, rfl⟩
  have e1 : (⟨l.toArray⟩ : ByteArray).data.toList = l := rfl
  have e2 : ({ data := #[45] } : ByteArray).data.toList = [45] := rfl
  rw [e1, e2]
  rcases h with ⟨rfl, rfl⟩ | ⟨rfl, rfl, h2⟩
  · have h3 : Lib.hasPrefix (45 :: m) [45] = true := by simp [Lib.hasPrefix]
    unfold Lib.trimPrefix
    rw [if_pos h3, h3]; rfl
  · have h3 : Lib.hasPrefix l [45] = false := by
      cases l with
      | nil => rfl
      | cons c r =>
        have : (45 == c) = false := by
          simp only [List.head?_cons, ne_eq, Option.some.injEq] at h2
          simpa using fun e => h2 e.symm
        show (((45 : UInt8) == c) && ([] : List UInt8).isPrefixOf r) = false
        rw [this]; rfl
    unfold Lib.trimPrefix
    rw [h3]; rfl
end Go.Proofs.YtonajmngchfjeaaDoor
namespace Go.Proofs.YtonajmngchfjeaaDoor
open Go.RowKit Num Word
open Lib (trimLeftB trimRightB)
attribute [local go_sem] setCell_drewN cell?_ext frozen?_ext shape?_ext setCell_ext lt_1' ne_1' en_1' le_1' lt_2' ne_2' en_2' le_2' lt_3' ne_3' en_3' le_3' lt_4' ne_4' en_4' le_4' lt_5' ne_5' en_5' le_5' lt_6' ne_6' en_6' le_6' lt_7' ne_7' en_7' le_7' lt_8' ne_8' en_8' le_8' lt_9' ne_9' en_9' le_9' lt_10' ne_10' en_10' le_10' lt_11' ne_11' en_11' le_11' lt_12' ne_12' en_12' le_12'

theorem ret_po {n : Bool} {c S : Nat} {s e : Int} {o : POut} (h : o = ⟨n, c, S, e⟩) (hs : s = (S : Int)) : Ending.returned (.tuple #[D n c s, .int .i64 e]) = .returned (.tuple #[D o.neg o.c (o.s : Int), .int .i64 o.e]) := by
  subst h; subst hs; rfl
/-- what the first test asks of the part ahead of the point -/
theorem bef_ways (b : List UInt8) (B : ByteArray) (hB : B = ⟨b.toArray⟩) :
    (befOk b = false ∧ (digsB b = false ∨ (digsB b = true ∧ ∃ h : 1 < B.size, (((B[0]'(by omega)).toNat : Int) == 48) = true))) ∨
    (befOk b = true ∧ digsB b = true ∧ (¬ 1 < B.size ∨ ∃ h : 1 < B.size, (((B[0]'(by omega)).toNat : Int) == 48) = false)) := by
  have hz : B.size = b.length := by rw [hB]; show b.toArray.size = _; simp
  unfold befOk
  cases hd : digsB b with
  | false => exact .inl ⟨rfl, .inl rfl⟩
  | true =>
    rw [show (true && (decide (b.length ≤ 1) || decide (b.head? ≠ some 48))) = (decide (b.length ≤ 1) || decide (b.head? ≠ some 48)) from rfl]
    by_cases h1 : 1 < B.size
    · have h1' : ¬ b.length ≤ 1 := by omega
      have hb0 : b.head? = some (B[0]'(by omega)) := by
        cases b with
        | nil => simp at h1'
        | cons c r => subst hB; rfl
      by_cases h48 : B[0]'(by omega) = 48
      · refine .inl ⟨?_, .inr ⟨rfl, h1, by rw [h48]; rfl⟩⟩
        rw [hb0, h48, decide_eq_false h1', decide_eq_false (by simp)]; rfl
      · refine .inr ⟨?_, rfl, .inr ⟨h1, beq_eq_false_iff_ne.2 (fun e => h48 (UInt8.toNat_inj.1 (by have : (48 : UInt8).toNat = 48 := rfl; omega)))⟩⟩
        rw [hb0, decide_eq_true (show some (B[0]'(by omega)) ≠ some 48 from fun e => h48 (Option.some.inj e)), Bool.or_true]
    · refine .inr ⟨?_, rfl, .inl h1⟩
      rw [decide_eq_true (show b.length ≤ 1 by omega), Bool.true_or]
theorem trimRight_any (A : ByteArray) (hs : A.size ≤ 1048576) (w : World) :
    Calls Tryd.prog 31 #[.string A, .string { data := #[48] }] w fun e w' => e = .returned (.string ⟨(trimRightB A.data.toList 48).toArray⟩) ∧ w = w' :=
  (Tryd.strings_TrimRight_one A 48 (by decide) w (by omega)).mono fun _ _ h => ⟨h.1, h.2.symm⟩
theorem trimLeft_any (A : ByteArray) (w : World) :
    Calls Tryd.prog 32 #[.string A, .string { data := #[48] }] w fun e w' => e = .returned (.string ⟨(trimLeftB A.data.toList 48).toArray⟩) ∧ w = w' :=
  (Tryd.strings_TrimLeft_one A 48 (by decide) w).mono fun _ _ h => ⟨h.1, h.2.symm⟩
set_option maxRecDepth 100000 in
set_option maxHeartbeats 16000000 in
theorem parse_any (s : ByteArray) (hs : s.size ≤ 1048576) (neg pt : Bool) (m b a : List UInt8) (h : Lies s.data.toList neg pt m b a) (o : POut) (ho : o = pOut neg pt b a) (w : World) :
    Calls Tryd.prog 23 #[.string s] w fun e w' => e = .returned (.tuple #[D o.neg o.c (o.s : Int), .int .i64 o.e]) ∧ Below w.heap.size w w' := by
  obtain ⟨h1, h2, h3⟩ := h
  have hsz : s.data.toList.length = s.size := rfl
  have hml : m.length ≤ 1048576 := by
    rcases h1 with ⟨_, e⟩ | ⟨_, e, _⟩
    · have := congrArg List.length e; simp at this; omega
    · rw [← e]; omega
  have hba : b.length + a.length ≤ 1048576 := by
    rcases h2 with ⟨_, e⟩ | ⟨_, e, e2⟩
    · have := congrArg List.length e; simp at this; omega
    · rw [e2, ← e]; simpa using hml
  have H1 := fun w => prefix_any s.data.toList neg m h1 w
  rw [show (⟨s.data.toList.toArray⟩ : ByteArray) = s from rfl] at H1
  have H2 := fun w => cutS_any pt m b a h2 h3 hml w
  obtain ⟨M, hM⟩ : ∃ x : ByteArray, x = ⟨m.toArray⟩ := ⟨_, rfl⟩
  obtain ⟨B, hB⟩ : ∃ x : ByteArray, x = ⟨b.toArray⟩ := ⟨_, rfl⟩
  obtain ⟨A, hA⟩ : ∃ x : ByteArray, x = ⟨a.toArray⟩ := ⟨_, rfl⟩
  have hBz : B.size ≤ 1048576 := by rw [hB]; show b.toArray.size ≤ _; rw [List.size_toArray]; omega
  have hAz : A.size ≤ 1048576 := by rw [hA]; show a.toArray.size ≤ _; rw [List.size_toArray]; omega
  have H3 := fun w => isDigits_any B (by omega) w
  have H4 := fun w => isDigits_any A (by omega) w
  have H5 := fun w => trimRight_any A hAz w
  rw [show A.data.toList = a by rw [hA]] at H4 H5
  rw [show B.data.toList = b by rw [hB]] at H3
  rw [← hM] at H1 H2
  rw [← hB, ← hA] at H2
  have hways := bef_ways b B hB
  have hpa : pt = false → a = [] := fun hp => by
    rcases h2 with ⟨e, _⟩ | ⟨_, _, e⟩
    · rw [hp] at e; cases e
    · exact e
  have h1H := Lib.hid H1; have h2H := Lib.hid H2; have h5H := Lib.hid H5
  clear H1 H2 H5 h1 h2 h3 hM hml hsz
  rcases hways with ⟨hf, hd | ⟨hd, hlt, h48⟩⟩ | ⟨ht, hd, hfirst⟩
  · have HO := Lib.hid (ho.trans (pOut_bad (show partsOk pt b a = false by unfold partsOk; rw [hf]; rfl)))
    rw [hd] at H3
    have h3H := Lib.hid H3
    clear H3 H4 hf hd ho hB hA hpa
    go_enter Tryd.func23, Tryd.ntmps23
    go_wp2_with (first
      | (go_at_call 28; ((with_reducible refine (h1H.out _).mono ?_); rintro e w' ⟨rfl, rfl⟩))
      | (go_at_call 29; ((with_reducible refine (h2H.out _).mono ?_); rintro e w1 ⟨rfl, hb1⟩; obtain ⟨osB, dB, rfl⟩ := ext_of_below hb1; clear hb1))
      | (go_at_call 30; ((with_reducible refine (h3H.out _).mono ?_); rintro e w' ⟨rfl, rfl⟩)))
    go_returns
    exact ⟨ret_po (n := false) (c := 0) (s := 0) (e := 5) HO.out rfl, by (repeat' (first | (with_reducible exact Below.refl _ _) | (with_reducible assumption) | (with_reducible refine Below.alloc ?_ ?_ _) | (with_reducible refine below_drewN ?_ _) | (with_reducible refine below_drew ?_) | (with_reducible refine below_ext ?_ ?_ _ _) | (with_reducible refine Below.setCell ?_ ?_ _) | (simp; done) | (simp; omega) | omega))⟩
  · have HO := Lib.hid (ho.trans (pOut_bad (show partsOk pt b a = false by unfold partsOk; rw [hf]; rfl)))
    rw [hd] at H3
    have h3H := Lib.hid H3
    have hlti : (1 : Int) < B.size := by omega
    have hlt0 : 0 < B.size := by omega
    clear H3 H4 hf hd ho hB hA hpa
    go_enter Tryd.func23, Tryd.ntmps23
    go_wp2_with (first
      | (go_at_call 28; ((with_reducible refine (h1H.out _).mono ?_); rintro e w' ⟨rfl, rfl⟩))
      | (go_at_call 29; ((with_reducible refine (h2H.out _).mono ?_); rintro e w1 ⟨rfl, hb1⟩; obtain ⟨osB, dB, rfl⟩ := ext_of_below hb1; clear hb1))
      | (go_at_call 30; ((with_reducible refine (h3H.out _).mono ?_); rintro e w' ⟨rfl, rfl⟩)))
    go_returns
    exact ⟨ret_po (n := false) (c := 0) (s := 0) (e := 5) HO.out rfl, by (repeat' (first | (with_reducible exact Below.refl _ _) | (with_reducible assumption) | (with_reducible refine Below.alloc ?_ ?_ _) | (with_reducible refine below_drewN ?_ _) | (with_reducible refine below_drew ?_) | (with_reducible refine below_ext ?_ ?_ _ _) | (with_reducible refine Below.setCell ?_ ?_ _) | (simp; done) | (simp; omega) | omega))⟩
  · rw [hd] at H3
    have h3H := Lib.hid H3
    clear H3
    have hfirst' : ¬ (1 : Int) < B.size ∨ ∃ h : 1 < B.size, (1 : Int) < B.size ∧ (((B[0]'(by omega)).toNat : Int) == 48) = false := by
      rcases hfirst with h | ⟨h, h'⟩
      · exact .inl (by omega)
      · exact .inr ⟨h, by omega, h'⟩
    clear hfirst
    by_cases hbad : pt = true ∧ digsB a = false
    · obtain ⟨rfl, hd2⟩ := hbad
      have HO := Lib.hid (ho.trans (pOut_bad (show partsOk true b a = false by unfold partsOk; rw [ht, hd2]; rfl)))
      rw [hd2] at H4
      have h4H := Lib.hid H4
      clear H4 ho hd hd2 ht hB hA hpa
      rcases hfirst' with hlti | ⟨hlt, hlti, h48⟩
      all_goals
        go_enter Tryd.func23, Tryd.ntmps23
        go_wp2_with (first
          | (go_at_call 28; ((with_reducible refine (h1H.out _).mono ?_); rintro e w' ⟨rfl, rfl⟩))
          | (go_at_call 29; ((with_reducible refine (h2H.out _).mono ?_); rintro e w1 ⟨rfl, hb1⟩; obtain ⟨osB, dB, rfl⟩ := ext_of_below hb1; clear hb1))
          | (go_at_call 30; ((with_reducible refine (h3H.out _).mono ?_); rintro e w' ⟨rfl, rfl⟩))
          | (go_at_call 30; ((with_reducible refine (h4H.out _).mono ?_); rintro e w' ⟨rfl, rfl⟩)))
        go_returns
        exact ⟨ret_po (n := false) (c := 0) (s := 0) (e := 5) HO.out rfl, by (repeat' (first | (with_reducible exact Below.refl _ _) | (with_reducible assumption) | (with_reducible refine Below.alloc ?_ ?_ _) | (with_reducible refine below_drewN ?_ _) | (with_reducible refine below_drew ?_) | (with_reducible refine below_ext ?_ ?_ _ _) | (with_reducible refine Below.setCell ?_ ?_ _) | (simp; done) | (simp; omega) | omega))⟩
    · have hd2 : (pt = false ∧ a = []) ∨ (pt = true ∧ digsB a = true) := by
        cases hp : pt with
        | false => exact .inl ⟨rfl, hpa hp⟩
        | true =>
          refine .inr ⟨rfl, ?_⟩
          cases hx : digsB a with
          | true => rfl
          | false => exact absurd ⟨hp, hx⟩ hbad
      have hok : partsOk pt b a = true := by
        unfold partsOk
        rw [ht]
        rcases hd2 with ⟨e, _⟩ | ⟨_, e⟩
        · rw [e]; rfl
        · rw [e]; simp
      have hall : (b ++ trimRightB a 48).all isDg = true := by
        rw [List.all_append, (digsB_yes.1 hd).1, Bool.true_and]
        rcases hd2 with ⟨_, e⟩ | ⟨_, e⟩
        · rw [e]; rfl
        · exact trimR_all (digsB_yes.1 e).1
      obtain ⟨t1, t2, t3⟩ := trimL_facts hall
      rw [show valL (b ++ trimRightB a 48) = pV b a from rfl] at t1 t2 t3
      have hr := trimR_len a
      obtain ⟨A', hA'⟩ : ∃ x : ByteArray, x = ⟨(trimRightB a 48).toArray⟩ := ⟨_, rfl⟩
      have hAz' : A'.size = (trimRightB a 48).length := by rw [hA']; show (trimRightB a 48).toArray.size = _; simp
      have H6 := fun w => trimLeft_any (B ++ A') w
      rw [show (B ++ A').data.toList = b ++ trimRightB a 48 by rw [hB, hA']; simp] at H6
      rw [← hA'] at h5H
      obtain ⟨T, hT⟩ : ∃ x : ByteArray, x = ⟨(trimLeftB (b ++ trimRightB a 48) 48).toArray⟩ := ⟨_, rfl⟩
      have hTz : T.size = (trimLeftB (b ++ trimRightB a 48) 48).length := by rw [hT]; show (trimLeftB (b ++ trimRightB a 48) 48).toArray.size = _; simp
      have hTl : T.data.toList = trimLeftB (b ++ trimRightB a 48) 48 := by rw [hT]
      rw [← hT] at H6
      have h6H := Lib.hid H6
      have hAz2 : A'.size ≤ 1048576 := by omega
      have h4H : pt = false ∨ (pt = true ∧ Hid (∀ w, Calls Tryd.prog 30 #[.string A] w fun e w' => e = .returned (.bool true) ∧ w = w')) := by
        rcases hd2 with ⟨e, _⟩ | ⟨e, e2⟩
        · exact .inl e
        · rw [e2] at H4; exact .inr ⟨e, Lib.hid H4⟩
      clear H4 H6 hd2 hbad ht hd hB hA hA' hT hall
      by_cases h0 : pV b a = 0
      · have he : T.size = 0 := by rw [hTz, t2.2 h0]; rfl
        obtain ⟨n1, n2⟩ := bytes_no he
        have HO := Lib.hid (ho.trans (pOut_nought neg hok h0))
        clear t1 t2 t3 hr h0 ho hok hTz hTl hpa hAz'
        rcases h4H with rfl | ⟨rfl, h4H⟩
        all_goals
          cases neg
          all_goals
            rcases hfirst' with hlti | ⟨hlt, hlti, h48⟩
            all_goals
              go_enter Tryd.func23, Tryd.ntmps23
              go_wp2_with (first
                | (go_at_call 28; ((with_reducible refine (h1H.out _).mono ?_); rintro e w' ⟨rfl, rfl⟩))
                | (go_at_call 29; ((with_reducible refine (h2H.out _).mono ?_); rintro e w1 ⟨rfl, hb1⟩; obtain ⟨osB, dB, rfl⟩ := ext_of_below hb1; clear hb1))
                | (go_at_call 30; ((with_reducible refine (h3H.out _).mono ?_); rintro e w' ⟨rfl, rfl⟩))
                | (go_at_call 30; ((with_reducible refine (h4H.out _).mono ?_); rintro e w' ⟨rfl, rfl⟩))
                | (go_at_call 31; ((with_reducible refine (h5H.out _).mono ?_); rintro e w' ⟨rfl, rfl⟩))
                | (go_at_call 32; ((with_reducible refine (h6H.out _).mono ?_); rintro e w' ⟨rfl, rfl⟩)))
              go_returns
              first
                | exact ⟨ret_po (n := false) (c := 0) (s := 0) (e := 5) HO.out rfl, by (repeat' (first | (with_reducible exact Below.refl _ _) | (with_reducible assumption) | (with_reducible refine Below.alloc ?_ ?_ _) | (with_reducible refine below_drewN ?_ _) | (with_reducible refine below_drew ?_) | (with_reducible refine below_ext ?_ ?_ _ _) | (with_reducible refine Below.setCell ?_ ?_ _) | (simp; done) | (simp; omega) | omega))⟩
                | exact ⟨ret_po (n := false) (c := 0) (s := 0) (e := 0) HO.out rfl, by (repeat' (first | (with_reducible exact Below.refl _ _) | (with_reducible assumption) | (with_reducible refine Below.alloc ?_ ?_ _) | (with_reducible refine below_drewN ?_ _) | (with_reducible refine below_drew ?_) | (with_reducible refine below_ext ?_ ?_ _ _) | (with_reducible refine Below.setCell ?_ ?_ _) | (simp; done) | (simp; omega) | omega))⟩
      · have hne : trimLeftB (b ++ trimRightB a 48) 48 ≠ [] := fun e => h0 (t2.1 e)
        obtain ⟨t4, t5⟩ := t3 hne
        have hTp : 0 < T.size := by
          rw [hTz]
          rcases Nat.eq_zero_or_pos (trimLeftB (b ++ trimRightB a 48) 48).length with e | e
          · exact absurd (List.eq_nil_of_length_eq_zero e) hne
          · exact e
        obtain ⟨n1, n2⟩ := bytes_ne hTp
        have hTd : T.size = (dg (pV b a)).length := by rw [hTz, t5]
        by_cases hov : 18 < (trimRightB a 48).length ∨ 34 < (dg (pV b a)).length
        · have HO := Lib.hid (ho.trans (pOut_over (neg := neg) hok h0 hov))
          have hov' : (18 : Int) < A'.size ∨ (¬ (18 : Int) < A'.size ∧ (34 : Int) < T.size) := by omega
          clear t1 t2 t3 t4 t5 hr h0 ho hok hTz hTl hpa hAz' hne hTd hov
          rcases h4H with rfl | ⟨rfl, h4H⟩
          all_goals
            rcases hov' with ho1 | ⟨ho1, ho2⟩
            all_goals
              rcases hfirst' with hlti | ⟨hlt, hlti, h48⟩
              all_goals
                go_enter Tryd.func23, Tryd.ntmps23
                go_wp2_with (first
                  | (go_at_call 28; ((with_reducible refine (h1H.out _).mono ?_); rintro e w' ⟨rfl, rfl⟩))
                  | (go_at_call 29; ((with_reducible refine (h2H.out _).mono ?_); rintro e w1 ⟨rfl, hb1⟩; obtain ⟨osB, dB, rfl⟩ := ext_of_below hb1; clear hb1))
                  | (go_at_call 30; ((with_reducible refine (h3H.out _).mono ?_); rintro e w' ⟨rfl, rfl⟩))
                  | (go_at_call 30; ((with_reducible refine (h4H.out _).mono ?_); rintro e w' ⟨rfl, rfl⟩))
                  | (go_at_call 31; ((with_reducible refine (h5H.out _).mono ?_); rintro e w' ⟨rfl, rfl⟩))
                  | (go_at_call 32; ((with_reducible refine (h6H.out _).mono ?_); rintro e w' ⟨rfl, rfl⟩)))
                go_returns
                exact ⟨ret_po (n := false) (c := 0) (s := 0) (e := 3) HO.out rfl, by (repeat' (first | (with_reducible exact Below.refl _ _) | (with_reducible assumption) | (with_reducible refine Below.alloc ?_ ?_ _) | (with_reducible refine below_drewN ?_ _) | (with_reducible refine below_drew ?_) | (with_reducible refine below_ext ?_ ?_ _ _) | (with_reducible refine Below.setCell ?_ ?_ _) | (simp; done) | (simp; omega) | omega))⟩
        · have HO := Lib.hid (ho.trans (pOut_yes (neg := neg) hok h0 hov))
          have ho1 : ¬ (18 : Int) < A'.size := by omega
          have ho2 : ¬ (34 : Int) < T.size := by omega
          have hv34 : (dg (pV b a)).length ≤ 34 := by omega
          have hvl : pV b a < top2 := Nat.lt_trans (dg_len_le.1 hv34) (by decide)
          have H7 := fun w => read_any T (by omega) w
          rw [hTl] at H7
          obtain ⟨r1, r2⟩ := rd_yes t4 (show ¬ 39 < (trimLeftB (b ++ trimRightB a 48) 48).length by omega)
          rw [r1, r2, t1, show nw (pV b a) = pV b a from if_pos hvl, show ne (pV b a) = 0 from if_pos hvl] at H7
          obtain ⟨v, hv⟩ : ∃ v, v = pV b a := ⟨_, rfl⟩
          obtain ⟨z, hz⟩ : ∃ z, z = (trimRightB a 48).length := ⟨_, rfl⟩
          rw [← hv] at H7 HO
          rw [← hz] at HO hAz'
          have HZ := Lib.hid (show (A'.size : Int) = (z : Int) by omega)
          have h7H := Lib.hid H7
          clear t1 t2 t3 t4 t5 hr h0 ho hok hTz hTl hpa hAz' hne hTd hov hv34 hvl H7 r1 r2 hv hz
          rcases h4H with rfl | ⟨rfl, h4H⟩
          all_goals
            rcases hfirst' with hlti | ⟨hlt, hlti, h48⟩
            all_goals
              go_enter Tryd.func23, Tryd.ntmps23
              go_wp2_with (first
                | (go_at_call 28; ((with_reducible refine (h1H.out _).mono ?_); rintro e w' ⟨rfl, rfl⟩))
                | (go_at_call 29; ((with_reducible refine (h2H.out _).mono ?_); rintro e w1 ⟨rfl, hb1⟩; obtain ⟨osB, dB, rfl⟩ := ext_of_below hb1; clear hb1))
                | (go_at_call 30; ((with_reducible refine (h3H.out _).mono ?_); rintro e w' ⟨rfl, rfl⟩))
                | (go_at_call 30; ((with_reducible refine (h4H.out _).mono ?_); rintro e w' ⟨rfl, rfl⟩))
                | (go_at_call 31; ((with_reducible refine (h5H.out _).mono ?_); rintro e w' ⟨rfl, rfl⟩))
                | (go_at_call 32; ((with_reducible refine (h6H.out _).mono ?_); rintro e w' ⟨rfl, rfl⟩))
                | (go_at_call 33; ((with_reducible refine (h7H.out _).mono ?_); rintro e w1 ⟨rfl, hb1⟩; obtain ⟨osR, dR, rfl⟩ := ext_of_below hb1; clear hb1)))
              go_returns
              exact ⟨ret_po (n := neg) (c := v) (s := (A'.size : Int)) (e := 0) HO.out HZ.out, by (repeat' (first | (with_reducible exact Below.refl _ _) | (with_reducible assumption) | (with_reducible refine Below.alloc ?_ ?_ _) | (with_reducible refine below_drewN ?_ _) | (with_reducible refine below_drew ?_) | (with_reducible refine below_ext ?_ ?_ _ _) | (with_reducible refine Below.setCell ?_ ?_ _) | (simp; done) | (simp; omega) | omega))⟩
end Go.Proofs.YtonajmngchfjeaaDoor
