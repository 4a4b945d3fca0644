/-
  Unescape's machine as a function over lists, and what each of its labels stands for.
-/
import Derived.Test.YtgmfggflbcegjaaDoorEscF
namespace Go.Proofs.YtgmfggflbcegjaaDoor
open Go.RowKit Txt

/-- the digits of a reference and its semicolon: the number, and what stands behind -/
def num (base : Int) : Int → List UInt8 → Option (Int × List UInt8)
  | _, [] => none
  | code, c :: r => if dgt c.toNat < base then num base (min (code * base + dgt c.toNat) 1114112) r else if c = 59 ∧ okI code = true then some (code, r) else none
/-- what a reference behind its & stands for, and what stands behind it -/
def refr (r : List UInt8) : Option (List UInt8 × List UInt8) :=
  if Lib.hasPrefix r [35, 120] = true then (num 16 0 (r.drop 2)).map (fun p => (Lib.encodeRune p.1, p.2))
  else if Lib.hasPrefix r [35] = true then (num 10 0 (r.drop 1)).map (fun p => (Lib.encodeRune p.1, p.2))
  else if (nm r).2 = 0 then none else some ([(nm r).1], r.drop (nm r).2)
/-- the reading of a document's text, so many steps at the most -/
def une (attr : Bool) : Nat → List UInt8 → List UInt8 → Option (List UInt8)
  | 0, _, _ => none
  | _ + 1, [], acc => some acc
  | f + 1, c :: r, acc => if c = 60 then none else if c = 38 then (match refr r with | none => none | some p => une attr f p.2 (acc ++ p.1))
      else if c = 13 then une attr f r (if r.head? = some 10 then acc else acc ++ [bl attr 10]) else une attr f r (acc ++ [bl attr c])
theorem num_shorter (base : Int) : ∀ (l : List UInt8) (code : Int) (p : Int × List UInt8), num base code l = some p → p.2.length < l.length
  | [], _, _, h => by simp [num] at h
  | c :: r, code, p, h => by
    unfold num at h
    split at h
    · have := num_shorter base r _ p h
      simp; omega
    · split at h
      · cases h; simp
      · cases h
theorem num_min (base code : Int) (c : UInt8) (r : List UInt8) (h : dgt c.toNat < base) : num base code (c :: r) = num base (min (code * base + dgt c.toNat) 1114112) r := by rw [num, if_pos h]
theorem num_end (base code : Int) (c : UInt8) (r : List UInt8) (h : ¬ dgt c.toNat < base) (h2 : c = 59 ∧ okI code = true) : num base code (c :: r) = some (code, r) := by rw [num, if_neg h, if_pos h2]
theorem num_wrong (base code : Int) (c : UInt8) (r : List UInt8) (h : ¬ dgt c.toNat < base) (h2 : ¬ (c = 59 ∧ okI code = true)) : num base code (c :: r) = none := by rw [num, if_neg h, if_neg h2]
theorem num_nil (base code : Int) : num base code [] = none := rfl
theorem une_nil (attr : Bool) (f : Nat) (acc : List UInt8) : une attr (f + 1) [] acc = some acc := rfl
theorem une_less (attr : Bool) (f : Nat) (r acc : List UInt8) : une attr (f + 1) (60 :: r) acc = none := by rw [une, if_pos rfl]
theorem une_amp (attr : Bool) (f : Nat) (r acc : List UInt8) : une attr (f + 1) (38 :: r) acc = (match refr r with | none => none | some p => une attr f p.2 (acc ++ p.1)) := by
  rw [une, if_neg (by decide), if_pos rfl]
theorem une_line (attr : Bool) (f : Nat) (r acc : List UInt8) : une attr (f + 1) (13 :: r) acc = une attr f r (if r.head? = some 10 then acc else acc ++ [bl attr 10]) := by
  rw [une, if_neg (by decide), if_neg (by decide), if_pos rfl]
theorem une_other (attr : Bool) (f : Nat) (c : UInt8) (r acc : List UInt8) (h1 : ¬ c = 60) (h2 : ¬ c = 38) (h3 : ¬ c = 13) : une attr (f + 1) (c :: r) acc = une attr f r (acc ++ [bl attr c]) := by
  rw [une, if_neg h1, if_neg h2, if_neg h3]
theorem nm_size (l : List UInt8) : (nm l).2 ≤ l.length := by
  have hp : ∀ p : List UInt8, Lib.hasPrefix l p = true → p.length ≤ l.length := fun p h => (List.isPrefixOf_iff_prefix.1 h).length_le
  unfold nm
  repeat' split
  all_goals first | exact Nat.zero_le _ | (rename_i h; have := hp _ h; simpa using this)
theorem refr_shorter (r : List UInt8) (p : List UInt8 × List UInt8) (h : refr r = some p) : p.2.length ≤ r.length := by
  unfold refr at h
  split at h
  · cases hn : num 16 0 (r.drop 2) with
    | none => rw [hn] at h; cases h
    | some q => rw [hn] at h; cases h; have := num_shorter 16 _ _ _ hn; simp at this ⊢; omega
  split at h
  · cases hn : num 10 0 (r.drop 1) with
    | none => rw [hn] at h; cases h
    | some q => rw [hn] at h; cases h; have := num_shorter 10 _ _ _ hn; simp at this ⊢; omega
  split at h
  · cases h
  · cases h; simp
/-- steps enough are as good as more -/
theorem une_fuel (attr : Bool) : ∀ (f g : Nat) (l acc : List UInt8), l.length < f → l.length < g → une attr f l acc = une attr g l acc
  | 0, _, _, _, h, _ => by omega
  | _ + 1, 0, _, _, _, h => by omega
  | f + 1, g + 1, [], acc, _, _ => rfl
  | f + 1, g + 1, c :: r, acc, hf, hg => by
    simp only [List.length_cons] at hf hg
    have h1 := fun a => une_fuel attr f g r a (by omega) (by omega)
    unfold une
    rw [h1, h1]
    split
    · rfl
    split
    · cases hr : refr r with
      | none => rfl
      | some p =>
        have := refr_shorter r p hr
        exact une_fuel attr f g p.2 _ (by omega) (by omega)
    · rfl
end Go.Proofs.YtgmfggflbcegjaaDoor
