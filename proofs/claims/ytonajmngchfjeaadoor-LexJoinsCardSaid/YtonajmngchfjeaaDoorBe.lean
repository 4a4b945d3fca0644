/-
  Plain facts about the lexer's pieces: where numbers, names, quotes and signs end, on what is left of a text: no program stands in this text.
  The tokens of what is left, step by step: no program stands in this text.
  What is left to read, checked piece by piece: no program stands in this text.
  Where numbers and names go on: no program stands in this text.
-/
import Derived.Test.YtonajmngchfjeaaDoorRows
namespace Go.Proofs.YtonajmngchfjeaaDoor.Lx

def dg (c : UInt8) : Bool := decide (48 ≤ c.toNat ∧ c.toNat ≤ 57)
def lt (c : UInt8) : Bool := decide ((97 ≤ c.toNat ∧ c.toNat ≤ 122) ∨ (65 ≤ c.toNat ∧ c.toNat ≤ 90) ∨ c.toNat = 95)
def bl (c : UInt8) : Bool := decide (c.toNat = 32 ∨ c.toNat = 9 ∨ c.toNat = 10 ∨ c.toNat = 13)
/-- how many bytes ahead are so -/
def run (p : UInt8 → Bool) : List UInt8 → Nat
  | [] => 0
  | c :: r => if p c = true then run p r + 1 else 0
theorem run_le (p : UInt8 → Bool) : ∀ l, run p l ≤ l.length
  | [] => Nat.le_refl _
  | c :: r => by have := run_le p r; unfold run; split <;> simp <;> omega
theorem run_in (p : UInt8 → Bool) : ∀ (l : List UInt8) (j : Nat) (_ : j < run p l) (h2 : j < l.length), p l[j] = true
  | [], _, h, _ => absurd h (Nat.not_lt_zero _)
  | c :: r, j, h, h2 => by
    unfold run at h
    by_cases hc : p c = true
    · rw [if_pos hc] at h
      cases j with
      | zero => exact hc
      | succ j => exact run_in p r j (by omega) (by simpa using h2)
    · rw [if_neg hc] at h; cases h
theorem run_stop (p : UInt8 → Bool) : ∀ (l : List UInt8) (h : run p l < l.length), p l[run p l] = false
  | [], h => by cases h
  | c :: r, h => by
    by_cases hc : p c = true
    · have e : run p (c :: r) = run p r + 1 := by rw [run, if_pos hc]
      simp only [e, List.getElem_cons_succ]
      exact run_stop p r (by rw [e] at h; simpa using h)
    · have e : run p (c :: r) = 0 := by rw [run, if_neg hc]
      simp only [e, List.getElem_cons_zero]
      simpa using hc
/-- a run that has come so far goes on so far -/
theorem run_drop (p : UInt8 → Bool) : ∀ (l : List UInt8) (j : Nat), j ≤ run p l → run p (l.drop j) = run p l - j
  | l, 0, _ => by rw [List.drop_zero, Nat.sub_zero]
  | [], j + 1, h => by cases h
  | c :: r, j + 1, h => by
    by_cases hc : p c = true
    · have e : run p (c :: r) = run p r + 1 := by rw [run, if_pos hc]
      rw [List.drop_succ_cons, run_drop p r j (by omega), e]; omega
    · have e : run p (c :: r) = 0 := by rw [run, if_neg hc]
      omega
/-- the byte at a place, nought behind the end -/
def at0 (l : List UInt8) (j : Nat) : UInt8 := (l[j]?).getD 0
/-- how long a number is that begins ahead -/
def numLen (l : List UInt8) : Nat :=
  if at0 l (run dg l) = 46 ∧ dg (at0 l (run dg l + 1)) = true then run dg l + 1 + run dg (l.drop (run dg l + 1)) else run dg l
/-- how long a name is -/
def wordLen (l : List UInt8) : Nat := run (fun c => lt c || dg c) l
/-- how long what is quoted is, behind its first quote: with the quote at its end; none: it isn't closed. esc: the next byte counts for nothing -/
def quoRest : Bool → List UInt8 → Option Nat
  | _, [] => none
  | true, _ :: r => (quoRest false r).map (· + 1)
  | false, c :: r => if c = 92 then (quoRest true r).map (· + 1) else if c = 34 then some 1 else (quoRest false r).map (· + 1)
def quoLen : List UInt8 → Option Nat
  | [] => none
  | c :: r => if c = 34 then (quoRest false r).map (· + 1) else none
/-- is it a sign of one byte? -/
def sig1 (c : UInt8) : Bool := [40, 41, 91, 93, 123, 125, 44, 58, 46, 43, 45, 42, 47, 61, 60, 62].contains c
/-- are they a sign of two? -/
def sig2 (c d : UInt8) : Bool := (c == 46 && d == 46) || ((c == 33 || c == 60 || c == 62) && d == 61)
def sigLen : List UInt8 → Nat
  | c :: d :: _ => if sig2 c d = true then 2 else if sig1 c = true then 1 else 0
  | [c] => if sig1 c = true then 1 else 0
  | [] => 0
theorem sigLen_le (l : List UInt8) : sigLen l ≤ l.length := by
  match l with
  | [] => exact Nat.le_refl _
  | [c] =>
    show (if sig1 c = true then 1 else 0) ≤ 1
    split <;> omega
  | c :: d :: r =>
    show (if sig2 c d = true then 2 else if sig1 c = true then 1 else 0) ≤ r.length + 1 + 1
    split
    · omega
    · split <;> omega
theorem quoRest_le : ∀ (e : Bool) (l : List UInt8) (k : Nat), quoRest e l = some k → 0 < k ∧ k ≤ l.length
  | _, [], _, h => by cases h
  | true, c :: r, k, h => by
    rw [quoRest] at h
    obtain ⟨j, hj, rfl⟩ := Option.map_eq_some_iff.1 h
    have := quoRest_le false r j hj
    simp; omega
  | false, c :: r, k, h => by
    rw [quoRest] at h
    by_cases h1 : c = 92
    · rw [if_pos h1] at h
      obtain ⟨j, hj, rfl⟩ := Option.map_eq_some_iff.1 h
      have := quoRest_le true r j hj
      simp; omega
    · rw [if_neg h1] at h
      by_cases h2 : c = 34
      · rw [if_pos h2] at h; cases h; simp
      · rw [if_neg h2] at h
        obtain ⟨j, hj, rfl⟩ := Option.map_eq_some_iff.1 h
        have := quoRest_le false r j hj
        simp; omega
theorem quoLen_le {l : List UInt8} {k : Nat} (h : quoLen l = some k) : 2 ≤ k ∧ k ≤ l.length := by
  cases l with
  | nil => cases h
  | cons c r =>
    rw [quoLen] at h
    by_cases h1 : c = 34
    · rw [if_pos h1] at h
      obtain ⟨j, hj, rfl⟩ := Option.map_eq_some_iff.1 h
      have := quoRest_le false r j hj
      simp; omega
    · rw [if_neg h1] at h; cases h
theorem numLen_le (l : List UInt8) : numLen l ≤ l.length := by
  unfold numLen
  have h1 := run_le dg l
  split
  · rename_i h
    have h2 : run dg l < l.length := by
      rcases Nat.lt_or_ge (run dg l) l.length with h3 | h3
      · exact h3
      · have : at0 l (run dg l) = 0 := by unfold at0; rw [List.getElem?_eq_none h3]; rfl
        rw [this] at h; exact absurd h.1 (by decide)
    have h3 := run_le dg (l.drop (run dg l + 1))
    rw [List.length_drop] at h3
    omega
  · exact h1
/-- a token: its kind, its text, its number, its day -/
structure Tok where
  kind : Int
  text : List UInt8
  neg : Bool
  c : Nat
  s : Int
  day : Int
  at_ : Nat
/-- what begins ahead: the token (but for its place), its length, its error -/
structure One where
  tok : Tok
  len : Nat
  err : Int
/-- the tokens of what is left: fuel, what is left, its place, what has been read, too great, too far -/
def toks (one : List UInt8 → One) : Nat → List UInt8 → Nat → List Tok → Bool → Bool → Option (List Tok × Bool × Bool)
  | 0, _, _, acc, ov, fr => some (acc, ov, fr)
  | n + 1, l, p, acc, ov, fr => match l with
    | [] => some (acc, ov, fr)
    | c :: r => if bl c = true then toks one n r (p + 1) acc ov fr else
      if (one (c :: r)).err = 5 then none
      else toks one n ((c :: r).drop (one (c :: r)).len) (p + (one (c :: r)).len) (acc ++ [{ (one (c :: r)).tok with at_ := p }]) (ov || decide ((one (c :: r)).err = 3)) (fr || decide ((one (c :: r)).err = 17))
end Go.Proofs.YtonajmngchfjeaaDoor.Lx
namespace Go.Proofs.YtonajmngchfjeaaDoor.Lx

/-- what the pieces of a text read as: a number (sign, digits, scale, error), what is quoted (text, error), a date (day, error), is it a word -/
structure Fn where
  num : List UInt8 → Bool × Nat × Int × Int
  uq : List UInt8 → List UInt8 × Int
  day : List UInt8 → Int × Int
  word : List UInt8 → Bool
def noOne : One := ⟨⟨0, [], false, 0, 0, 0, 0⟩, 0, 5⟩
def numOne (F : Fn) (l : List UInt8) : One := ⟨⟨1, [], (F.num (l.take (numLen l))).1, (F.num (l.take (numLen l))).2.1, (F.num (l.take (numLen l))).2.2.1, 0, 0⟩, numLen l, (F.num (l.take (numLen l))).2.2.2⟩
def wordOne (F : Fn) (l : List UInt8) : One :=
  if wordLen l ≤ 64 then ⟨⟨if F.word (l.take (wordLen l)) = true then 5 else 4, l.take (wordLen l), false, 0, 0, 0, 0⟩, wordLen l, 0⟩ else noOne
def strOne (F : Fn) (l : List UInt8) : One := match quoLen l with
  | none => noOne
  | some k => if (F.uq (l.take k)).2 = 0 then ⟨⟨2, (F.uq (l.take k)).1, false, 0, 0, 0, 0⟩, k, 0⟩ else noOne
def dateOne (F : Fn) (l : List UInt8) : One := match quoLen l with
  | none => noOne
  | some k => if (F.uq (l.take k)).2 = 0 then ⟨⟨3, [], false, 0, 0, (F.day (F.uq (l.take k)).1).1, 0⟩, k + 1, (F.day (F.uq (l.take k)).1).2⟩ else noOne
def signOne (l : List UInt8) : One := if sigLen l = 0 then noOne else ⟨⟨6, l.take (sigLen l), false, 0, 0, 0, 0⟩, sigLen l, 0⟩
/-- what begins ahead -/
def one (F : Fn) : List UInt8 → One
  | [] => noOne
  | c :: r => if dg c = true then numOne F (c :: r) else if lt c = true then wordOne F (c :: r) else if c = 64 then dateOne F r else if c = 34 then strOne F (c :: r) else signOne (c :: r)
section
variable {F : Fn} {n : Nat} {l : List UInt8} {k : Nat} {acc : List Tok} {ov fr : Bool} {R : Option (List Tok × Bool × Bool)}
theorem toks_end (hn : l.length - k < n) (hk : ¬ k < l.length) (h : toks (one F) n (l.drop k) k acc ov fr = R) : R = some (acc, ov, fr) := by
  obtain ⟨m, rfl⟩ : ∃ m, n = m + 1 := ⟨n - 1, by omega⟩
  rw [List.drop_of_length_le (by omega)] at h
  exact h.symm
theorem toks_blank (hn : l.length - k < n) (hk : k < l.length) (hb : bl l[k] = true) (h : toks (one F) n (l.drop k) k acc ov fr = R) : ∃ m, l.length - (k + 1) < m ∧ toks (one F) m (l.drop (k + 1)) (k + 1) acc ov fr = R := by
  obtain ⟨m, rfl⟩ : ∃ m, n = m + 1 := ⟨n - 1, by omega⟩
  refine ⟨m, by omega, ?_⟩
  rw [List.drop_eq_getElem_cons hk, toks, if_pos hb] at h
  exact h
theorem toks_bad (hn : l.length - k < n) (hk : k < l.length) (hb : bl l[k] = false) (he : (one F (l.drop k)).err = 5) (h : toks (one F) n (l.drop k) k acc ov fr = R) : R = none := by
  obtain ⟨m, rfl⟩ : ∃ m, n = m + 1 := ⟨n - 1, by omega⟩
  rw [List.drop_eq_getElem_cons hk] at h he
  rw [toks, if_neg (by rw [hb]; decide), if_pos he] at h
  exact h.symm
theorem toks_one (hn : l.length - k < n) (hk : k < l.length) (hb : bl l[k] = false) (o : One) (ho : one F (l.drop k) = o) (he : o.err ≠ 5) (hl : 0 < o.len) (h : toks (one F) n (l.drop k) k acc ov fr = R) :
    ∃ m, l.length - (k + o.len) < m ∧ toks (one F) m (l.drop (k + o.len)) (k + o.len) (acc ++ [{ o.tok with at_ := k }]) (ov || decide (o.err = 3)) (fr || decide (o.err = 17)) = R := by
  obtain ⟨m, rfl⟩ : ∃ m, n = m + 1 := ⟨n - 1, by omega⟩
  refine ⟨m, by omega, ?_⟩
  subst ho
  rw [← List.drop_drop]
  rw [List.drop_eq_getElem_cons hk] at h he hl ⊢
  rw [toks, if_neg (by rw [hb]; decide), if_neg he] at h
  exact h
end
theorem one_num {F : Fn} {l : List UInt8} {k : Nat} (hk : k < l.length) (h : dg l[k] = true) : one F (l.drop k) = numOne F (l.drop k) := by
  rw [List.drop_eq_getElem_cons hk, one, if_pos h]
theorem one_word {F : Fn} {l : List UInt8} {k : Nat} (hk : k < l.length) (h1 : dg l[k] = false) (h : lt l[k] = true) : one F (l.drop k) = wordOne F (l.drop k) := by
  rw [List.drop_eq_getElem_cons hk, one, if_neg (by rw [h1]; decide), if_pos h]
theorem one_date {F : Fn} {l : List UInt8} {k : Nat} (hk : k < l.length) (h : l[k] = 64) : one F (l.drop k) = dateOne F (l.drop (k + 1)) := by
  rw [List.drop_eq_getElem_cons hk, one, if_neg (by rw [h]; decide), if_neg (by rw [h]; decide), if_pos h]
theorem one_str {F : Fn} {l : List UInt8} {k : Nat} (hk : k < l.length) (h : l[k] = 34) : one F (l.drop k) = strOne F (l.drop k) := by
  rw [List.drop_eq_getElem_cons hk, one, if_neg (by rw [h]; decide), if_neg (by rw [h]; decide), if_neg (by rw [h]; decide), if_pos h]
theorem one_sign {F : Fn} {l : List UInt8} {k : Nat} (hk : k < l.length) (h1 : dg l[k] = false) (h2 : lt l[k] = false) (h3 : l[k] ≠ 64) (h4 : l[k] ≠ 34) : one F (l.drop k) = signOne (l.drop k) := by
  rw [List.drop_eq_getElem_cons hk, one, if_neg (by rw [h1]; decide), if_neg (by rw [h2]; decide), if_neg h3, if_neg h4]
theorem at0_of {l : List UInt8} {k : Nat} (h : k < l.length) : at0 l k = l[k] := by
  unfold at0; rw [List.getElem?_eq_getElem h]; rfl
theorem at0_none {l : List UInt8} {k : Nat} (h : ¬ k < l.length) : at0 l k = 0 := by
  unfold at0; rw [List.getElem?_eq_none (by omega)]; rfl
theorem at0_drop (l : List UInt8) (b j : Nat) : at0 (l.drop b) j = at0 l (b + j) := by
  unfold at0; rw [List.getElem?_drop]
/-- inside a run the next byte is so exactly where the run goes on -/
theorem run_at0 (p : UInt8 → Bool) (hp : p 0 = false) (l : List UInt8) (j : Nat) (hj : j ≤ run p l) : p (at0 l j) = decide (j < run p l) := by
  have hl := run_le p l
  by_cases h : j < run p l
  · rw [decide_eq_true h, at0_of (by omega)]
    exact run_in p l j h (by omega)
  · rw [decide_eq_false h]
    obtain rfl : j = run p l := by omega
    by_cases h2 : run p l < l.length
    · rw [at0_of h2]; exact run_stop p l h2
    · rw [at0_none h2]; exact hp
theorem run_pos {p : UInt8 → Bool} {l : List UInt8} {k : Nat} (hk : k < l.length) (h : p l[k] = true) : 0 < run p (l.drop k) := by
  rw [List.drop_eq_getElem_cons hk, run, if_pos h]; exact Nat.succ_pos _
end Go.Proofs.YtonajmngchfjeaaDoor.Lx
namespace Go.Proofs.YtonajmngchfjeaaDoor.Lx

/-- what has been read, with what is left, comes to R -/
def Chk (F : Fn) (L : List UInt8) (R : Option (List Tok × Bool × Bool)) (b n : Nat) (ts : List Tok) (ov fr : Bool) : Prop :=
  toks (one F) n (L.drop b) b ts ov fr = R ∧ L.length - b < n ∧ ts.length ≤ b
theorem bl_dg {c : UInt8} (h : dg c = true) : bl c = false := by
  unfold dg at h; unfold bl; simp at h ⊢; omega
theorem bl_lt {c : UInt8} (h : lt c = true) : bl c = false := by
  unfold lt at h; unfold bl; simp at h ⊢; omega
theorem bl_at {c : UInt8} (h : c = 64) : bl c = false := by subst h; decide
theorem bl_qu {c : UInt8} (h : c = 34) : bl c = false := by subst h; decide
section
variable {F : Fn} {n : Nat} {L : List UInt8} {b : Nat} {ts : List Tok} {ov fr : Bool} {R : Option (List Tok × Bool × Bool)}
theorem Chk.stop (h : Chk F L R b n ts ov fr) (hb : ¬ b < L.length) : R = some (ts, ov, fr) := toks_end h.2.1 hb h.1
theorem Chk.blank (h : Chk F L R b n ts ov fr) (hb : b < L.length) (hc : bl L[b] = true) : ∃ m, Chk F L R (b + 1) m ts ov fr := by
  obtain ⟨m, h1, h2⟩ := toks_blank h.2.1 hb hc h.1
  exact ⟨m, h2, h1, Nat.le_succ_of_le h.2.2⟩
theorem Chk.bad (h : Chk F L R b n ts ov fr) (hb : b < L.length) (hc : bl L[b] = false) (he : (one F (L.drop b)).err = 5) : R = none := toks_bad h.2.1 hb hc he h.1
theorem Chk.good (h : Chk F L R b n ts ov fr) (hb : b < L.length) (hc : bl L[b] = false) (o : One) (ho : one F (L.drop b) = o) (he : o.err ≠ 5) (hl : 0 < o.len) :
    ∃ m, Chk F L R (b + o.len) m (ts ++ [{ o.tok with at_ := b }]) (ov || decide (o.err = 3)) (fr || decide (o.err = 17)) := by
  obtain ⟨m, h1, h2⟩ := toks_one h.2.1 hb hc o ho he hl h.1
  exact ⟨m, h2, h1, by have := h.2.2; rw [List.length_append]; simp only [List.length_cons, List.length_nil]; omega⟩
theorem numLen_pos {l : List UInt8} (h : 0 < run dg l) : 0 < numLen l := by
  unfold numLen; split <;> omega
theorem Chk.num_bad (h : Chk F L R b n ts ov fr) (hb : b < L.length) (hc : dg L[b] = true) (he : (F.num ((L.drop b).take (numLen (L.drop b)))).2.2.2 = 5) : R = none :=
  h.bad hb (bl_dg hc) (by rw [one_num hb hc]; exact he)
theorem Chk.num (h : Chk F L R b n ts ov fr) (hb : b < L.length) (hc : dg L[b] = true) (neg : Bool) (c : Nat) (sc e : Int) (hF : F.num ((L.drop b).take (numLen (L.drop b))) = (neg, c, sc, e)) (he : e = 0 ∨ e = 3) :
    ∃ m, Chk F L R (b + numLen (L.drop b)) m (ts ++ [⟨1, [], neg, c, sc, 0, b⟩]) (ov || decide (e = 3)) fr := by
  obtain ⟨m, hm⟩ := h.good hb (bl_dg hc) ⟨⟨1, [], neg, c, sc, 0, 0⟩, numLen (L.drop b), e⟩ ((one_num hb hc).trans (by unfold numOne; rw [hF])) (show e ≠ 5 by rcases he with rfl | rfl <;> decide) (numLen_pos (run_pos hb hc))
  refine ⟨m, ?_⟩
  rw [show decide (e = 17) = false by rcases he with rfl | rfl <;> rfl, Bool.or_false] at hm
  exact hm
theorem Chk.word_bad (h : Chk F L R b n ts ov fr) (hb : b < L.length) (hd : dg L[b] = false) (hc : lt L[b] = true) (he : ¬ wordLen (L.drop b) ≤ 64) : R = none :=
  h.bad hb (bl_lt hc) (by rw [one_word hb hd hc, wordOne, if_neg he]; rfl)
theorem word_pos (hb : b < L.length) (hc : lt L[b] = true) : 0 < wordLen (L.drop b) := run_pos hb (by simp [hc])
theorem Chk.word (h : Chk F L R b n ts ov fr) (hb : b < L.length) (hd : dg L[b] = false) (hc : lt L[b] = true) (he : wordLen (L.drop b) ≤ 64) :
    ∃ m, Chk F L R (b + wordLen (L.drop b)) m (ts ++ [⟨if F.word ((L.drop b).take (wordLen (L.drop b))) = true then 5 else 4, (L.drop b).take (wordLen (L.drop b)), false, 0, 0, 0, b⟩]) ov fr := by
  obtain ⟨m, hm⟩ := h.good hb (bl_lt hc) _ ((one_word hb hd hc).trans (by unfold wordOne; rw [if_pos he])) (show (0 : Int) ≠ 5 by decide) (word_pos hb hc)
  refine ⟨m, ?_⟩
  rw [show decide ((0 : Int) = 3) = false from rfl, show decide ((0 : Int) = 17) = false from rfl, Bool.or_false, Bool.or_false] at hm
  exact hm
theorem Chk.sign_bad (h : Chk F L R b n ts ov fr) (hb : b < L.length) (h0 : bl L[b] = false) (h1 : dg L[b] = false) (h2 : lt L[b] = false) (h3 : L[b] ≠ 64) (h4 : L[b] ≠ 34) (he : sigLen (L.drop b) = 0) : R = none :=
  h.bad hb h0 (by rw [one_sign hb h1 h2 h3 h4, signOne, if_pos he]; rfl)
theorem Chk.sign (h : Chk F L R b n ts ov fr) (hb : b < L.length) (h0 : bl L[b] = false) (h1 : dg L[b] = false) (h2 : lt L[b] = false) (h3 : L[b] ≠ 64) (h4 : L[b] ≠ 34) (he : sigLen (L.drop b) ≠ 0) :
    ∃ m, Chk F L R (b + sigLen (L.drop b)) m (ts ++ [⟨6, (L.drop b).take (sigLen (L.drop b)), false, 0, 0, 0, b⟩]) ov fr := by
  obtain ⟨m, hm⟩ := h.good hb h0 _ ((one_sign hb h1 h2 h3 h4).trans (by unfold signOne; rw [if_neg he])) (show (0 : Int) ≠ 5 by decide) (Nat.pos_of_ne_zero he)
  refine ⟨m, ?_⟩
  rw [show decide ((0 : Int) = 3) = false from rfl, show decide ((0 : Int) = 17) = false from rfl, Bool.or_false, Bool.or_false] at hm
  exact hm
theorem Chk.str_bad (h : Chk F L R b n ts ov fr) (hb : b < L.length) (hc : L[b] = 34) (he : ∀ k, quoLen (L.drop b) = some k → (F.uq ((L.drop b).take k)).2 ≠ 0) : R = none :=
  h.bad hb (bl_qu hc) (by
    rw [one_str hb hc, strOne]
    cases hq : quoLen (L.drop b) with
    | none => rfl
    | some k => show (if _ then _ else noOne : One).err = 5; rw [if_neg (he k hq)]; rfl)
theorem Chk.str (h : Chk F L R b n ts ov fr) (hb : b < L.length) (hc : L[b] = 34) (k : Nat) (hk : quoLen (L.drop b) = some k) (he : (F.uq ((L.drop b).take k)).2 = 0) :
    ∃ m, Chk F L R (b + k) m (ts ++ [⟨2, (F.uq ((L.drop b).take k)).1, false, 0, 0, 0, b⟩]) ov fr := by
  obtain ⟨m, hm⟩ := h.good hb (bl_qu hc) ⟨⟨2, (F.uq ((L.drop b).take k)).1, false, 0, 0, 0, 0⟩, k, 0⟩ ((one_str hb hc).trans (by unfold strOne; rw [hk]; exact if_pos he)) (show (0 : Int) ≠ 5 by decide) (show 0 < k by have := quoLen_le hk; omega)
  refine ⟨m, ?_⟩
  rw [show decide ((0 : Int) = 3) = false from rfl, show decide ((0 : Int) = 17) = false from rfl, Bool.or_false, Bool.or_false] at hm
  exact hm
theorem Chk.date_bad (h : Chk F L R b n ts ov fr) (hb : b < L.length) (hc : L[b] = 64) (he : ∀ k, quoLen (L.drop (b + 1)) = some k → (F.uq ((L.drop (b + 1)).take k)).2 = 0 → (F.day (F.uq ((L.drop (b + 1)).take k)).1).2 = 5) : R = none :=
  h.bad hb (bl_at hc) (by
    rw [one_date hb hc, dateOne]
    cases hq : quoLen (L.drop (b + 1)) with
    | none => rfl
    | some k =>
      show (if _ then _ else noOne : One).err = 5
      by_cases h0 : (F.uq ((L.drop (b + 1)).take k)).2 = 0
      · rw [if_pos h0]; exact he k hq h0
      · rw [if_neg h0]; rfl)
theorem Chk.date (h : Chk F L R b n ts ov fr) (hb : b < L.length) (hc : L[b] = 64) (k : Nat) (hk : quoLen (L.drop (b + 1)) = some k) (he : (F.uq ((L.drop (b + 1)).take k)).2 = 0) (day e : Int) (hF : F.day (F.uq ((L.drop (b + 1)).take k)).1 = (day, e)) (h2 : e = 0 ∨ e = 17) :
    ∃ m, Chk F L R (b + (k + 1)) m (ts ++ [⟨3, [], false, 0, 0, day, b⟩]) ov (fr || decide (e = 17)) := by
  obtain ⟨m, hm⟩ := h.good hb (bl_at hc) ⟨⟨3, [], false, 0, 0, day, 0⟩, k + 1, e⟩ ((one_date hb hc).trans (by unfold dateOne; rw [hk]; show (if _ then _ else noOne : One) = _; rw [if_pos he, hF])) (show e ≠ 5 by rcases h2 with rfl | rfl <;> decide) (Nat.succ_pos _)
  refine ⟨m, ?_⟩
  rw [show decide (e = 3) = false by rcases h2 with rfl | rfl <;> rfl, Bool.or_false] at hm
  exact hm
end
end Go.Proofs.YtonajmngchfjeaaDoor.Lx
namespace Go.Proofs.YtonajmngchfjeaaDoor.Lx

theorem dg0 : dg 0 = false := by decide
theorem lg0 : (fun c => lt c || dg c) 0 = false := by decide
section
variable {L : List UInt8} {b k : Nat}
theorem whole_on (h1 : b ≤ k) (h2 : k < b + run dg (L.drop b)) : dg (at0 L (k + 1)) = decide (k + 1 < b + run dg (L.drop b)) := by
  have h := run_at0 dg dg0 (L.drop b) (k + 1 - b) (by omega)
  rw [at0_drop, show b + (k + 1 - b) = k + 1 by omega] at h
  rw [h]
  congr 1
  exact propext ⟨fun h => by omega, fun h => by omega⟩
theorem name_on (h1 : b ≤ k) (h2 : k < b + wordLen (L.drop b)) : (lt (at0 L (k + 1)) || dg (at0 L (k + 1))) = decide (k + 1 < b + wordLen (L.drop b)) := by
  have h := run_at0 (fun c => lt c || dg c) lg0 (L.drop b) (k + 1 - b) (by unfold wordLen at h2; omega)
  rw [at0_drop, show b + (k + 1 - b) = k + 1 by omega] at h
  unfold wordLen
  refine h.trans ?_
  congr 1
  exact propext ⟨fun h => by omega, fun h => by omega⟩
theorem num_dot (h1 : k + 1 = b + run dg (L.drop b)) (h2 : at0 L (k + 1) = 46) (h3 : dg (at0 L (k + 1 + 1)) = true) : k + 1 < b + numLen (L.drop b) := by
  have e : numLen (L.drop b) = run dg (L.drop b) + 1 + run dg ((L.drop b).drop (run dg (L.drop b) + 1)) := by
    unfold numLen
    rw [if_pos]
    rw [at0_drop, at0_drop, ← h1, show b + (run dg (L.drop b) + 1) = k + 1 + 1 by omega]
    exact ⟨h2, h3⟩
  omega
theorem num_end (h1 : k + 1 = b + run dg (L.drop b)) (h2 : ¬ (at0 L (k + 1) = 46 ∧ dg (at0 L (k + 1 + 1)) = true)) : k + 1 = b + numLen (L.drop b) := by
  have e : numLen (L.drop b) = run dg (L.drop b) := by
    unfold numLen
    rw [if_neg]
    rw [at0_drop, at0_drop, ← h1, show b + (run dg (L.drop b) + 1) = k + 1 + 1 by omega]
    exact h2
  omega
theorem frac_on (h1 : b + run dg (L.drop b) ≤ k) (h2 : k < b + numLen (L.drop b)) : dg (at0 L (k + 1)) = decide (k + 1 < b + numLen (L.drop b)) := by
  have e : numLen (L.drop b) = run dg (L.drop b) + 1 + run dg ((L.drop b).drop (run dg (L.drop b) + 1)) := by
    unfold numLen at h2 ⊢
    split
    · rfl
    · rename_i hn; rw [if_neg hn] at h2; omega
  have h := run_at0 dg dg0 ((L.drop b).drop (run dg (L.drop b) + 1)) (k + 1 - (b + (run dg (L.drop b) + 1))) (by omega)
  rw [at0_drop, at0_drop, show b + (run dg (L.drop b) + 1 + (k + 1 - (b + (run dg (L.drop b) + 1)))) = k + 1 by omega] at h
  rw [h]
  congr 1
  exact propext ⟨fun h => by omega, fun h => by omega⟩
theorem num_in : b + numLen (L.drop b) ≤ L.length ∨ L.length < b := by
  have := numLen_le (L.drop b); rw [List.length_drop] at this; omega
theorem word_in : b + wordLen (L.drop b) ≤ L.length ∨ L.length < b := by
  have := run_le (fun c => lt c || dg c) (L.drop b); rw [List.length_drop] at this; unfold wordLen; omega
theorem whole_num (h : run dg (L.drop b) ≤ numLen (L.drop b)) (x : Nat) (hx : x < b + run dg (L.drop b)) : x < b + numLen (L.drop b) := by omega
theorem quo_E (h : k < L.length) (hc : L[k] = 34) : (quoRest false (L.drop (k + 1))).map (· + (k + 1)) = (quoLen (L.drop k)).map (· + k) := by
  rw [List.drop_eq_getElem_cons h, quoLen, if_pos hc]
  cases quoRest false (L.drop (k + 1)) with
  | none => rfl
  | some y => simp only [Option.map_some]; congr 1; omega
theorem quo_no (h : at0 L k ≠ 34) : quoLen (L.drop k) = none := by
  by_cases hk : k < L.length
  · rw [List.drop_eq_getElem_cons hk, quoLen, if_neg (by rw [← at0_of hk]; exact h)]
  · rw [List.drop_of_length_le (by omega)]; rfl
theorem run_num (l : List UInt8) : run dg l ≤ numLen l := by unfold numLen; split <;> omega
end
end Go.Proofs.YtonajmngchfjeaaDoor.Lx
