/-
  What the pieces of a text read as, by the program and by the document alike; what a text's tokens are.
-/
import Derived.Test.YtonajmngchfjeaaDoorBe
import Derived.Test.YtonajmngchfjeaaDoorDTxR
import Derived.Test.YtonajmngchfjeaaDoorBk
import Derived.Test.YtonajmngchfjeaaDoorLexC
import Derived.Test.YtonajmngchfjeaaDoorQuotesLaw
import Derived.Test.YtonajmngchfjeaaDoorNames
namespace Go.Proofs.YtonajmngchfjeaaDoor
open Go.RowKit Word Txt
open Lx (Tok)

theorem unq_len : ∀ (l : List UInt8) (e : Bool) (acc r : List UInt8), unq e l acc = some r → r.length ≤ acc.length + l.length
  | [], e, acc, r, h => by cases e <;> cases h
  | c :: l, false, acc, r, h => by
    rw [unq] at h
    by_cases h1 : c = 34
    · rw [if_pos h1] at h
      by_cases h2 : l = []
      · rw [if_pos h2] at h; cases h; omega
      · rw [if_neg h2] at h; cases h
    · rw [if_neg h1] at h
      by_cases h2 : c = 92
      · rw [if_pos h2] at h
        have := unq_len l true acc r h
        simp only [List.length_cons]; omega
      · rw [if_neg h2] at h
        by_cases h3 : sgn c = 0
        · rw [if_pos h3] at h
          have := unq_len l false (acc ++ [c]) r h
          simp only [List.length_cons, List.length_append, List.length_nil] at this ⊢; omega
        · rw [if_neg h3] at h; cases h
  | c :: l, true, acc, r, h => by
    rw [unq] at h
    by_cases h1 : mng c = 0
    · rw [if_pos h1] at h; cases h
    · rw [if_neg h1] at h
      have := unq_len l false (acc ++ [mng c]) r h
      simp only [List.length_cons, List.length_append, List.length_nil] at this ⊢; omega
theorem unX_len (s : ByteArray) (r : List UInt8) (h : unX s = some r) : r.length ≤ s.size := by
  unfold unX at h
  by_cases h2 : 2 ≤ s.size
  · rw [dif_pos h2] at h
    by_cases h3 : s[0] = 34
    · rw [if_pos h3] at h
      have := unq_len _ _ _ _ h
      rw [List.length_drop] at this
      have hz : s.data.toList.length = s.size := rfl
      simp at this; omega
    · rw [if_neg h3] at h; cases h
  · rw [dif_neg h2] at h; cases h
/-- what the pieces read as by the program -/
structure FOP (F : Lx.Fn) : Prop where
  num : ∀ x : List UInt8, x.length ≤ 1000 → ((F.num x).2.2.2 = 0 ∨ (F.num x).2.2.2 = 3 ∨ (F.num x).2.2.2 = 5) ∧ ∀ w, Calls Tryd.prog 23 #[.string ⟨x.toArray⟩] w fun r w' => r = .returned (.tuple #[D (F.num x).1 (F.num x).2.1 (F.num x).2.2.1, .int .i64 (F.num x).2.2.2]) ∧ Below w.heap.size w w'
  day : ∀ x : List UInt8, ((F.day x).2 = 0 ∨ (F.day x).2 = 5 ∨ (F.day x).2 = 17) ∧ ∀ w, Lens w → Calls Tryd.prog 35 #[.string ⟨x.toArray⟩] w fun r w' => r = .returned (.tuple #[.int .i64 (F.day x).1, .int .i64 (F.day x).2]) ∧ Below w.heap.size w w'
  uq : ∀ x : List UInt8, x.length ≤ 1000 → (F.uq x).1.length ≤ 1000 ∧ ∀ w, Tabs w → Calls Tryd.prog 25 #[.string ⟨x.toArray⟩] w fun r w' => r = .returned (.tuple #[.string ⟨(F.uq x).1.toArray⟩, .int .i64 (F.uq x).2]) ∧ Below w.heap.size w w'
  word : ∀ x, F.word x = isWord ⟨x.toArray⟩
  one : F.num [49] = (false, 1, 0, 0)
theorem lxdate_prog (s : ByteArray) : ∃ a e : Int, (e = 0 ∨ e = 5 ∨ e = 17) ∧ ∀ w, Lens w → Calls Tryd.prog 35 #[.string s] w fun x w' => x = .returned (.tuple #[.int .i64 a, .int .i64 e]) ∧ Below w.heap.size w w' := by
  by_cases h : IsD s
  · rcases day_or (py s) (pm s) (pd s) with g | ⟨g, -⟩ | ⟨n, g⟩
    · exact ⟨0, 17, .inr (.inr rfl), fun w hl => Parse_far s h (.inl g) w hl⟩
    · exact ⟨0, 17, .inr (.inr rfl), fun w hl => Parse_far s h g w hl⟩
    · exact ⟨n, 0, .inl rfl, fun w hl => Parse_yes s h n g w hl⟩
  · exact ⟨0, 5, .inr (.inl rfl), fun w _ => Parse_no s h w⟩
theorem lxquote_prog (s : ByteArray) (hs : s.size ≤ 1000) : ∃ (a : List UInt8) (e : Int), a.length ≤ 1000 ∧ ∀ w, Tabs w → Calls Tryd.prog 25 #[.string s] w fun x w' => x = .returned (.tuple #[.string ⟨a.toArray⟩, .int .i64 e]) ∧ Below w.heap.size w w' := by
  have h2 := fun w' (h : Tabs w') => unquote_any s (by omega) w' h
  cases ht : isText s with
  | false =>
    rw [ht] at h2
    exact ⟨[], 2, Nat.zero_le _, h2⟩
  | true =>
    rw [ht] at h2
    cases hu : unX s with
    | none =>
      rw [hu] at h2
      exact ⟨[], 5, Nat.zero_le _, h2⟩
    | some l =>
      rw [hu] at h2
      exact ⟨l, 0, Nat.le_trans (unX_len s l hu) hs, h2⟩
theorem lxnum_ways (sg pt : Bool) (b a : List UInt8) : (pOut sg pt b a).e = 0 ∨ (pOut sg pt b a).e = 3 ∨ (pOut sg pt b a).e = 5 := by
  unfold pOut
  split
  · split
    · split
      · exact .inr (.inr rfl)
      · exact .inl rfl
    · split
      · exact .inr (.inl rfl)
      · exact .inl rfl
  · exact .inr (.inr rfl)
theorem lxnum_one {sg pt : Bool} {m b a : List UInt8} (hl : Lies [49] sg pt m b a) : ((pOut sg pt b a).neg, (pOut sg pt b a).c, ((pOut sg pt b a).s : Int), (pOut sg pt b a).e) = (false, 1, 0, 0) := by
  obtain ⟨h1, h2, h3⟩ := hl
  rcases h1 with ⟨-, e⟩ | ⟨rfl, rfl, -⟩
  · injection e with e1 _; exact absurd e1 (by decide)
  rcases h2 with ⟨-, e⟩ | ⟨rfl, rfl, rfl⟩
  · cases b with
    | nil => injection e with e1 _; exact absurd e1 (by decide)
    | cons y b => injection e with _ e2; cases b <;> cases e2
  · have e : pOut false false [49] [] = ⟨false, pV [49] [], (Lib.trimRightB ([] : List UInt8) 48).length, 0⟩ := by
      have hv : pV [49] [] = 1 := by decide
      refine pOut_yes (by decide) (by rw [hv]; decide) ?_
      rintro (h | h)
      · exact absurd h (by decide)
      · rw [hv] at h
        exact absurd (Num.dg_len_lt.1 h) (by decide)
    rw [e]; rfl
theorem lxnum_prog (x : List UInt8) : ∃ q : Bool × Nat × Int × Int, (x.length ≤ 1000 → (q.2.2.2 = 0 ∨ q.2.2.2 = 3 ∨ q.2.2.2 = 5) ∧ ∀ w, Calls Tryd.prog 23 #[.string ⟨x.toArray⟩] w fun r w' => r = .returned (.tuple #[D q.1 q.2.1 q.2.2.1, .int .i64 q.2.2.2]) ∧ Below w.heap.size w w') ∧ (x = [49] → q = (false, 1, 0, 0)) := by
  obtain ⟨sg, pt, m, b, a, hl⟩ := lies x
  exact ⟨((pOut sg pt b a).neg, (pOut sg pt b a).c, ((pOut sg pt b a).s : Int), (pOut sg pt b a).e), fun hx => ⟨lxnum_ways sg pt b a, fun w => parse_any ⟨x.toArray⟩ (by rw [bsz]; omega) sg pt m b a hl _ rfl w⟩, by rintro rfl; exact lxnum_one hl⟩
theorem fop_ok : ∃ F, FOP F := by
  obtain ⟨f, hf⟩ := Classical.axiomOfChoice lxnum_prog
  have hd : ∀ x : List UInt8, ∃ q : Int × Int, (q.2 = 0 ∨ q.2 = 5 ∨ q.2 = 17) ∧ ∀ w, Lens w → Calls Tryd.prog 35 #[.string ⟨x.toArray⟩] w fun r w' => r = .returned (.tuple #[.int .i64 q.1, .int .i64 q.2]) ∧ Below w.heap.size w w' := fun x => by
    obtain ⟨a, e, h1, h2⟩ := lxdate_prog ⟨x.toArray⟩
    exact ⟨(a, e), h1, h2⟩
  obtain ⟨g, hg⟩ := Classical.axiomOfChoice hd
  have hu : ∀ x : List UInt8, ∃ q : List UInt8 × Int, x.length ≤ 1000 → q.1.length ≤ 1000 ∧ ∀ w, Tabs w → Calls Tryd.prog 25 #[.string ⟨x.toArray⟩] w fun r w' => r = .returned (.tuple #[.string ⟨q.1.toArray⟩, .int .i64 q.2]) ∧ Below w.heap.size w w' := fun x => by
    by_cases hx : x.length ≤ 1000
    · obtain ⟨a, e, h1, h2⟩ := lxquote_prog ⟨x.toArray⟩ (by rw [bsz]; exact hx)
      exact ⟨(a, e), fun _ => ⟨h1, h2⟩⟩
    · exact ⟨([], 0), fun h => absurd h hx⟩
  obtain ⟨u, hu⟩ := Classical.axiomOfChoice hu
  exact ⟨⟨f, u, g, fun x => isWord ⟨x.toArray⟩⟩, fun x hx => (hf x).1 hx, hg, hu, fun _ => rfl, (hf [49]).2 rfl⟩
/-- what a text's tokens are, and the error -/
def lexOut (F : Lx.Fn) (s : ByteArray) : List Tok × Int :=
  if 1000 < s.size then ([], 6) else if isText s = false then ([], 2) else
  match Lx.toks (Lx.one F) (s.size + 1) s.data.toList 0 [] false false with
  | none => ([], 5)
  | some (ts, ov, fr) => if ov = true then ([], 3) else if fr = true then ([], 17) else (ts, 0)
end Go.Proofs.YtonajmngchfjeaaDoor
