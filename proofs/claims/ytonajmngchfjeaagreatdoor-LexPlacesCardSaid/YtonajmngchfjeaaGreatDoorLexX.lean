/-
  What is true of the tokens of every text: they lie one behind the other within it, names are names, words are words.
-/
import Derived.Test.YtonajmngchfjeaaGreatDoorLexN
import Derived.Test.YtonajmngchfjeaaGreatDoorNames
namespace Go.Proofs.YtonajmngchfjeaaGreatDoor
open Go.RowKit Word Txt
open Lx (Tok)

/-- a token as it may be -/
def GT (t : Tok) : Prop := (t.kind = 1 ∨ t.kind = 2 ∨ t.kind = 3 ∨ t.kind = 4 ∨ t.kind = 5 ∨ t.kind = 6) ∧ (t.kind = 4 → IsName ⟨t.text.toArray⟩) ∧ (t.kind = 5 → isWord ⟨t.text.toArray⟩ = true)
/-- tokens ahead of a place, one behind the other -/
def GTs (ts : List Tok) (p : Nat) : Prop := (∀ t ∈ ts, GT t ∧ t.at_ < p) ∧ ts.Pairwise (fun a b => a.at_ < b.at_)
theorem GTs.snoc {ts : List Tok} {p q : Nat} (h : GTs ts p) {t : Tok} (ht : GT t) (hp : t.at_ = p) (hq : p < q) : GTs (ts ++ [t]) q := by
  refine ⟨fun x hx => ?_, ?_⟩
  · rcases List.mem_append.1 hx with hx | hx
    · exact ⟨(h.1 x hx).1, Nat.lt_trans (h.1 x hx).2 hq⟩
    · rw [List.mem_singleton] at hx; subst hx; exact ⟨ht, by omega⟩
  · rw [List.pairwise_append]
    refine ⟨h.2, List.pairwise_singleton _ _, fun a ha b hb => ?_⟩
    rw [List.mem_singleton] at hb; subst hb
    rw [hp]; exact (h.1 a ha).2
theorem GTs.more {ts : List Tok} {p q : Nat} (h : GTs ts p) (hq : p ≤ q) : GTs ts q := ⟨fun t ht => ⟨(h.1 t ht).1, Nat.lt_of_lt_of_le (h.1 t ht).2 hq⟩, h.2⟩
theorem word_GT {F : Lx.Fn} (hF : FOP F) {L : List UInt8} {k : Nat} (hk : k < L.length) (h2 : Lx.lt L[k] = true) (he : (Lx.wordOne F (L.drop k)).err ≠ 5) (p : Nat) : GT { (Lx.wordOne F (L.drop k)).tok with at_ := p } := by
  unfold Lx.wordOne at he ⊢
  by_cases hw : Lx.wordLen (L.drop k) ≤ 64
  · rw [if_pos hw]
    rw [hF.word]
    have hpos := Lx.word_pos hk h2
    have hle := Lx.run_le (fun c => Lx.lt c || Lx.dg c) (L.drop k)
    have hin := Lx.run_in (fun c => Lx.lt c || Lx.dg c) (L.drop k)
    have hlen : ((L.drop k).take (Lx.wordLen (L.drop k))).length = Lx.wordLen (L.drop k) := by rw [List.length_take]; unfold Lx.wordLen; omega
    cases hb : isWord ⟨((L.drop k).take (Lx.wordLen (L.drop k))).toArray⟩ with
    | true =>
      rw [if_pos rfl]
      exact ⟨.inr (.inr (.inr (.inr (.inl rfl)))), (fun e => absurd (show (5 : Int) = 4 from e) (by decide)), fun _ => hb⟩
    | false =>
      rw [if_neg (by decide)]
      refine ⟨.inr (.inr (.inr (.inl rfl))), (fun _ => ?_), (fun e => absurd (show (4 : Int) = 5 from e) (by decide))⟩
      have hsz : (⟨((L.drop k).take (Lx.wordLen (L.drop k))).toArray⟩ : ByteArray).size = Lx.wordLen (L.drop k) := by rw [bsz, hlen]
      have hget : ∀ i (hi : i < Lx.wordLen (L.drop k)), (⟨((L.drop k).take (Lx.wordLen (L.drop k))).toArray⟩ : ByteArray).get! i = (L.drop k)[i]'(by unfold Lx.wordLen at hi; omega) := fun i hi => by
        rw [get_of _ i (by rw [hsz]; exact hi)]
        show ((L.drop k).take (Lx.wordLen (L.drop k))).toArray[i]'_ = _
        simp
      refine ⟨by rw [hsz]; exact hpos, by rw [hsz]; exact hw, hb, ?_, fun i hi => ?_⟩
      · rw [hget 0 hpos]
        have : (L.drop k)[0]'(by rw [List.length_drop]; omega) = L[k] := by simp
        rw [this]; exact h2
      · rw [hsz] at hi
        rw [hget i hi]
        exact hin i hi _
  · rw [if_neg hw] at he; exact absurd rfl he
theorem one_GT {F : Lx.Fn} (hF : FOP F) {L : List UInt8} {k : Nat} (hk : k < L.length) (he : (Lx.one F (L.drop k)).err ≠ 5) (p : Nat) : GT { (Lx.one F (L.drop k)).tok with at_ := p } := by
  cases h1 : Lx.dg L[k] with
  | true =>
    rw [Lx.one_num hk h1]
    exact ⟨.inl rfl, (fun e => absurd (show (1 : Int) = 4 from e) (by decide)), (fun e => absurd (show (1 : Int) = 5 from e) (by decide))⟩
  | false =>
    cases h2 : Lx.lt L[k] with
    | true =>
      rw [Lx.one_word hk h1 h2] at he ⊢
      exact word_GT hF hk h2 he p
    | false =>
      by_cases h3 : L[k] = 64
      · rw [Lx.one_date hk h3] at he ⊢
        unfold Lx.dateOne at he ⊢
        cases hq : Lx.quoLen (L.drop (k + 1)) with
        | none => rw [hq] at he; exact absurd rfl he
        | some j =>
          rw [hq] at he
          by_cases hu : (F.uq ((L.drop (k + 1)).take j)).2 = 0
          · show GT { (if _ then _ else Lx.noOne : Lx.One).tok with at_ := p }
            rw [if_pos hu]
            exact ⟨.inr (.inr (.inl rfl)), (fun e => absurd (show (3 : Int) = 4 from e) (by decide)), (fun e => absurd (show (3 : Int) = 5 from e) (by decide))⟩
          · exact absurd (show (if _ then _ else Lx.noOne : Lx.One).err = 5 by rw [if_neg hu]; rfl) he
      · by_cases h4 : L[k] = 34
        · rw [Lx.one_str hk h4] at he ⊢
          unfold Lx.strOne at he ⊢
          cases hq : Lx.quoLen (L.drop k) with
          | none => rw [hq] at he; exact absurd rfl he
          | some j =>
            rw [hq] at he
            by_cases hu : (F.uq ((L.drop k).take j)).2 = 0
            · show GT { (if _ then _ else Lx.noOne : Lx.One).tok with at_ := p }
              rw [if_pos hu]
              exact ⟨.inr (.inl rfl), (fun e => absurd (show (2 : Int) = 4 from e) (by decide)), (fun e => absurd (show (2 : Int) = 5 from e) (by decide))⟩
            · exact absurd (show (if _ then _ else Lx.noOne : Lx.One).err = 5 by rw [if_neg hu]; rfl) he
        · rw [Lx.one_sign hk h1 h2 h3 h4] at he ⊢
          unfold Lx.signOne at he ⊢
          by_cases hs : Lx.sigLen (L.drop k) = 0
          · rw [if_pos hs] at he; exact absurd rfl he
          · rw [if_neg hs]
            exact ⟨.inr (.inr (.inr (.inr (.inr rfl)))), (fun e => absurd (show (6 : Int) = 4 from e) (by decide)), (fun e => absurd (show (6 : Int) = 5 from e) (by decide))⟩
theorem toks_GT {F : Lx.Fn} (hF : FOP F) (L : List UInt8) : ∀ (n k : Nat) (acc : List Tok) (ov fr : Bool) (r : List Tok × Bool × Bool), k ≤ L.length → GTs acc k → Lx.toks (Lx.one F) n (L.drop k) k acc ov fr = some r → GTs r.1 L.length
  | 0, k, acc, _, _, r, hk, hg, h => by rw [Lx.toks] at h; cases h; exact hg.more hk
  | n + 1, k, acc, ov, fr, r, hk, hg, h => by
    by_cases hlt : k < L.length
    · have hd := List.drop_eq_getElem_cons hlt
      cases hb : Lx.bl L[k] with
      | true =>
        rw [hd, Lx.toks, if_pos hb] at h
        exact toks_GT hF L n (k + 1) acc ov fr r hlt (hg.more (Nat.le_succ k)) h
      | false =>
        by_cases he : (Lx.one F (L.drop k)).err = 5
        · rw [hd] at he h; rw [Lx.toks, if_neg (by rw [hb]; decide), if_pos he] at h; cases h
        · have hp := one_pos hlt he
          have hi := one_in F L k hlt he
          have hG := one_GT hF hlt he k
          rw [hd] at h
          rw [Lx.toks, if_neg (by rw [hb]; decide), if_neg (by rw [← hd]; exact he), ← hd, List.drop_drop] at h
          exact toks_GT hF L n _ _ _ _ r hi (hg.snoc hG rfl (by omega)) h
    · rw [List.drop_of_length_le (by omega), Lx.toks] at h
      cases h
      exact hg.more hk
theorem lexOut_GT {F : Lx.Fn} (hF : FOP F) (s : ByteArray) : GTs (lexOut F s).1 s.size := by
  have h0 : GTs [] s.size := ⟨fun t ht => (by cases ht), List.Pairwise.nil⟩
  unfold lexOut
  by_cases h : 1000 < s.size
  · rw [if_pos h]; exact h0
  · rw [if_neg h]
    split
    · exact h0
    · split
      · exact h0
      · rename_i ts ov fr e
        split
        · exact h0
        · split
          · exact h0
          · have := toks_GT hF s.data.toList (s.size + 1) 0 [] false false (ts, ov, fr) (Nat.zero_le _) ⟨fun t ht => (by cases ht), List.Pairwise.nil⟩ (by rw [List.drop_zero]; exact e)
            exact this
theorem lexOut_err {F : Lx.Fn} (s : ByteArray) (h : (lexOut F s).2 ≠ 0) : (lexOut F s).1 = [] := by
  unfold lexOut at h ⊢
  by_cases h1 : 1000 < s.size
  · rw [if_pos h1]
  · rw [if_neg h1] at h ⊢
    split
    · rfl
    · rename_i h2
      rw [if_neg h2] at h
      split
      · rfl
      · rename_i ts ov fr e
        rw [e] at h
        split
        · rfl
        · rename_i h3
          split
          · rfl
          · rename_i h4
            exact absurd (show (if ov = true then (([] : List Tok), (3 : Int)) else if fr = true then ([], 17) else (ts, 0)).2 = 0 by rw [if_neg h3, if_neg h4]) h
/-- the place of the token ahead, -1 ahead of the first one -/
def lastZ (ts : List Tok) (i : Nat) : Int := if i = 0 then -1 else (((ts[i - 1]?).map (·.at_)).getD 0 : Nat)
theorem lastZ_lt {ts : List Tok} {p : Nat} (h : GTs ts p) (i : Nat) (hi : i < ts.length) : lastZ ts i < (ts[i].at_ : Int) := by
  unfold lastZ
  by_cases h0 : i = 0
  · rw [if_pos h0]; omega
  · rw [if_neg h0, List.getElem?_eq_getElem (show i - 1 < ts.length by omega)]
    have := List.pairwise_iff_getElem.1 h.2 (i - 1) i (by omega) hi (by omega)
    show ((ts[i - 1].at_ : Nat) : Int) < _
    omega
theorem lastZ_succ {ts : List Tok} (i : Nat) (hi : i < ts.length) : lastZ ts (i + 1) = (ts[i].at_ : Int) := by
  unfold lastZ
  rw [if_neg (by omega), show i + 1 - 1 = i by omega, List.getElem?_eq_getElem hi]
  rfl
end Go.Proofs.YtonajmngchfjeaaGreatDoor
