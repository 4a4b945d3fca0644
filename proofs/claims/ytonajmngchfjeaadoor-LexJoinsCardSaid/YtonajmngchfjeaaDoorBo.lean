/-
  What is true of the tokens of every text: they lie one behind the other within it, names are names, words are words.
  The tokens of texts that are put together with a blank between: no program stands in this text, but for the texts' own check.
-/
import Derived.Test.YtonajmngchfjeaaDoorLexN
import Derived.Test.YtonajmngchfjeaaDoorNames
namespace Go.Proofs.YtonajmngchfjeaaDoor
open Go.RowKit Word Txt
open Lx (Tok)

/-- a token as it may be -/
def GT (t : Tok) : Prop := (t.kind = 1 ∨ t.kind = 2 ∨ t.kind = 3 ∨ t.kind = 4 ∨ t.kind = 5 ∨ t.kind = 6) ∧ (t.kind = 4 → IsName ⟨t.text.toArray⟩) ∧ (t.kind = 5 → isWord ⟨t.text.toArray⟩ = true)
/-- tokens ahead of a place, one behind the other -/
def GTs (ts : List Tok) (p : Nat) : Prop := (∀ t ∈ ts, GT t ∧ t.at_ < p) ∧ ts.Pairwise (fun a b => a.at_ < b.at_)
theorem GTs.snoc {ts : List Tok} {p q : Nat} (h : GTs ts p) {t : Tok} (ht : GT t) (hp : t.at_ = p) (hq : p < q) : GTs (ts ++ [t]) q := by
  refine ⟨fun x hx => ?_, ?_⟩
  · rcases List.mem_append.1 hx with hx | hx
    · exact ⟨(h.1 x hx).1, Nat.lt_trans (h.1 x hx).2 hq⟩
    · rw [List.mem_singleton] at hx; subst hx; exact ⟨ht, by omega⟩
  · rw [List.pairwise_append]
    refine ⟨h.2, List.pairwise_singleton _ _, fun a ha b hb => ?_⟩
    rw [List.mem_singleton] at hb; subst hb
    rw [hp]; exact (h.1 a ha).2
theorem GTs.more {ts : List Tok} {p q : Nat} (h : GTs ts p) (hq : p ≤ q) : GTs ts q := ⟨fun t ht => ⟨(h.1 t ht).1, Nat.lt_of_lt_of_le (h.1 t ht).2 hq⟩, h.2⟩
theorem word_GT {F : Lx.Fn} (hF : FOP F) {L : List UInt8} {k : Nat} (hk : k < L.length) (h2 : Lx.lt L[k] = true) (he : (Lx.wordOne F (L.drop k)).err ≠ 5) (p : Nat) : GT { (Lx.wordOne F (L.drop k)).tok with at_ := p } := by
  unfold Lx.wordOne at he ⊢
  by_cases hw : Lx.wordLen (L.drop k) ≤ 64
  · rw [if_pos hw]
    rw [hF.word]
    have hpos := Lx.word_pos hk h2
    have hle := Lx.run_le (fun c => Lx.lt c || Lx.dg c) (L.drop k)
    have hin := Lx.run_in (fun c => Lx.lt c || Lx.dg c) (L.drop k)
    have hlen : ((L.drop k).take (Lx.wordLen (L.drop k))).length = Lx.wordLen (L.drop k) := by rw [List.length_take]; unfold Lx.wordLen; omega
    cases hb : isWord ⟨((L.drop k).take (Lx.wordLen (L.drop k))).toArray⟩ with
    | true =>
      rw [if_pos rfl]
      exact ⟨.inr (.inr (.inr (.inr (.inl rfl)))), (fun e => absurd (show (5 : Int) = 4 from e) (by decide)), fun _ => hb⟩
    | false =>
      rw [if_neg (by decide)]
      refine ⟨.inr (.inr (.inr (.inl rfl))), (fun _ => ?_), (fun e => absurd (show (4 : Int) = 5 from e) (by decide))⟩
      have hsz : (⟨((L.drop k).take (Lx.wordLen (L.drop k))).toArray⟩ : ByteArray).size = Lx.wordLen (L.drop k) := by rw [bsz, hlen]
      have hget : ∀ i (hi : i < Lx.wordLen (L.drop k)), (⟨((L.drop k).take (Lx.wordLen (L.drop k))).toArray⟩ : ByteArray).get! i = (L.drop k)[i]'(by unfold Lx.wordLen at hi; omega) := fun i hi => by
        rw [get_of _ i (by rw [hsz]; exact hi)]
        show ((L.drop k).take (Lx.wordLen (L.drop k))).toArray[i]'_ = _
        simp
      refine ⟨by rw [hsz]; exact hpos, by rw [hsz]; exact hw, hb, ?_, fun i hi => ?_⟩
      · rw [hget 0 hpos]
        have : (L.drop k)[0]'(by rw [List.length_drop]; omega) = L[k] := by simp
        rw [this]; exact h2
      · rw [hsz] at hi
        rw [hget i hi]
        exact hin i hi _
  · rw [if_neg hw] at he; exact absurd rfl he
theorem one_GT {F : Lx.Fn} (hF : FOP F) {L : List UInt8} {k : Nat} (hk : k < L.length) (he : (Lx.one F (L.drop k)).err ≠ 5) (p : Nat) : GT { (Lx.one F (L.drop k)).tok with at_ := p } := by
  cases h1 : Lx.dg L[k] with
  | true =>
    rw [Lx.one_num hk h1]
    exact ⟨.inl rfl, (fun e => absurd (show (1 : Int) = 4 from e) (by decide)), (fun e => absurd (show (1 : Int) = 5 from e) (by decide))⟩
  | false =>
    cases h2 : Lx.lt L[k] with
    | true =>
      rw [Lx.one_word hk h1 h2] at he ⊢
      exact word_GT hF hk h2 he p
    | false =>
      by_cases h3 : L[k] = 64
      · rw [Lx.one_date hk h3] at he ⊢
        unfold Lx.dateOne at he ⊢
        cases hq : Lx.quoLen (L.drop (k + 1)) with
        | none => rw [hq] at he; exact absurd rfl he
        | some j =>
          rw [hq] at he
          by_cases hu : (F.uq ((L.drop (k + 1)).take j)).2 = 0
          · show GT { (if _ then _ else Lx.noOne : Lx.One).tok with at_ := p }
            rw [if_pos hu]
            exact ⟨.inr (.inr (.inl rfl)), (fun e => absurd (show (3 : Int) = 4 from e) (by decide)), (fun e => absurd (show (3 : Int) = 5 from e) (by decide))⟩
          · exact absurd (show (if _ then _ else Lx.noOne : Lx.One).err = 5 by rw [if_neg hu]; rfl) he
      · by_cases h4 : L[k] = 34
        · rw [Lx.one_str hk h4] at he ⊢
          unfold Lx.strOne at he ⊢
          cases hq : Lx.quoLen (L.drop k) with
          | none => rw [hq] at he; exact absurd rfl he
          | some j =>
            rw [hq] at he
            by_cases hu : (F.uq ((L.drop k).take j)).2 = 0
            · show GT { (if _ then _ else Lx.noOne : Lx.One).tok with at_ := p }
              rw [if_pos hu]
              exact ⟨.inr (.inl rfl), (fun e => absurd (show (2 : Int) = 4 from e) (by decide)), (fun e => absurd (show (2 : Int) = 5 from e) (by decide))⟩
            · exact absurd (show (if _ then _ else Lx.noOne : Lx.One).err = 5 by rw [if_neg hu]; rfl) he
        · rw [Lx.one_sign hk h1 h2 h3 h4] at he ⊢
          unfold Lx.signOne at he ⊢
          by_cases hs : Lx.sigLen (L.drop k) = 0
          · rw [if_pos hs] at he; exact absurd rfl he
          · rw [if_neg hs]
            exact ⟨.inr (.inr (.inr (.inr (.inr rfl)))), (fun e => absurd (show (6 : Int) = 4 from e) (by decide)), (fun e => absurd (show (6 : Int) = 5 from e) (by decide))⟩
theorem toks_GT {F : Lx.Fn} (hF : FOP F) (L : List UInt8) : ∀ (n k : Nat) (acc : List Tok) (ov fr : Bool) (r : List Tok × Bool × Bool), k ≤ L.length → GTs acc k → Lx.toks (Lx.one F) n (L.drop k) k acc ov fr = some r → GTs r.1 L.length
  | 0, k, acc, _, _, r, hk, hg, h => by rw [Lx.toks] at h; cases h; exact hg.more hk
  | n + 1, k, acc, ov, fr, r, hk, hg, h => by
    by_cases hlt : k < L.length
    · have hd := List.drop_eq_getElem_cons hlt
      cases hb : Lx.bl L[k] with
      | true =>
        rw [hd, Lx.toks, if_pos hb] at h
        exact toks_GT hF L n (k + 1) acc ov fr r hlt (hg.more (Nat.le_succ k)) h
      | false =>
        by_cases he : (Lx.one F (L.drop k)).err = 5
        · rw [hd] at he h; rw [Lx.toks, if_neg (by rw [hb]; decide), if_pos he] at h; cases h
        · have hp := one_pos hlt he
          have hi := one_in F L k hlt he
          have hG := one_GT hF hlt he k
          rw [hd] at h
          rw [Lx.toks, if_neg (by rw [hb]; decide), if_neg (by rw [← hd]; exact he), ← hd, List.drop_drop] at h
          exact toks_GT hF L n _ _ _ _ r hi (hg.snoc hG rfl (by omega)) h
    · rw [List.drop_of_length_le (by omega), Lx.toks] at h
      cases h
      exact hg.more hk
theorem lexOut_GT {F : Lx.Fn} (hF : FOP F) (s : ByteArray) : GTs (lexOut F s).1 s.size := by
  have h0 : GTs [] s.size := ⟨fun t ht => (by cases ht), List.Pairwise.nil⟩
  unfold lexOut
  by_cases h : 1000 < s.size
  · rw [if_pos h]; exact h0
  · rw [if_neg h]
    split
    · exact h0
    · split
      · exact h0
      · rename_i ts ov fr e
        split
        · exact h0
        · split
          · exact h0
          · have := toks_GT hF s.data.toList (s.size + 1) 0 [] false false (ts, ov, fr) (Nat.zero_le _) ⟨fun t ht => (by cases ht), List.Pairwise.nil⟩ (by rw [List.drop_zero]; exact e)
            exact this
theorem lexOut_err {F : Lx.Fn} (s : ByteArray) (h : (lexOut F s).2 ≠ 0) : (lexOut F s).1 = [] := by
  unfold lexOut at h ⊢
  by_cases h1 : 1000 < s.size
  · rw [if_pos h1]
  · rw [if_neg h1] at h ⊢
    split
    · rfl
    · rename_i h2
      rw [if_neg h2] at h
      split
      · rfl
      · rename_i ts ov fr e
        rw [e] at h
        split
        · rfl
        · rename_i h3
          split
          · rfl
          · rename_i h4
            exact absurd (show (if ov = true then (([] : List Tok), (3 : Int)) else if fr = true then ([], 17) else (ts, 0)).2 = 0 by rw [if_neg h3, if_neg h4]) h
/-- the place of the token ahead, -1 ahead of the first one -/
def lastZ (ts : List Tok) (i : Nat) : Int := if i = 0 then -1 else (((ts[i - 1]?).map (·.at_)).getD 0 : Nat)
theorem lastZ_lt {ts : List Tok} {p : Nat} (h : GTs ts p) (i : Nat) (hi : i < ts.length) : lastZ ts i < (ts[i].at_ : Int) := by
  unfold lastZ
  by_cases h0 : i = 0
  · rw [if_pos h0]; omega
  · rw [if_neg h0, List.getElem?_eq_getElem (show i - 1 < ts.length by omega)]
    have := List.pairwise_iff_getElem.1 h.2 (i - 1) i (by omega) hi (by omega)
    show ((ts[i - 1].at_ : Nat) : Int) < _
    omega
theorem lastZ_succ {ts : List Tok} (i : Nat) (hi : i < ts.length) : lastZ ts (i + 1) = (ts[i].at_ : Int) := by
  unfold lastZ
  rw [if_neg (by omega), show i + 1 - 1 = i by omega, List.getElem?_eq_getElem hi]
  rfl
end Go.Proofs.YtonajmngchfjeaaDoor
namespace Go.Proofs.YtonajmngchfjeaaDoor.Lx
open Go.RowKit

/-- nothing, or something that begins with a blank -/
def BlankY (y : List UInt8) : Prop := y = [] ∨ ∃ c x, y = c :: x ∧ bl c = true
theorem bl_facts {c : UInt8} (h : bl c = true) : dg c = false ∧ lt c = false ∧ c ≠ 46 ∧ c ≠ 61 := by
  have h2 : c.toNat = 32 ∨ c.toNat = 9 ∨ c.toNat = 10 ∨ c.toNat = 13 := of_decide_eq_true h
  refine ⟨?_, ?_, ?_, ?_⟩
  · unfold dg; exact decide_eq_false (by omega)
  · unfold lt; exact decide_eq_false (by omega)
  · rintro rfl; have : (46 : UInt8).toNat = 46 := rfl; omega
  · rintro rfl; have : (61 : UInt8).toNat = 61 := rfl; omega
theorem run_app (p : UInt8 → Bool) {y : List UInt8} (hy : y = [] ∨ ∃ c x, y = c :: x ∧ p c = false) : ∀ l, run p (l ++ y) = run p l
  | [] => by
    rcases hy with rfl | ⟨c, x, rfl, hc⟩
    · rfl
    · show (if p c = true then _ else 0) = 0
      rw [if_neg (by rw [hc]; decide)]
  | c :: r => by
    show (if p c = true then run p (r ++ y) + 1 else 0) = if p c = true then run p r + 1 else 0
    rw [run_app p hy r]
theorem at0_app {l y : List UInt8} {j : Nat} (h : j < l.length) : at0 (l ++ y) j = at0 l j := by
  unfold at0; rw [List.getElem?_append_left h]
theorem at0_app_end {l y : List UInt8} (hy : BlankY y) (j : Nat) (h : j = l.length) : at0 (l ++ y) j = 0 ∨ bl (at0 (l ++ y) j) = true := by
  subst h
  unfold at0
  rw [List.getElem?_append_right (Nat.le_refl _), Nat.sub_self]
  rcases hy with rfl | ⟨c, x, rfl, hc⟩
  · exact .inl rfl
  · exact .inr hc
theorem numLen_app {l y : List UInt8} (hy : BlankY y) : numLen (l ++ y) = numLen l := by
  have hr : run dg (l ++ y) = run dg l := run_app dg (hy.imp id (fun ⟨c, x, e, h⟩ => ⟨c, x, e, (bl_facts h).1⟩)) l
  have hle := run_le dg l
  unfold numLen
  rw [hr]
  by_cases h1 : run dg l < l.length
  · rw [at0_app h1]
    by_cases h2 : at0 l (run dg l) = 46
    · by_cases h3 : run dg l + 1 < l.length
      · rw [at0_app h3]
        have hd : (l ++ y).drop (run dg l + 1) = l.drop (run dg l + 1) ++ y := by rw [List.drop_append_of_le_length (by omega)]
        rw [hd, run_app dg (hy.imp id (fun ⟨c, x, e, h⟩ => ⟨c, x, e, (bl_facts h).1⟩))]
      · have e0 : at0 l (run dg l + 1) = 0 := at0_none (by omega)
        have e1 : dg (at0 (l ++ y) (run dg l + 1)) = false := by
          rcases at0_app_end (l := l) hy (run dg l + 1) (by omega) with h | h
          · rw [h]; decide
          · exact (bl_facts h).1
        rw [if_neg (by rw [e1]; intro h; exact absurd h.2 (by decide)), if_neg (by rw [e0]; intro h; exact absurd h.2 (by decide))]
    · rw [if_neg (fun h => h2 h.1), if_neg (fun h => h2 h.1)]
  · have e0 : at0 l (run dg l) = 0 := at0_none (by omega)
    have e1 : at0 (l ++ y) (run dg l) ≠ 46 := by
      rcases at0_app_end (l := l) hy (run dg l) (by omega) with h | h
      · rw [h]; decide
      · exact (bl_facts h).2.2.1
    rw [if_neg (fun h => e1 h.1), if_neg (by rw [e0]; intro h; exact absurd h.1 (by decide))]
theorem wordLen_app {l y : List UInt8} (hy : BlankY y) : wordLen (l ++ y) = wordLen l :=
  run_app _ (hy.imp id (fun ⟨c, x, e, h⟩ => ⟨c, x, e, by rw [(bl_facts h).1, (bl_facts h).2.1]; rfl⟩)) l
theorem quoRest_app (y : List UInt8) : ∀ (e : Bool) (l : List UInt8) (k : Nat), quoRest e l = some k → quoRest e (l ++ y) = some k
  | _, [], _, h => by cases h
  | true, c :: r, k, h => by
    rw [quoRest] at h
    obtain ⟨j, hj, rfl⟩ := Option.map_eq_some_iff.1 h
    show (quoRest false (r ++ y)).map (· + 1) = _
    rw [quoRest_app y false r j hj]; rfl
  | false, c :: r, k, h => by
    rw [quoRest] at h
    show (if c = 92 then (quoRest true (r ++ y)).map (· + 1) else if c = 34 then some 1 else (quoRest false (r ++ y)).map (· + 1)) = _
    by_cases h1 : c = 92
    · rw [if_pos h1] at h ⊢
      obtain ⟨j, hj, rfl⟩ := Option.map_eq_some_iff.1 h
      rw [quoRest_app y true r j hj]; rfl
    · rw [if_neg h1] at h ⊢
      by_cases h2 : c = 34
      · rw [if_pos h2] at h ⊢; exact h
      · rw [if_neg h2] at h ⊢
        obtain ⟨j, hj, rfl⟩ := Option.map_eq_some_iff.1 h
        rw [quoRest_app y false r j hj]; rfl
theorem quoLen_app (y : List UInt8) {l : List UInt8} {k : Nat} (h : quoLen l = some k) : quoLen (l ++ y) = some k := by
  cases l with
  | nil => cases h
  | cons c r =>
    rw [quoLen] at h
    show (if c = 34 then (quoRest false (r ++ y)).map (· + 1) else none) = _
    by_cases h1 : c = 34
    · rw [if_pos h1] at h ⊢
      obtain ⟨j, hj, rfl⟩ := Option.map_eq_some_iff.1 h
      rw [quoRest_app y false r j hj]; rfl
    · rw [if_neg h1] at h; cases h
theorem sigLen_app {l y : List UInt8} (hy : BlankY y) (hl : l ≠ []) : sigLen (l ++ y) = sigLen l := by
  match l, hl with
  | [c], _ =>
    rcases hy with rfl | ⟨d, x, rfl, hd⟩
    · rfl
    · show (if sig2 c d = true then 2 else if sig1 c = true then 1 else 0) = if sig1 c = true then 1 else 0
      have h := bl_facts hd
      have : sig2 c d = false := by
        unfold sig2
        have h1 : (d == 46) = false := by simpa using h.2.2.1
        have h2 : (d == 61) = false := by simpa using h.2.2.2
        rw [h1, h2, Bool.and_false, Bool.and_false]; rfl
      rw [if_neg (by rw [this]; decide)]
  | c :: d :: r, _ => rfl
theorem take_app {l y : List UInt8} {n : Nat} (h : n ≤ l.length) : (l ++ y).take n = l.take n := by rw [List.take_append_of_le_length h]
theorem one_app {F : Fn} {l y : List UInt8} (hy : BlankY y) (hl : l ≠ []) (he : (one F l).err ≠ 5) : one F (l ++ y) = one F l := by
  cases l with
  | nil => exact absurd rfl hl
  | cons c r =>
    have hnum : numOne F ((c :: r) ++ y) = numOne F (c :: r) := by
      unfold numOne; rw [numLen_app hy, take_app (numLen_le _)]
    have hword : wordOne F ((c :: r) ++ y) = wordOne F (c :: r) := by
      unfold wordOne; rw [wordLen_app hy, take_app (show wordLen (c :: r) ≤ (c :: r).length from run_le _ _)]
    have hsign : signOne ((c :: r) ++ y) = signOne (c :: r) := by
      unfold signOne; rw [sigLen_app hy hl, take_app (sigLen_le _)]
    rw [one] at he ⊢
    show (if dg c = true then numOne F ((c :: r) ++ y) else if lt c = true then wordOne F ((c :: r) ++ y) else if c = 64 then dateOne F (r ++ y) else if c = 34 then strOne F ((c :: r) ++ y) else signOne ((c :: r) ++ y)) = _
    by_cases h1 : dg c = true
    · rw [if_pos h1, if_pos h1, hnum]
    · rw [if_neg h1] at he; rw [if_neg h1, if_neg h1]
      by_cases h2 : lt c = true
      · rw [if_pos h2, if_pos h2, hword]
      · rw [if_neg h2] at he; rw [if_neg h2, if_neg h2]
        by_cases h3 : c = 64
        · rw [if_pos h3] at he; rw [if_pos h3, if_pos h3]
          unfold dateOne at he ⊢
          cases hq : quoLen r with
          | none => rw [hq] at he; exact absurd rfl he
          | some k => rw [quoLen_app y hq]; show (if _ then _ else noOne : One) = if _ then _ else noOne; rw [take_app (quoLen_le hq).2]
        · rw [if_neg h3] at he; rw [if_neg h3, if_neg h3]
          by_cases h4 : c = 34
          · rw [if_pos h4] at he; rw [if_pos h4, if_pos h4]
            unfold strOne at he ⊢
            cases hq : quoLen (c :: r) with
            | none => rw [hq] at he; exact absurd rfl he
            | some k => rw [quoLen_app y hq]; show (if _ then _ else noOne : One) = if _ then _ else noOne; rw [take_app (quoLen_le hq).2]
          · rw [if_neg h4, if_neg h4, hsign]
/-- tokens that lie so much further on -/
def shift (d : Nat) (ts : List Tok) : List Tok := ts.map fun t => { t with at_ := t.at_ + d }
theorem toks_app {F : Fn} {y : List UInt8} (hy : BlankY y) : ∀ (n : Nat) (l : List UInt8) (k : Nat) (acc : List Tok) (ov fr : Bool) (ts : List Tok) (ov' fr' : Bool), l.length < n → toks (one F) n l k acc ov fr = some (ts, ov', fr') →
    ∃ new, ts = acc ++ new ∧ ∀ (N d : Nat) (acc' : List Tok), (l ++ y).length < N → ∃ M, y.length < M ∧ toks (one F) N (l ++ y) (k + d) acc' ov fr = toks (one F) M y (k + d + l.length) (acc' ++ shift d new) ov' fr'
  | 0, l, _, _, _, _, _, _, _, h, _ => by omega
  | n + 1, [], k, acc, ov, fr, ts, ov', fr', _, h => by
    rw [toks] at h
    cases h
    refine ⟨[], (List.append_nil _).symm, fun N d acc' hN => ⟨N, hN, ?_⟩⟩
    rw [show shift d [] = [] from rfl, List.append_nil]
    rfl
  | n + 1, c :: r, k, acc, ov, fr, ts, ov', fr', hn, h => by
    have hlen : (c :: r).length = r.length + 1 := rfl
    by_cases hb : bl c = true
    · rw [toks, if_pos hb] at h
      obtain ⟨new, h1, h2⟩ := toks_app hy n r (k + 1) acc ov fr ts ov' fr' (by omega) h
      refine ⟨new, h1, fun N d acc' hN => ?_⟩
      obtain ⟨N', rfl⟩ : ∃ N', N = N' + 1 := ⟨N - 1, by omega⟩
      obtain ⟨M, h3, h4⟩ := h2 N' d acc' (by rw [List.cons_append, List.length_cons] at hN; omega)
      refine ⟨M, h3, ?_⟩
      rw [List.cons_append, toks, if_pos hb, show k + d + 1 = k + 1 + d by omega, h4, show k + 1 + d + r.length = k + d + (c :: r).length by rw [hlen]; omega]
    · rw [toks, if_neg hb] at h
      by_cases he : (one F (c :: r)).err = 5
      · rw [if_pos he] at h; cases h
      · rw [if_neg he] at h
        have hpos : 0 < (one F (c :: r)).len := one_pos (F := F) (L := c :: r) (k := 0) (Nat.succ_pos _) (by rw [List.drop_zero]; exact he)
        have hin : 0 + (one F (c :: r)).len ≤ (c :: r).length := one_in F (c :: r) 0 (Nat.succ_pos _) (by rw [List.drop_zero]; exact he)
        have hap := one_app (F := F) hy (List.cons_ne_nil c r) he
        obtain ⟨o, ho⟩ : ∃ o, o = one F (c :: r) := ⟨_, rfl⟩
        rw [← ho] at h hpos hin hap he
        obtain ⟨new, h1, h2⟩ := toks_app hy n ((c :: r).drop o.len) (k + o.len) (acc ++ [{ o.tok with at_ := k }]) _ _ ts ov' fr' (by rw [List.length_drop]; omega) h
        refine ⟨{ o.tok with at_ := k } :: new, by rw [h1, List.append_assoc]; rfl, fun N d acc' hN => ?_⟩
        obtain ⟨N', rfl⟩ : ∃ N', N = N' + 1 := ⟨N - 1, by omega⟩
        obtain ⟨M, h3, h4⟩ := h2 N' d (acc' ++ [{ o.tok with at_ := k + d }]) (by rw [List.length_append, List.length_drop]; rw [List.length_append] at hN; omega)
        refine ⟨M, h3, ?_⟩
        have hap2 : one F (c :: (r ++ y)) = o := hap
        rw [List.cons_append, toks, if_neg hb, hap2, if_neg he]
        have hd : (c :: (r ++ y)).drop o.len = (c :: r).drop o.len ++ y := by
          rw [← List.cons_append, List.drop_append_of_le_length (by omega)]
        rw [hd, show k + d + o.len = k + o.len + d by omega, h4, List.length_drop, show k + o.len + d + ((c :: r).length - o.len) = k + d + (c :: r).length by omega, List.append_assoc]
        rfl
theorem toks_blanks {F : Fn} : ∀ (P : List UInt8) (M k : Nat) (acc : List Tok) (ov fr : Bool), (∀ c ∈ P, bl c = true) → P.length < M → toks (one F) M P k acc ov fr = some (acc, ov, fr)
  | [], M, k, acc, ov, fr, _, hM => by
    obtain ⟨m, rfl⟩ : ∃ m, M = m + 1 := ⟨M - 1, by omega⟩
    rfl
  | c :: P, M, k, acc, ov, fr, h, hM => by
    obtain ⟨m, rfl⟩ : ∃ m, M = m + 1 := ⟨M - 1, by omega⟩
    rw [toks, if_pos (h c (List.mem_cons_self ..))]
    exact toks_blanks P m (k + 1) acc ov fr (fun d hd => h d (List.mem_cons_of_mem _ hd)) (by rw [List.length_cons] at hM; omega)
theorem toks_pad {F : Fn} : ∀ (P l : List UInt8) (N k : Nat) (acc : List Tok) (ov fr : Bool), (∀ c ∈ P, bl c = true) → (P ++ l).length < N → ∃ M, l.length < M ∧ toks (one F) N (P ++ l) k acc ov fr = toks (one F) M l (k + P.length) acc ov fr
  | [], l, N, k, acc, ov, fr, _, hN => ⟨N, hN, rfl⟩
  | c :: P, l, N, k, acc, ov, fr, h, hN => by
    obtain ⟨m, rfl⟩ : ∃ m, N = m + 1 := ⟨N - 1, by omega⟩
    obtain ⟨M, h1, h2⟩ := toks_pad P l m (k + 1) acc ov fr (fun d hd => h d (List.mem_cons_of_mem _ hd)) (by rw [List.cons_append, List.length_cons] at hN; omega)
    refine ⟨M, h1, ?_⟩
    rw [List.cons_append, toks, if_pos (h c (List.mem_cons_self ..)), h2, List.length_cons, show k + 1 + P.length = k + (P.length + 1) by omega]
theorem blanks_Y {P : List UInt8} (h : ∀ c ∈ P, bl c = true) : BlankY P := by
  cases P with
  | nil => exact .inl rfl
  | cons c x => exact .inr ⟨c, x, rfl, h c (List.mem_cons_self ..)⟩
/-- two texts with a blank between, blanks around -/
theorem toks_join {F : Fn} (P s t : List UInt8) (hP : ∀ c ∈ P, bl c = true) (ts1 ts2 : List Tok) (h1 : toks (one F) (s.length + 1) s 0 [] false false = some (ts1, false, false)) (h2 : toks (one F) (t.length + 1) t 0 [] false false = some (ts2, false, false)) :
    toks (one F) ((P ++ (s ++ 32 :: (t ++ P))).length + 1) (P ++ (s ++ 32 :: (t ++ P))) 0 [] false false = some (shift P.length ts1 ++ shift (P.length + s.length + 1) ts2, false, false) := by
  obtain ⟨M1, a1, e1⟩ := toks_pad (F := F) P (s ++ 32 :: (t ++ P)) _ 0 [] false false hP (Nat.lt_succ_self _)
  rw [e1]
  obtain ⟨new1, b1, f1⟩ := toks_app (F := F) (y := 32 :: (t ++ P)) (.inr ⟨32, _, rfl, by decide⟩) _ s 0 [] false false ts1 false false (Nat.lt_succ_self _) h1
  obtain ⟨M2, a2, e2⟩ := f1 M1 P.length [] a1
  rw [e2]
  rw [List.nil_append] at b1
  subst b1
  obtain ⟨m, rfl⟩ : ∃ m, M2 = m + 1 := ⟨M2 - 1, by omega⟩
  rw [toks, if_pos (show bl 32 = true by decide)]
  obtain ⟨new2, b2, f2⟩ := toks_app (F := F) (blanks_Y hP) _ t 0 [] false false ts2 false false (Nat.lt_succ_self _) h2
  rw [List.nil_append] at b2
  subst b2
  obtain ⟨M3, a3, e3⟩ := f2 m (P.length + s.length + 1) ([] ++ shift P.length ts1) (by rw [List.length_cons] at a2; omega)
  rw [show 0 + P.length + s.length + 1 = 0 + (P.length + s.length + 1) by omega, e3, toks_blanks P _ _ _ _ _ hP a3, List.nil_append]
end Go.Proofs.YtonajmngchfjeaaDoor.Lx
namespace Go.Proofs.YtonajmngchfjeaaDoor
open Go.RowKit Txt
open Lx (Tok)
theorem snd_ne {a b : List Tok} {x y : Int} (h : (a, x) = (b, y)) (hne : x ≠ y) {P : Prop} : P := absurd (congrArg Prod.snd h) hne
theorem lexOut_yes {F : Lx.Fn} {s : ByteArray} {ts : List Tok} (h : lexOut F s = (ts, 0)) : s.size ≤ 1000 ∧ isText s = true ∧ Lx.toks (Lx.one F) (s.data.toList.length + 1) s.data.toList 0 [] false false = some (ts, false, false) := by
  unfold lexOut at h
  by_cases h1 : 1000 < s.size
  · rw [if_pos h1] at h; exact snd_ne h (by decide)
  · rw [if_neg h1] at h
    cases h2 : isText s with
    | false => rw [h2, if_pos rfl] at h; exact snd_ne h (by decide)
    | true =>
      rw [h2, if_neg (by decide)] at h
      refine ⟨by omega, rfl, ?_⟩
      show Lx.toks (Lx.one F) (s.size + 1) s.data.toList 0 [] false false = _
      cases hR : Lx.toks (Lx.one F) (s.size + 1) s.data.toList 0 [] false false with
      | none => rw [hR] at h; exact snd_ne (show (([] : List Tok), (5 : Int)) = (ts, 0) from h) (by decide)
      | some q =>
        obtain ⟨ts', ov, fr⟩ := q
        rw [hR] at h
        cases ov with
        | true => exact snd_ne (show (([] : List Tok), (3 : Int)) = (ts, 0) from h) (by decide)
        | false =>
          cases fr with
          | true => exact snd_ne (show (([] : List Tok), (17 : Int)) = (ts, 0) from h) (by decide)
          | false => rw [show ts' = ts from congrArg Prod.fst (show (ts', (0 : Int)) = (ts, 0) from h)]
theorem blanks_TX {P : List UInt8} (h : ∀ c ∈ P, Lx.bl c = true) : TX P := by
  induction P with
  | nil => exact .nil
  | cons c x ih =>
    refine TX.append (a := [c]) ?_ (ih (fun d hd => h d (List.mem_cons_of_mem _ hd)))
    have hc := bl_tests (h c (List.mem_cons_self ..))
    refine .ascii (by omega) ?_
    unfold okI
    exact decide_eq_true (by omega)
theorem lexOut_join {F : Lx.Fn} (P : List UInt8) (s t X : ByteArray) (hP : ∀ c ∈ P, Lx.bl c = true) (hl : P.length ≤ 4) (hs : s.size ≤ 400) (ht : t.size ≤ 400) (hX : X.data.toList = P ++ (s.data.toList ++ 32 :: (t.data.toList ++ P)))
    (ts1 ts2 : List Tok) (h1 : lexOut F s = (ts1, 0)) (h2 : lexOut F t = (ts2, 0)) : lexOut F X = (Lx.shift P.length ts1 ++ Lx.shift (P.length + s.size + 1) ts2, 0) := by
  obtain ⟨-, a2, a3⟩ := lexOut_yes h1
  obtain ⟨-, b2, b3⟩ := lexOut_yes h2
  have hz : X.size = X.data.toList.length := rfl
  have hzs : s.data.toList.length = s.size := rfl
  have hzt : t.data.toList.length = t.size := rfl
  have hlen : X.size ≤ 1000 := by
    rw [hz, hX]; simp only [List.length_append, List.length_cons]; omega
  have htx : isText X = true := by
    rw [isText_TX, hX]
    refine TX.append (blanks_TX hP) (TX.append ((isText_TX s).1 a2) (TX.append (a := [32]) (blanks_TX (by intro c hc; rw [List.mem_singleton] at hc; subst hc; decide)) (TX.append ((isText_TX t).1 b2) (blanks_TX hP))))
  rw [lexOut_of (by omega) htx, hz, hX, Lx.toks_join P _ _ hP ts1 ts2 a3 b3]
  show (if (false = true) then (([] : List Tok), (3 : Int)) else if (false = true) then ([], 17) else (_, 0)) = _
  rw [if_neg (by decide), if_neg (by decide)]
  rfl
end Go.Proofs.YtonajmngchfjeaaDoor
