/-
  The document's tokens of a text.
-/
import Derived.Test.YtonajmngchfjeaaDoorLexK
import Derived.Test.YtonajmngchfjeaaDoorBe
import Derived.Test.YtonajmngchfjeaaDoorBg
namespace Go.Proofs.YtonajmngchfjeaaDoor
open Go.RowKit Word Txt
open Lx (Tok)
attribute [local go_sem] setCell_drewN cell?_ext frozen?_ext shape?_ext setCell_ext lt_1' ne_1' en_1' le_1' lt_2' ne_2' en_2' le_2' lt_3' ne_3' en_3' le_3' lt_4' ne_4' en_4' le_4' lt_5' ne_5' en_5' le_5' lt_6' ne_6' en_6' le_6' lt_7' ne_7' en_7' le_7' lt_8' ne_8' en_8' le_8' lt_9' ne_9' en_9' le_9' lt_10' ne_10' en_10' le_10' lt_11' ne_11' en_11' le_11' lt_12' ne_12' en_12' le_12'

theorem infoTokR : (Tryd.prog.info? 33).map (fun i => (i.zero, i.size, i.bytes)) = some (some (.agg #[.int .i64 0, .string ⟨#[]⟩, .bool false, .int .u64 0, .int .u64 0, .int .i64 0, .int .i64 0, .int .i64 0]), 8, 72) := by kernel_rfl
theorem tkC_open (t : Tok) : ∃ kd tx ng x y sc dy az, tkC t = [.int .i64 kd, .string tx, .bool ng, .int .u64 x, .int .u64 y, .int .i64 sc, .int .i64 dy, .int .i64 az] := ⟨_, _, _, _, _, _, _, _, rfl⟩
theorem append_tok {ops : Array Oper} {rest : List Oper} {o : Oper} {a : Act} {Q : Exit → Act → World → Prop} (hgd : o.guard = none) (s x : Operand)
    (ho : o.op = .call { callee := .builtin .append, args := #[s, x], argTypes := #[24, 24] })
    {B : Nat} {v : Value} {ts : List Tok} (hs : a.eval s = v) (W0 w0 : World) (t : Tok) (kd : Int) (tx : ByteArray) (ng : Bool) (p q sc dy az : Int) (ht : tkC t = [.int .i64 kd, .string tx, .bool ng, .int .u64 p, .int .u64 q, .int .i64 sc, .int .i64 dy, .int .i64 az]) (hb : TB B v ts W0 w0)
    (b : Nat) (hbs : b = w0.heap.size) (hx : a.eval x = .slice (some ⟨b, 0, none⟩) 1 1) (hlen : ts.length ≤ 100000)
    (h : ∀ v' w', TB B v' (ts ++ [t]) W0 w' → wpList Tryd.prog ops Q rest (a.put o.dst v') w') : wpList Tryd.prog ops Q (o :: rest) a (w0.alloc (.cells #[.int .i64 kd, .string tx, .bool ng, .int .u64 p, .int .u64 q, .int .i64 sc, .int .i64 dy, .int .i64 az] 33)) := by
  subst hbs
  obtain ⟨i0, hi, hz0, hz1, hz2⟩ := info_parts infoTokR
  have hb' := hb.later ((Below.refl w0.heap.size w0).alloc (Nat.le_refl _) (.cells #[.int .i64 kd, .string tx, .bool ng, .int .u64 p, .int .u64 q, .int .i64 sc, .int .i64 dy, .int .i64 az] 33))
  refine wpList_append_own _ hgd s x 24 ho B 33 i0 _ 8 72 Tryd.underlying24 hi hz0 hz1 hz2 rfl (by decide) v ts.length (tkCs ts) hs hb'.1 ⟨w0.heap.size, 0, none⟩ 1 1 (tkC t) hx rfl ?_ ?_ (by unfold maxLen; omega) (by omega) hb'.2.2 ?_
  · rw [ht]
    exact World.news_of_block (cs := #[.int .i64 kd, .string tx, .bool ng, .int .u64 p, .int .u64 q, .int .i64 sc, .int .i64 dy, .int .i64 az]) (t := 33) (fr := (0, 0)) (by show (w0.heap.push _)[w0.heap.size]? = _; rw [Array.getElem?_push_size])
  · intro u hu
    rw [ht] at hu
    simp only [List.mem_cons, List.not_mem_nil, or_false] at hu
    rcases hu with rfl | rfl | rfl | rfl | rfl | rfl | rfl | rfl <;> rfl
  · intro v' w' ho' hg _
    rw [tkCs_snoc] at ho'
    refine h v' w' ⟨by rw [List.length_append]; exact ho', hb'.2.1.grown hg hb'.2.2 (fun k hk => (hb'.1.lt k hk).1), Nat.le_trans hb'.2.2 hg.size⟩
theorem bl_tests {c : UInt8} (h : Lx.bl c = true) : c.toNat = 32 ∨ c.toNat = 9 ∨ c.toNat = 10 ∨ c.toNat = 13 := of_decide_eq_true h
theorem bl_not {c : UInt8} (h : Lx.bl c = false) : ((c.toNat : Int) == 32) = false ∧ ((c.toNat : Int) == 9) = false ∧ ((c.toNat : Int) == 10) = false ∧ ((c.toNat : Int) == 13) = false := by
  have := of_decide_eq_false h
  refine ⟨beq_eq_false_iff_ne.2 (by omega), beq_eq_false_iff_ne.2 (by omega), beq_eq_false_iff_ne.2 (by omega), beq_eq_false_iff_ne.2 (by omega)⟩
theorem lexOut_of {F : Lx.Fn} {s : ByteArray} (h1 : ¬ 1000 < s.size) (h2 : isText s = true) : lexOut F s = match Lx.toks (Lx.one F) (s.size + 1) s.data.toList 0 [] false false with
  | none => ([], 5)
  | some (ts, ov, fr) => if ov = true then ([], 3) else if fr = true then ([], 17) else (ts, 0) := by
  unfold lexOut; rw [if_neg h1, if_neg (by rw [h2]; decide)]; rfl
theorem agg_list {a : Array Value} {l : List Value} (h : Value.agg a = .agg l.toArray) : l = a.toList := by
  injection h with h; rw [h]
theorem one_pos {F : Lx.Fn} {L : List UInt8} {k : Nat} (hk : k < L.length) (h : (Lx.one F (L.drop k)).err ≠ 5) : 0 < (Lx.one F (L.drop k)).len := by
  cases h1 : Lx.dg L[k] with
  | true => rw [Lx.one_num hk h1]; exact Lx.numLen_pos (Lx.run_pos hk h1)
  | false =>
    cases h2 : Lx.lt L[k] with
    | true =>
      rw [Lx.one_word hk h1 h2] at h ⊢
      unfold Lx.wordOne at h ⊢
      by_cases hw : Lx.wordLen (L.drop k) ≤ 64
      · rw [if_pos hw]; exact Lx.word_pos hk h2
      · rw [if_neg hw] at h; exact absurd rfl h
    | false =>
      by_cases h3 : L[k] = 64
      · rw [Lx.one_date hk h3] at h ⊢
        unfold Lx.dateOne at h ⊢
        cases hq : Lx.quoLen (L.drop (k + 1)) with
        | none => rw [hq] at h; exact absurd rfl h
        | some j =>
          rw [hq] at h
          by_cases hu : (F.uq ((L.drop (k + 1)).take j)).2 = 0
          · show 0 < (if _ then _ else Lx.noOne : Lx.One).len
            rw [if_pos hu]; exact Nat.succ_pos _
          · exact absurd (show (if _ then _ else Lx.noOne : Lx.One).err = 5 by rw [if_neg hu]; rfl) h
      · by_cases h4 : L[k] = 34
        · rw [Lx.one_str hk h4] at h ⊢
          unfold Lx.strOne at h ⊢
          cases hq : Lx.quoLen (L.drop k) with
          | none => rw [hq] at h; exact absurd rfl h
          | some j =>
            rw [hq] at h
            have := Lx.quoLen_le hq
            by_cases hu : (F.uq ((L.drop k).take j)).2 = 0
            · show 0 < (if _ then _ else Lx.noOne : Lx.One).len
              rw [if_pos hu]; show 0 < j; omega
            · exact absurd (show (if _ then _ else Lx.noOne : Lx.One).err = 5 by rw [if_neg hu]; rfl) h
        · rw [Lx.one_sign hk h1 h2 h3 h4] at h ⊢
          unfold Lx.signOne at h ⊢
          by_cases hs : Lx.sigLen (L.drop k) = 0
          · rw [if_pos hs] at h; exact absurd rfl h
          · rw [if_neg hs]; exact Nat.pos_of_ne_zero hs
theorem one_in (F : Lx.Fn) (L : List UInt8) (k : Nat) (hk : k < L.length) (h : (Lx.one F (L.drop k)).err ≠ 5) : k + (Lx.one F (L.drop k)).len ≤ L.length := by
  cases h1 : Lx.dg L[k] with
  | true =>
    rw [Lx.one_num hk h1]
    have := Lx.numLen_le (L.drop k)
    rw [List.length_drop] at this
    show k + Lx.numLen (L.drop k) ≤ _
    omega
  | false =>
    cases h2 : Lx.lt L[k] with
    | true =>
      rw [Lx.one_word hk h1 h2] at h ⊢
      unfold Lx.wordOne at h ⊢
      by_cases hw : Lx.wordLen (L.drop k) ≤ 64
      · rw [if_pos hw]
        have := Lx.run_le (fun c => Lx.lt c || Lx.dg c) (L.drop k)
        rw [List.length_drop] at this
        show k + Lx.run (fun c => Lx.lt c || Lx.dg c) (L.drop k) ≤ _
        omega
      · rw [if_neg hw] at h; exact absurd rfl h
    | false =>
      by_cases h3 : L[k] = 64
      · rw [Lx.one_date hk h3] at h ⊢
        unfold Lx.dateOne at h ⊢
        cases hq : Lx.quoLen (L.drop (k + 1)) with
        | none => rw [hq] at h; exact absurd rfl h
        | some j =>
          rw [hq] at h
          have := Lx.quoLen_le hq
          rw [List.length_drop] at this
          by_cases hu : (F.uq ((L.drop (k + 1)).take j)).2 = 0
          · show k + (if _ then _ else Lx.noOne : Lx.One).len ≤ _
            rw [if_pos hu]; show k + (j + 1) ≤ _; omega
          · exact absurd (show (if _ then _ else Lx.noOne : Lx.One).err = 5 by rw [if_neg hu]; rfl) h
      · by_cases h4 : L[k] = 34
        · rw [Lx.one_str hk h4] at h ⊢
          unfold Lx.strOne at h ⊢
          cases hq : Lx.quoLen (L.drop k) with
          | none => rw [hq] at h; exact absurd rfl h
          | some j =>
            rw [hq] at h
            have := Lx.quoLen_le hq
            rw [List.length_drop] at this
            by_cases hu : (F.uq ((L.drop k).take j)).2 = 0
            · show k + (if _ then _ else Lx.noOne : Lx.One).len ≤ _
              rw [if_pos hu]; show k + j ≤ _; omega
            · exact absurd (show (if _ then _ else Lx.noOne : Lx.One).err = 5 by rw [if_neg hu]; rfl) h
        · rw [Lx.one_sign hk h1 h2 h3 h4] at h ⊢
          unfold Lx.signOne at h ⊢
          by_cases hs : Lx.sigLen (L.drop k) = 0
          · rw [if_pos hs] at h; exact absurd rfl h
          · rw [if_neg hs]
            have := Lx.sigLen_le (L.drop k)
            rw [List.length_drop] at this
            show k + Lx.sigLen (L.drop k) ≤ _
            omega
/-- what Read and DocRead answer -/
def RdOut (o : List Tok × Int) (W w : World) (e : Ending) : Prop := ∃ v, e = .returned (.tuple #[v, .int .i64 o.2]) ∧ TB W.heap.size v o.1 W w
theorem RdOut.none {o : List Tok × Int} {W w : World} {e : Ending} (er : Int) (h : o = ([], er)) (he : e = .returned (.tuple #[.slice none 0 0, .int .i64 er])) (hb : Below W.heap.size W w) : RdOut o W w e := by
  subst h; exact ⟨_, he, TB.nil W hb⟩
end Go.Proofs.YtonajmngchfjeaaDoor
