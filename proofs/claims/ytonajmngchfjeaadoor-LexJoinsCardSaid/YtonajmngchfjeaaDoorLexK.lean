/-
  The document's token at a place.
-/
import Derived.Test.YtonajmngchfjeaaDoorLexI
import Derived.Test.YtonajmngchfjeaaDoorLexJ
import Derived.Test.YtonajmngchfjeaaDoorLexD
namespace Go.Proofs.YtonajmngchfjeaaDoor
open Go.RowKit Word Txt
open Lx (Tok)
attribute [local go_sem] setCell_drewN cell?_ext frozen?_ext shape?_ext setCell_ext lt_1' ne_1' en_1' le_1' lt_2' ne_2' en_2' le_2' lt_3' ne_3' en_3' le_3' lt_4' ne_4' en_4' le_4' lt_5' ne_5' en_5' le_5' lt_6' ne_6' en_6' le_6' lt_7' ne_7' en_7' le_7' lt_8' ne_8' en_8' le_8' lt_9' ne_9' en_9' le_9' lt_10' ne_10' en_10' le_10' lt_11' ne_11' en_11' le_11' lt_12' ne_12' en_12' le_12'

theorem cut_ext (s : ByteArray) (i k : Nat) : s.extract i (i + k) = ⟨((s.data.toList.drop i).take k).toArray⟩ := by
  apply bs_of; rw [ext_list, show i + k - i = k by omega]
theorem u8z (c k : UInt8) : ((c.toNat : Int) == (k.toNat : Int)) = (c == k) := by
  by_cases h : c = k
  · subst h; simp
  · rw [beq_eq_false_iff_ne.2 h]; exact i64_beq_u8 h
theorem quo_head {s : ByteArray} {i k : Nat} (hq : Lx.quoLen (s.data.toList.drop i) = some k) : ∃ h : i < s.size, s[i] = 34 := by
  have hz : s.data.toList.length = s.size := rfl
  by_cases h : i < s.size
  · refine ⟨h, ?_⟩
    rw [List.drop_eq_getElem_cons (by omega), Lx.quoLen] at hq
    by_cases e : s.data.toList[i]'(by omega) = 34
    · exact e
    · rw [if_neg e] at hq; cases hq
  · rw [List.drop_of_length_le (by omega)] at hq; cases hq
/-- what the document's token at a place answers -/
def OneR (i : Nat) (o : Lx.One) (e : Ending) : Prop :=
  ∃ (kd : Int) (tx : ByteArray) (ng : Bool) (x y sc dy az k : Int), e = .returned (.tuple #[.agg #[.int .i64 kd, .string tx, .bool ng, .int .u64 x, .int .u64 y, .int .i64 sc, .int .i64 dy, .int .i64 az], .int .i64 k, .int .i64 o.err]) ∧ (o.err ≠ 5 → Value.agg #[.int .i64 kd, .string tx, .bool ng, .int .u64 x, .int .u64 y, .int .i64 sc, .int .i64 dy, .int .i64 az] = .agg (tkC { o.tok with at_ := i }).toArray ∧ k = ((i + o.len : Nat) : Int))
theorem oneR_bad {i : Nat} {o : Lx.One} {e : Ending} {kd : Int} {tx : ByteArray} {ng : Bool} {x y sc dy az k : Int} (h : o.err = 5) (he : e = .returned (.tuple #[.agg #[.int .i64 kd, .string tx, .bool ng, .int .u64 x, .int .u64 y, .int .i64 sc, .int .i64 dy, .int .i64 az], .int .i64 k, .int .i64 5])) : OneR i o e := ⟨kd, tx, ng, x, y, sc, dy, az, k, by rw [h]; exact he, fun h2 => absurd h h2⟩
theorem oneR_good {i : Nat} {o : Lx.One} {e : Ending} {kd : Int} {tx : ByteArray} {ng : Bool} {x y sc dy az k : Int} (er : Int) (h : o.err = er) (ht : Value.agg #[.int .i64 kd, .string tx, .bool ng, .int .u64 x, .int .u64 y, .int .i64 sc, .int .i64 dy, .int .i64 az] = .agg (tkC { o.tok with at_ := i }).toArray) (hk : k = ((i + o.len : Nat) : Int)) (he : e = .returned (.tuple #[.agg #[.int .i64 kd, .string tx, .bool ng, .int .u64 x, .int .u64 y, .int .i64 sc, .int .i64 dy, .int .i64 az], .int .i64 k, .int .i64 er])) : OneR i o e := ⟨kd, tx, ng, x, y, sc, dy, az, k, by rw [h]; exact he, fun _ => ⟨ht, hk⟩⟩
end Go.Proofs.YtonajmngchfjeaaDoor
