/-
  The document's pieces: where numbers, names, quotes and signs end.
-/
import Derived.Test.YtonajmngchfjeaaDoorBe
import Derived.Test.YtonajmngchfjeaaDoorLexC
import Derived.Test.YtonajmngchfjeaaDoorBf
namespace Go.Proofs.YtonajmngchfjeaaDoor
open Go.RowKit Word
open Lx (Tok)
attribute [local go_sem] setCell_drewN cell?_ext frozen?_ext shape?_ext setCell_ext lt_1' ne_1' en_1' le_1' lt_2' ne_2' en_2' le_2' lt_3' ne_3' en_3' le_3' lt_4' ne_4' en_4' le_4' lt_5' ne_5' en_5' le_5' lt_6' ne_6' en_6' le_6' lt_7' ne_7' en_7' le_7' lt_8' ne_8' en_8' le_8' lt_9' ne_9' en_9' le_9' lt_10' ne_10' en_10' le_10' lt_11' ne_11' en_11' le_11' lt_12' ne_12' en_12' le_12'

theorem run_byte (p : UInt8 → Bool) (hp : p 0 = false) (s : ByteArray) (i k : Nat) (h1 : i ≤ k) (h2 : k ≤ i + Lx.run p (s.data.toList.drop i)) (h : k < s.size) : p s[k] = decide (k < i + Lx.run p (s.data.toList.drop i)) := by
  have e := Lx.run_at0 p hp (s.data.toList.drop i) (k - i) (by omega)
  have hz : s.data.toList.length = s.size := rfl
  rw [Lx.at0_drop, show i + (k - i) = k by omega, Lx.at0_of (by omega)] at e
  refine e.trans ?_
  congr 1
  exact propext ⟨fun h => by omega, fun h => by omega⟩
theorem run_most (p : UInt8 → Bool) (s : ByteArray) (i : Nat) (hi : i ≤ s.size) : i + Lx.run p (s.data.toList.drop i) ≤ s.size := by
  have hz : s.data.toList.length = s.size := rfl
  have := Lx.run_le p (s.data.toList.drop i)
  rw [List.length_drop] at this
  omega
def wc (c : UInt8) : Bool := Lx.lt c || Lx.dg c
theorem numLen_long {s : ByteArray} {i k : Nat} (hk : k = i + Lx.run Lx.dg (s.data.toList.drop i)) (h2 : Lx.at0 s.data.toList k = 46) (h3 : Lx.dg (Lx.at0 s.data.toList (k + 1)) = true) :
    i + Lx.numLen (s.data.toList.drop i) = k + 1 + Lx.run Lx.dg (s.data.toList.drop (k + 1)) := by
  unfold Lx.numLen
  rw [Lx.at0_drop, Lx.at0_drop, ← hk, if_pos ⟨h2, by rw [show i + (Lx.run Lx.dg (s.data.toList.drop i) + 1) = k + 1 by omega]; exact h3⟩, List.drop_drop, show i + (Lx.run Lx.dg (s.data.toList.drop i) + 1) = k + 1 by omega]
  omega
theorem numLen_short {s : ByteArray} {i k : Nat} (hk : k = i + Lx.run Lx.dg (s.data.toList.drop i)) (h : ¬ (Lx.at0 s.data.toList k = 46 ∧ Lx.dg (Lx.at0 s.data.toList (k + 1)) = true)) :
    i + Lx.numLen (s.data.toList.drop i) = k := by
  unfold Lx.numLen
  rw [if_neg]
  · exact hk.symm
  · rintro ⟨a, b⟩
    rw [Lx.at0_drop, ← hk] at a
    rw [Lx.at0_drop, show i + (Lx.run Lx.dg (s.data.toList.drop i) + 1) = k + 1 by omega] at b
    exact h ⟨a, b⟩
theorem at0_byte {s : ByteArray} {k : Nat} (h : k < s.size) : Lx.at0 s.data.toList k = s[k] := Lx.at0_of (show k < s.data.toList.length from h)
theorem at0_past {s : ByteArray} {k : Nat} (h : ¬ k < s.size) : Lx.at0 s.data.toList k = 0 := Lx.at0_none (show ¬ k < s.data.toList.length from h)
theorem i64_beq_u8 {c : UInt8} {k : UInt8} (h : c ≠ k) : ((c.toNat : Int) == (k.toNat : Int)) = false :=
  beq_eq_false_iff_ne.2 (fun e => h (UInt8.toNat_inj.1 (by omega)))
/-- where what is quoted ends: behind it, or -1 -/
def endZ : Option Nat → Int
  | none => -1
  | some k => (k : Int)
theorem quo_step {L : List UInt8} {k : Nat} (h : k < L.length) :
    Lx.quoRest false (L.drop k) = if L[k] = 92 then (Lx.quoRest true (L.drop (k + 1))).map (· + 1) else if L[k] = 34 then some 1 else (Lx.quoRest false (L.drop (k + 1))).map (· + 1) := by
  rw [List.drop_eq_getElem_cons h, Lx.quoRest]
theorem quo_escJ (L : List UInt8) (k : Nat) : Lx.quoRest true (L.drop k) = (Lx.quoRest false (L.drop (k + 1))).map (· + 1) := by
  by_cases h : k < L.length
  · rw [List.drop_eq_getElem_cons h, Lx.quoRest]
  · rw [List.drop_of_length_le (show L.length ≤ k by omega), List.drop_of_length_le (show L.length ≤ k + 1 by omega)]; rfl
theorem map_add (o : Option Nat) (a b c : Nat) (h : a + b = c) : (o.map (· + a)).map (· + b) = o.map (· + c) := by
  cases o with
  | none => rfl
  | some x => simp only [Option.map_some]; congr 1; omega
/-- where a sign ends: -1 where there is none -/
def sgE (i n : Nat) : Int := if n = 0 then -1 else ((i + n : Nat) : Int)
theorem sig1_z {c k : UInt8} {z y : Int} (hz : z = (c.toNat : Int)) (h : (z == y) = true) (hy : y = (k.toNat : Int)) (hk : Lx.sig1 k = true) : Lx.sig1 c = true := by
  have e := beq_iff_eq.1 h
  have : c = k := UInt8.toNat_inj.1 (by omega)
  rw [this]; exact hk
theorem sig1_zn {c : UInt8} {z : Int} (hz : z = (c.toNat : Int)) (h40 : (z == 40) = false) (h41 : (z == 41) = false) (h91 : (z == 91) = false) (h93 : (z == 93) = false) (h123 : (z == 123) = false) (h125 : (z == 125) = false) (h44 : (z == 44) = false) (h58 : (z == 58) = false) (h46 : (z == 46) = false) (h43 : (z == 43) = false) (h45 : (z == 45) = false) (h42 : (z == 42) = false) (h47 : (z == 47) = false) (h61 : (z == 61) = false) (h60 : (z == 60) = false) (h62 : (z == 62) = false) : Lx.sig1 c = false := by
  unfold Lx.sig1
  rw [Bool.eq_false_iff]
  intro hc
  rw [List.contains_iff_mem] at hc
  simp only [List.mem_cons, List.not_mem_nil, or_false] at hc
  rcases hc with rfl | rfl | rfl | rfl | rfl | rfl | rfl | rfl | rfl | rfl | rfl | rfl | rfl | rfl | rfl | rfl
  all_goals (subst hz; simp_all)
end Go.Proofs.YtonajmngchfjeaaDoor
