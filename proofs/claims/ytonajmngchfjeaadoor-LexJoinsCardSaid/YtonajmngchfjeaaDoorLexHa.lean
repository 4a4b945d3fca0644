/-
  The lexer's machine: what holds at each label.
-/
import Derived.Test.YtonajmngchfjeaaDoorLexG
import Derived.Test.YtonajmngchfjeaaDoorBe
namespace Go.Proofs.YtonajmngchfjeaaDoor
open Go.RowKit Word
open Lx (Tok)
attribute [local go_sem] setCell_drewN cell?_ext frozen?_ext shape?_ext setCell_ext lt_1' ne_1' en_1' le_1' lt_2' ne_2' en_2' le_2' lt_3' ne_3' en_3' le_3' lt_4' ne_4' en_4' le_4' lt_5' ne_5' en_5' le_5' lt_6' ne_6' en_6' le_6' lt_7' ne_7' en_7' le_7' lt_8' ne_8' en_8' le_8' lt_9' ne_9' en_9' le_9' lt_10' ne_10' en_10' le_10' lt_11' ne_11' en_11' le_11' lt_12' ne_12' en_12' le_12'

/-- where the machine stands at each label -/
def SL (F : Lx.Fn) (L : List UInt8) (R : Option (List Tok × Bool × Bool)) (l k b n : Nat) (ts : List Tok) (ov fr : Bool) : Prop :=
  (l = 0 ∧ Lx.Chk F L R k n ts ov fr) ∨
  (l = 1 ∧ Lx.Chk F L R b n ts ov fr ∧ (∃ h : b < L.length, Lx.dg L[b] = true) ∧ b ≤ k ∧ k < b + Lx.run Lx.dg (L.drop b)) ∨
  (l = 2 ∧ Lx.Chk F L R b n ts ov fr ∧ (∃ h : b < L.length, Lx.dg L[b] = false ∧ Lx.lt L[b] = true) ∧ b ≤ k ∧ k < b + Lx.wordLen (L.drop b)) ∨
  (l = 3 ∧ Lx.Chk F L R b n ts ov fr ∧ ∃ h : b < L.length, (L[b] = 64 ∧ k = b + 1) ∨ (L[b] = 34 ∧ k = b)) ∨
  (l = 4 ∧ Lx.Chk F L R b n ts ov fr ∧ (∃ h : b < L.length, Lx.dg L[b] = true) ∧ b + Lx.run Lx.dg (L.drop b) ≤ k ∧ k < b + Lx.numLen (L.drop b)) ∨
  (l = 5 ∧ Lx.Chk F L R b n ts ov fr ∧ (∃ h : b < L.length, Lx.dg L[b] = true) ∧ k = b + Lx.numLen (L.drop b))
def JL (s : ByteArray) (F : Lx.Fn) (R : Option (List Tok × Bool × Bool)) (W0 : World) (p : Nat) (l : Nat) (a' : Act) (wr : World) : Prop :=
  ∃ (k b n : Nat) (lv : Value) (ts : List Tok) (ov fr : Bool) (u1 u2 u3 u4 u5 u6 u7 u8 u9 u10 u11 u12 u13 u14 u15 u16 u17 u18 u19 u20 u21 u22 u23 u24 u25 u26 u27 u28 u29 u30 u31 u32 u33 u34 u35 u36 u37 u38 u39 u40 u41 u42 u43 u44 u45 u46 u47 u48 u49 u50 u51 u52 u53 u54 u55 u56 u57 u58 u59 u60 u61 u62 u63 u64 u65 u66 u67 u68 u69 u70 u71 u72 u73 u74 u75 u76 u77 u78 u79 u80 u81 u82 u83 u84 u85 u86 u87 u88 u89 u90 u91 u92 u93 u94 u95 u96 u97 u98 u99 u100 u101 u102 u103 u104 u105 u106 u107 : Value), a' = { tmps := #[.pointer (some ⟨p, 0, none⟩), u1, u2, u3, u4, u5, u6, u7, u8, u9, u10, u11, u12, u13, u14, u15, u16, u17, u18, u19, u20, u21, u22, u23, u24, u25, u26, u27, u28, u29, u30, u31, u32, u33, u34, u35, u36, u37, u38, u39, u40, u41, u42, u43, u44, u45, u46, u47, u48, u49, u50, u51, u52, u53, u54, u55, u56, u57, u58, u59, u60, u61, u62, u63, u64, u65, u66, u67, u68, u69, u70, u71, u72, u73, u74, u75, u76, u77, u78, u79, u80, u81, u82, u83, u84, u85, u86, u87, u88, u89, u90, u91, u92, u93, u94, u95, u96, u97, u98, u99, u100, u101, u102, u103, u104, u105, u106, u107], defers := [] } ∧ k ≤ s.size ∧ Hid (Rdr W0 wr p s k b lv ts ov fr) ∧ Hid (SL F s.data.toList R l k b n ts ov fr)
theorem lxAt_drew (w : World) (d p : Nat) : lxAt (w.drewN d) p = lxAt w p := rfl
/-- how far the machine is from its end -/
def farL (n l k : Nat) : Nat := 4 * (n + 1 - k) + (if l = 0 then 2 else if l = 5 then 3 else 1)
/-- the first scope that stands in a code -/
def findScope : Code → Option Code
  | .seq a b => (findScope a).orElse fun _ => findScope b
  | .scope c => some c
  | _ => none
/-- the machine's labels and what stands behind each -/
noncomputable def tokScope : Code := ((Tryd.f8.body).bind findScope).getD .skip
/-- what the pieces answer, as the machine asks it -/
structure TokHyp (F : Lx.Fn) (R : Option (List Tok × Bool × Bool)) (s : ByteArray) (W0 : World) : Prop where
  hs : s.size ≤ 1000
  hR : R = Lx.toks (Lx.one F) (s.size + 1) s.data.toList 0 [] false false
  hN : ∀ j (h : j < s.size), s[j] ≠ 0
  hW : ∀ x, F.word x = isWord ⟨x.toArray⟩
  hnum : ∀ x : List UInt8, x.length ≤ 1000 → ((F.num x).2.2.2 = 0 ∨ (F.num x).2.2.2 = 3 ∨ (F.num x).2.2.2 = 5) ∧ ∀ w, Calls Tryd.prog 23 #[.string ⟨x.toArray⟩] w fun r w' => r = .returned (.tuple #[D (F.num x).1 (F.num x).2.1 (F.num x).2.2.1, .int .i64 (F.num x).2.2.2]) ∧ Below w.heap.size w w'
  hday : ∀ x : List UInt8, x.length ≤ 1000 → ((F.day x).2 = 0 ∨ (F.day x).2 = 5 ∨ (F.day x).2 = 17) ∧ ∀ w, Below W0.heap.size W0 w → Calls Tryd.prog 35 #[.string ⟨x.toArray⟩] w fun r w' => r = .returned (.tuple #[.int .i64 (F.day x).1, .int .i64 (F.day x).2]) ∧ Below w.heap.size w w'
  huq : ∀ x : List UInt8, x.length ≤ 1000 → (F.uq x).1.length ≤ 1000 ∧ ∀ w, Below W0.heap.size W0 w → Calls Tryd.prog 25 #[.string ⟨x.toArray⟩] w fun r w' => r = .returned (.tuple #[.string ⟨(F.uq x).1.toArray⟩, .int .i64 (F.uq x).2]) ∧ Below w.heap.size w w'
/-- the pass from a label -/
def TokPass (l : Nat) : Prop := ∀ {W0 : World} {p : Nat} {s : ByteArray} {F : Lx.Fn} {R : Option (List Tok × Bool × Bool)} (_ : TokHyp F R s W0) (a' : Act) (wr : World), JL s F R W0 p l a' wr →
  let Q' : Exit → Act → World → Prop := bodyPost Tryd.prog Tryd.f8 fun r w' => r = .returned (.bool R.isSome) ∧ Below W0.heap.size W0 w' ∧
      ∀ ts ov fr, R = some (ts, ov, fr) → ∃ k b lv, Rdr W0 w' p s k b lv ts ov fr
  ∃ rest, findLabel tokScope l = some (.seq .skip rest) ∧ rest.wp Tryd.prog (toLabel (fun l' a'' w'' => JL s F R W0 p l' a'' w'' ∧ farL s.size l' (lxAt w'' p) < farL s.size l (lxAt wr p)) Q') a' wr
end Go.Proofs.YtonajmngchfjeaaDoor
