/-
  Contracts of math/bits, over this program's own numbers: Add64, Sub64, Mul64 answer the words of sum, difference and product.
  The contract of bits.LeadingZeros64 at this program's numbers: 64 less the length in bits.
  The contracts of strings.HasPrefix, stringslite.Clone, utf8.RuneCountInString, ValidString, AppendRune at this program's numbers.
  Contracts of the small functions of package date and of the document's answers for it: leap years, months, years, days ahead.
  Contracts of Length, Day, Weekday, Add and their likes in the document's answers.
  Slices of ints that are read, and rows of a call's own that are written.
-/
import Derived.Test.YtalahkincccffaaGreatDoorRows
import Derived.Test.YtalahkincccffaaGreatDoorBa
import Derived.Test.YtalahkincccffaaGreatDoorExt
import Derived.WalkKit
import Derived.Handy
import Derived.Shelf.Spec.BitsCarry
import Derived.Lib.Mul64
import Derived.Shelf.Bits.Mul64
import Derived.Deep.RegionWith
import Derived.Deep.RegionHeld3
import Derived.Deep.QuietTactic
import Derived.BigQuiet
import Derived.Deep.Draws
import Derived.Lib.Hide
import Derived.WalkSpells
import Derived.Deep.DeepFit
import Derived.Shelf.Small.Bits
import Derived.Test.YtalahkincccffaaGreatDoorProg
import Derived.Shelf.LaysM
import Derived.Shelf.Strings.Prefix
import Derived.Shelf.Strconv.Clone
import Derived.Shelf.Utf8.RuneCount
import Derived.Shelf.Unicode.ValidAny
import Derived.Shelf.Utf8.AppendRune
import Derived.Below
import Derived.OwnWalk
import Derived.Lib.BufSteps
namespace Go.Proofs.YtalahkincccffaaGreatDoor
open Go.RowKit Word

abbrev W (n : Nat) : Value := .agg #[.int .u64 (hi n : Int), .int .u64 (lo n : Int)]
abbrev L (n : Nat) : Value := .agg #[.int .u64 (w0 n : Int), .int .u64 (w1 n : Int), .int .u64 (w2 n : Int), .int .u64 (w3 n : Int)]



theorem add64 (x y c : Nat) (hc : c ≤ 1) (w : World) :
    (callFunc 120 #[.int .u64 x, .int .u64 y, .int .u64 c]).run Tryz.prog w =
      .ok (.value (.tuple #[.int .u64 (sumLo x y c : Int), .int .u64 (sumHi x y c : Int)])) w := by
  rw [run_callFunc_extern Tryz.func120 (by kernel_rfl) (by kernel_rfl) (by kernel_rfl) (e := add64Entry) (by kernel_rfl), run_add64 x y c (by omega) (by omega) (by omega) (by omega)]
  simp only [Result.andThen, sumLo, sumHi]
  congr 5 <;> omega
theorem sub64 (x y b : Nat) (hb : b ≤ 1) (w : World) :
    (callFunc 119 #[.int .u64 x, .int .u64 y, .int .u64 b]).run Tryz.prog w =
      .ok (.value (.tuple #[.int .u64 (difLo x y b : Int), .int .u64 (difHi x y b : Int)])) w := by
  rw [run_callFunc_extern Tryz.func119 (by kernel_rfl) (by kernel_rfl) (by kernel_rfl) (e := sub64Entry) (by kernel_rfl), run_sub64 x y b hb]
  rfl
theorem sub64_0 (x y : Nat) (w : World) :
    (callFunc 119 #[.int .u64 x, .int .u64 y, .int .u64 0]).run Tryz.prog w =
      .ok (.value (.tuple #[.int .u64 (difLo x y 0 : Int), .int .u64 (difHi x y 0 : Int)])) w := sub64 x y 0 (by omega) w

theorem maskN (a : Nat) (ha : a < 18446744073709551616) : bits .and .u64 (a : Int) 4294967295 = ((a % 4294967296 : Nat) : Int) := by
  have h := bits_and_u64_nat a 4294967295 ha (by omega)
  have e : a &&& 4294967295 = a % 4294967296 := Nat.and_two_pow_sub_one_eq_mod a 32
  rw [e] at h
  exact h
theorem divN (a : Nat) : (a : Int) / 4294967296 = ((a / 4294967296 : Nat) : Int) := by omega
theorem mulN (a b : Nat) : (a : Int) * (b : Int) = ((a * b : Nat) : Int) := (Int.natCast_mul a b).symm
theorem addN (a b : Nat) : (a : Int) + (b : Int) = ((a + b : Nat) : Int) := (Int.natCast_add a b).symm
theorem wrapN (a : Nat) (ha : a < 18446744073709551616) : IntKind.u64.wrap (a : Int) = (a : Int) := by rw [IntKind.wrap_u64]; omega
theorem wrapM (a : Nat) : IntKind.u64.wrap (a : Int) = ((a % 18446744073709551616 : Nat) : Int) := by rw [IntKind.wrap_u64]; omega

set_option maxHeartbeats 1000000 in
theorem mul64 (x y : Nat) (hx : x < 18446744073709551616) (hy : y < 18446744073709551616) (w : World) :
    Calls Tryz.prog 111 #[.int .u64 x, .int .u64 y] w fun e w' => e = .returned (.tuple #[.int .u64 (mulHi x y : Int), .int .u64 (mulLo x y : Int)]) ∧ w = w' := by
  obtain ⟨bd, bt, bw, hhi⟩ := Lib.mul64_hi x y hx hy
  have ba := Lib.half_mul_le (a := x / 4294967296) (b := y / 4294967296) (by omega) (by omega)
  have bb := Lib.half_mul_le (a := x / 4294967296) (b := y % 4294967296) (by omega) (by omega)
  have bc := Lib.half_mul_le (a := x % 4294967296) (b := y / 4294967296) (by omega) (by omega)
  have ba' : x / 4294967296 * (y / 4294967296) < 18446744073709551616 := by omega
  have bb' : x / 4294967296 * (y % 4294967296) < 18446744073709551616 := by omega
  have bc' : x % 4294967296 * (y / 4294967296) < 18446744073709551616 := by omega
  have bh1 : x / 4294967296 * (y / 4294967296) + (x / 4294967296 * (y % 4294967296) + x % 4294967296 * (y % 4294967296) / 4294967296) / 4294967296 < 18446744073709551616 := by omega
  have bh : x / 4294967296 * (y / 4294967296) + (x / 4294967296 * (y % 4294967296) + x % 4294967296 * (y % 4294967296) / 4294967296) / 4294967296 + ((x / 4294967296 * (y % 4294967296) + x % 4294967296 * (y % 4294967296) / 4294967296) % 4294967296 + x % 4294967296 * (y / 4294967296)) / 4294967296 < 18446744073709551616 := by omega
  go_enter Tryz.func111, Tryz.ntmps111
  go_wp2
  simp only [maskN x hx, maskN y hy, divN, mulN, addN, wrapN _ bd, wrapN _ bb', wrapN _ bt, maskN _ bt, wrapN _ bc', wrapN _ bw, wrapN _ ba', wrapN _ bh1, wrapN _ bh, wrapM (x * y)]
  rw [hhi]
  go_ret2
  exact ⟨rfl, rfl⟩
end Go.Proofs.YtalahkincccffaaGreatDoor
namespace Go.Proofs
open Go.Shelf
def Tryz.lays134_ren : Go.Shelf.Ren := ⟨fun | 134 => 113 | 129 => 115 | n => n, fun | 53 => 33 | 3 => 3 | 4 => 4 | 46 => 133 | 5 => 5 | 9 => 9 | n => n, fun | n => n⟩
theorem Tryz.lays134 : Go.Proofs.Lays.n134 Tryz.prog Tryz.lays134_ren := {
  mixed := by kernel_rfl
  f129 := Tryz.func115.trans (congrArg some (by kernel_rfl))
  f134 := Tryz.func113.trans (congrArg some (by kernel_rfl))
  t3 := Tryz.underlying3
  a3 := Tryz.isAgg3
  z3 := Tryz.sizeOf3
  v3 := Tryz.zeroValue3
  t4 := Tryz.underlying4
  a4 := Tryz.isAgg4
  z4 := Tryz.sizeOf4
  v4 := Tryz.zeroValue4
  t5 := Tryz.underlying5
  a5 := Tryz.isAgg5
  z5 := Tryz.sizeOf5
  v5 := Tryz.zeroValue5
  t9 := Tryz.underlying9
  a9 := Tryz.isAgg9
  z9 := Tryz.sizeOf9
  v9 := Tryz.zeroValue9
  t46 := Tryz.underlying133
  a46 := Tryz.isAgg133
  z46 := Tryz.sizeOf133
  v46 := Tryz.zeroValue133
  t53 := Tryz.underlying33
  a53 := Tryz.isAgg33
  z53 := Tryz.sizeOf33
  v53 := Tryz.zeroValue33 }
theorem Tryz.bits_LeadingZeros64 (x : Int) (w : World) (h0 : 0 ≤ x) (h1 : x ≤ 18446744073709551615) :
    Calls Tryz.prog 113 #[.int .u64 x] w fun e w' => e = .returned (.int .i64 (64 - (Lib.bitLen x.toNat : Int))) ∧ w' = w := Any.bits_LeadingZeros64 Tryz.lays134 x w h0 h1
end Go.Proofs
namespace Go.Proofs
open Go.Shelf
def Tryz.lays196_ren : Go.Shelf.Ren := ⟨fun | 196 => 96 | 259 => 102 | n => n, fun | 9 => 9 | 4 => 4 | 3 => 3 | 5 => 5 | 12 => 12 | 119 => 129 | 0 => 0 | 46 => 133 | 139 => 132 | 138 => 131 | 53 => 33 | n => n, fun | 3 => 7 | 4 => 8 | n => n⟩
theorem Tryz.lays196 : Go.Proofs.Lays.n196 Tryz.prog Tryz.lays196_ren := {
  mixed := by kernel_rfl
  f196 := Tryz.func96.trans (congrArg some (by kernel_rfl))
  f259 := Tryz.func102.trans (congrArg some (by kernel_rfl))
  t0 := Tryz.underlying0
  a0 := Tryz.isAgg0
  z0 := Tryz.sizeOf0
  v0 := Tryz.zeroValue0
  t3 := Tryz.underlying3
  a3 := Tryz.isAgg3
  z3 := Tryz.sizeOf3
  v3 := Tryz.zeroValue3
  t4 := Tryz.underlying4
  a4 := Tryz.isAgg4
  z4 := Tryz.sizeOf4
  v4 := Tryz.zeroValue4
  t5 := Tryz.underlying5
  a5 := Tryz.isAgg5
  z5 := Tryz.sizeOf5
  v5 := Tryz.zeroValue5
  t9 := Tryz.underlying9
  a9 := Tryz.isAgg9
  z9 := Tryz.sizeOf9
  v9 := Tryz.zeroValue9
  t12 := Tryz.underlying12
  a12 := Tryz.isAgg12
  z12 := Tryz.sizeOf12
  v12 := Tryz.zeroValue12
  t46 := Tryz.underlying133
  a46 := Tryz.isAgg133
  z46 := Tryz.sizeOf133
  v46 := Tryz.zeroValue133
  t53 := Tryz.underlying33
  a53 := Tryz.isAgg33
  z53 := Tryz.sizeOf33
  v53 := Tryz.zeroValue33
  t119 := Tryz.underlying129
  a119 := Tryz.isAgg129
  z119 := Tryz.sizeOf129
  t138 := Tryz.underlying131
  a138 := Tryz.isAgg131
  z138 := Tryz.sizeOf131
  v138 := Tryz.zeroValue131
  t139 := Tryz.underlying132
  a139 := Tryz.isAgg132
  z139 := Tryz.sizeOf132
  v139 := Tryz.zeroValue132
  g3 := by kernel_rfl
  g4 := by kernel_rfl }
end Go.Proofs
namespace Go.Proofs.YtalahkincccffaaGreatDoor
open Go.RowKit

end Go.Proofs.YtalahkincccffaaGreatDoor
namespace Go.Proofs.YtalahkincccffaaGreatDoor
open Go.RowKit

theorem is_ref (n : Int) (h1 : 1 ≤ n) (h2 : n ≤ 3652059) (w : World) : Calls Tryz.prog 40 #[.int .i64 n] w fun e w' => e = .returned (.bool true) ∧ w = w' := by
  have h2' : decide (n ≤ 3652059) = true := by simpa using h2
  go_enter Tryz.func40, Tryz.ntmps40
  go_wp2
  go_ret
  exact ⟨rfl, rfl⟩
theorem is_no (n : Int) (h : n < 1 ∨ 3652059 < n) (w : World) : Calls Tryz.prog 40 #[.int .i64 n] w fun e w' => e = .returned (.bool false) ∧ w = w' := by
  by_cases h1 : n < 1
  · have h1' : decide (1 ≤ n) = false := by simpa using h1
    clear h
    go_enter Tryz.func40, Tryz.ntmps40
    go_wp2
    go_ret
    exact ⟨rfl, rfl⟩
  · have h3 : 1 ≤ n := by omega
    have h2' : decide (n ≤ 3652059) = false := by simp; omega
    clear h h1
    go_enter Tryz.func40, Tryz.ntmps40
    go_wp2
    go_ret
    exact ⟨rfl, rfl⟩
end Go.Proofs.YtalahkincccffaaGreatDoor
namespace Go.Proofs.YtalahkincccffaaGreatDoor
open Go.RowKit Num

def RdP (P : Nat → Prop) (w : World) (v : Value) (l : List Nat) : Prop :=
  (v = .slice none 0 0 ∧ l = []) ∨ ∃ g off cap, v = .slice (some ⟨g, off, none⟩) l.length cap ∧ l.length ≤ cap ∧ g < w.heap.size ∧ P g ∧ ∀ j (hj : j < l.length), w.cell? ⟨g, off + j, none⟩ = some (.int .i64 (l[j] : Int))
abbrev Rd (w : World) (v : Value) (l : List Nat) : Prop := RdP (fun _ => True) w v l
section
variable {P : Nat → Prop} {w w' : World} {v : Value} {l : List Nat}
theorem RdP.nil (w : World) : RdP P w (.slice none 0 0) [] := .inl ⟨rfl, rfl⟩
theorem RdP.weak {Q : Nat → Prop} (h : RdP P w v l) (hq : ∀ g, g < w.heap.size → P g → Q g) : RdP Q w v l := by
  rcases h with h | ⟨g, off, cap, hv, hc, hg, hp, hx⟩
  · exact .inl h
  · exact .inr ⟨g, off, cap, hv, hc, hg, hq g hg hp, hx⟩
theorem RdP.rd (h : RdP P w v l) : Rd w v l := h.weak fun _ _ _ => trivial
theorem RdP.old (h : RdP P w v l) : RdP (fun g => g < w.heap.size) w v l := h.weak fun _ hg _ => hg
theorem RdP.later (h : RdP P w v l) (hb : Below w.heap.size w w') : RdP P w' v l := by
  rcases h with h | ⟨g, off, cap, hv, hc, hg, hp, hx⟩
  · exact .inl h
  · refine .inr ⟨g, off, cap, hv, hc, Nat.lt_of_lt_of_le hg hb.size, hp, fun j hj => ?_⟩
    rw [← hx j hj]
    exact (bcell hb).1 g (off + j) hg
theorem RdP.drew (h : RdP P w v l) : RdP P w.drew v l := h
theorem RdP.store (h : RdP P w v l) (b k : Nat) (x : Value) (hne : ∀ g, P g → g ≠ b) : RdP P (w.setCell ⟨b, k, none⟩ x) v l := by
  rcases h with h | ⟨g, off, cap, hv, hc, hg, hp, hx⟩
  · exact .inl h
  · refine .inr ⟨g, off, cap, hv, hc, by rw [World.size_setCell]; exact hg, hp, fun j hj => ?_⟩
    rw [World.cell?_setCell_other w _ _ _ (by intro e2; injection e2 with e3; exact hne g hp e3.symm), hx j hj]
theorem RdP.form (h : RdP P w v l) : ∃ p cap, v = .slice p l.length cap ∧ l.length ≤ cap := by
  rcases h with ⟨rfl, rfl⟩ | ⟨g, off, cap, hv, hc, -, -⟩
  · exact ⟨none, 0, rfl, Nat.le_refl _⟩
  · exact ⟨_, cap, hv, hc⟩
theorem RdP.cells {p : Option Addr} {n cap : Nat} (h : RdP P w (.slice p n cap) l) (hl : 0 < l.length) : n = l.length ∧ ∃ g off, p = some ⟨g, off, none⟩ ∧ g < w.heap.size ∧ ∀ j (hj : j < l.length), w.cell? ⟨g, off + j, none⟩ = some (.int .i64 (l[j] : Int)) := by
  rcases h with ⟨_, rfl⟩ | ⟨g, off, cap', hv, hc, hg, hp, hx⟩
  · cases hl
  · injection hv with h1 h2 h3
    exact ⟨h2, g, off, h1, hg, hx⟩
theorem RdP.take {p : Option Addr} {n cap : Nat} (h : RdP P w (.slice p n cap) l) (m : Nat) (hm : m ≤ l.length) : RdP P w (.slice p m cap) (l.take m) := by
  rcases h with ⟨hv, rfl⟩ | ⟨g, off, cap', hv, hc, hg, hp, hx⟩
  · injection hv with h1 h2 h3
    obtain rfl : m = 0 := by simpa using hm
    exact .inl ⟨by rw [h1, h3], rfl⟩
  · injection hv with h1 h2 h3
    subst h1 h3
    refine .inr ⟨g, off, cap, by rw [List.length_take, Nat.min_eq_left hm], by rw [List.length_take]; omega, hg, hp, fun j hj => ?_⟩
    rw [List.length_take] at hj
    rw [hx j (by omega), List.getElem_take]
end
theorem infoInt : (Tryz.prog.info? 3).map (fun i => (i.zero, i.size, i.bytes)) = some (some (.int .i64 0), 1, 8) := by kernel_rfl
def intCellsN (l : List Nat) : List Value := l.map fun (n : Nat) => Value.int .i64 (n : Int)
theorem intCellsN_snoc (l : List Nat) (n : Nat) : intCellsN l ++ [.int .i64 (n : Int)] = intCellsN (l ++ [n]) := by simp [intCellsN]
abbrev IBuf (B : Nat) (v : Value) (l : List Nat) (W0 w : World) : Prop := Lib.OwnBuf B 3 v l.length (intCellsN l) W0 w
theorem IBuf.nil (W0 : World) {w : World} (hb : Below W0.heap.size W0 w) : IBuf W0.heap.size (.slice none 0 0) [] W0 w :=
  ⟨World.ownsRowF_of (World.ownsRow_nil _ _ _ _), hb, hb.size⟩
theorem IBuf.congr {B : Nat} {v : Value} {m : List Nat} {W0 w : World} {n : Nat} {xs : List Value} (h : Lib.OwnBuf B 3 v n xs W0 w) (hn : n = m.length) (hx : xs = intCellsN m) : IBuf B v m W0 w := by
  subst hn hx; exact h
theorem IBuf.later {B : Nat} {v : Value} {l : List Nat} {W0 w w' : World} (h : IBuf B v l W0 w) (hb : Below w.heap.size w w') : IBuf B v l W0 w' := by
  have hg : w.grownBy w' none := ⟨hb.os, hb.tape, hb.output, hb.size, fun k hk _ => hb.block k hk⟩
  refine ⟨h.1.kept hg ?_, h.2.1.grown hg h.2.2 (fun k e => by cases e), Nat.le_trans h.2.2 hb.size⟩
  cases v.ownBlock with
  | none => exact .inl rfl
  | some k => exact .inr (by simp)
theorem IBuf.rd {B : Nat} {v : Value} {l : List Nat} {W0 w : World} (h : IBuf B v l W0 w) : RdP (fun g => B ≤ g) w v l := by
  have h0 := h.1
  obtain ⟨hl, hv⟩ := h0
  rcases hv with ⟨rfl, h0⟩ | ⟨g, cap, cur, fz, rfl, hh⟩
  · exact .inl ⟨rfl, List.eq_nil_of_length_eq_zero h0⟩
  · have hcell := h.1.cells (g := g) rfl
    have hlt := (h.1.lt g rfl).2
    refine .inr ⟨g, 0, cap, rfl, ?_, hlt, (h.1.lt g rfl).1, fun j hj => ?_⟩
    · obtain ⟨-, -, -, hcap, -⟩ := hh
      exact hcap
    · have e := hcell j _ (show (intCellsN l)[j]? = some (.int .i64 (l[j] : Int)) by simp [intCellsN, hj])
      rw [← e]
      by_cases h0 : j = 0
      · subst h0; rfl
      · simp [Addr.add, h0]
theorem append_int {ops : Array Oper} {rest : List Oper} {o : Oper} {a : Act} {Q : Exit → Act → World → Prop} (hgd : o.guard = none) (s x : Operand)
    (ho : o.op = .call { callee := .builtin .append, args := #[s, x], argTypes := #[53, 53] })
    {B : Nat} {v : Value} {l : List Nat} (hs : a.eval s = v) (W0 w0 : World) (c : Nat) {z : Int} (hz : z = (c : Int)) (hb : IBuf B v l W0 w0)
    (hx : a.eval x = .slice (some ⟨w0.heap.size, 0, none⟩) 1 1) (hlen : (l.length + 1) * 8 ≤ 140737488355328)
    (h : ∀ v' w', IBuf B v' (l ++ [c]) W0 w' → wpList Tryz.prog ops Q rest (a.put o.dst v') w') : wpList Tryz.prog ops Q (o :: rest) a (w0.alloc (.cells #[.int .i64 z] 3)) := by
  subst hz
  obtain ⟨i0, hi, hz0, hz1, hz2⟩ := info_parts infoInt
  have hb' := hb.alloc (.cells #[.int .i64 (c : Int)] 3)
  refine wpList_append_ownF _ hgd s x 53 ho B 3 i0 (.int .i64 0) 1 8 Tryz.underlying53 hi hz0 hz1 hz2 rfl (by decide) v l.length (intCellsN l) hs hb'.1 ⟨w0.heap.size, 0, none⟩ 1 1 [.int .i64 (c : Int)] hx rfl ?_ ?_ (by unfold maxLen; omega) hlen hb'.2.2 ?_
  · intro j u hj
    match j, hj with
    | 0, hj => simp at hj; subst hj; simp [Addr.add]
    | (j + 1), hj => simp at hj
  · intro u hu; simp at hu; subst hu; rfl
  · intro v' w' ho' hg _
    exact h v' w' (IBuf.congr (hb'.grown ho' hg) (by rw [List.length_append]; rfl) (intCellsN_snoc l c))
structure IRow (W0 w : World) (g n : Nat) (f : Nat → Int) : Prop where
  own : W0.heap.size ≤ g
  lt : g < w.heap.size
  below : Below W0.heap.size W0 w
  cell : ∀ j, j < n → w.cell? ⟨g, j, none⟩ = some (.int .i64 (f j))
  free : ∀ j, j < n → w.frozen? ⟨g, j, none⟩ = false
theorem IRow.store {W0 w : World} {g n : Nat} {f : Nat → Int} (h : IRow W0 w g n f) (k : Nat) (v : Int) (hk : k < n) : IRow W0 (w.setCell ⟨g, k, none⟩ (.int .i64 v)) g n (upd f k v) := by
  refine ⟨h.own, by rw [World.size_setCell]; exact h.lt, h.below.setCell (p := ⟨g, k, none⟩) h.own _, fun j hj => ?_, fun j hj => by rw [World.frozen?_setCell]; exact h.free j hj⟩
  by_cases e : j = k
  · subst e
    rw [World.cell?_setCell_same w _ _ (h.cell j hj)]
    simp [upd]
  · rw [World.cell?_setCell_other w _ _ _ (by intro e2; injection e2 with _ e3 _; exact e e3.symm), h.cell j hj]
    simp [upd, e]
theorem IRow.congr {W0 w : World} {g n : Nat} {f f' : Nat → Int} (h : IRow W0 w g n f) (he : ∀ j, j < n → f j = f' j) : IRow W0 w g n f' :=
  ⟨h.own, h.lt, h.below, fun j hj => by rw [h.cell j hj, he j hj], h.free⟩
theorem IRow.later {W0 w w' : World} {g n : Nat} {f : Nat → Int} (h : IRow W0 w g n f) (hb : Below w.heap.size w w') : IRow W0 w' g n f :=
  ⟨h.own, Nat.lt_of_lt_of_le h.lt hb.size, h.below.trans ⟨hb.os, hb.tape, hb.output, hb.size, fun k hk => hb.block k (Nat.lt_of_lt_of_le hk h.below.size)⟩,
    fun j hj => by rw [← h.cell j hj]; exact (bcell hb).1 g j h.lt, fun j hj => by rw [← h.free j hj]; exact (bcell hb).2 g j h.lt⟩
theorem IRow.rd {W0 w : World} {g n cap : Nat} {f : Nat → Int} (h : IRow W0 w g n f) (hc : n ≤ cap) (l : List Nat) (hl : l.length = n) (hf : ∀ j (hj : j < l.length), f j = (l[j] : Int)) : RdP (fun b => b = g) w (.slice (some ⟨g, 0, none⟩) n cap) l := by
  subst hl
  refine .inr ⟨g, 0, cap, rfl, hc, h.lt, rfl, fun j hj => ?_⟩
  rw [Nat.zero_add, h.cell j hj, hf j hj]
end Go.Proofs.YtalahkincccffaaGreatDoor
