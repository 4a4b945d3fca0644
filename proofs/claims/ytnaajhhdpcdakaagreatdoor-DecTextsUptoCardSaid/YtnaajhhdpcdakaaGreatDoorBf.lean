/-
  The contracts of strconv's digits and of strings.Repeat at this program's numbers.
  strconv.FormatUint to the base of ten: a number's numeral.
  wide.Text: a number's numeral.
-/
import Derived.Shelf.LaysM
import Derived.Shelf.Strconv.Itoa1
import Derived.Shelf.Strconv.Itoa2
import Derived.Shelf.Strings.Repeat
import Derived.Test.YtnaajhhdpcdakaaGreatDoorProg
import Derived.Test.YtnaajhhdpcdakaaGreatDoorBt
import Derived.Lib.ItoaMem
import Derived.Laws.BytesArg
import Derived.Laws.IdiomStrings
import Derived.Test.YtnaajhhdpcdakaaGreatDoorDigits
import Derived.WalkSmall
namespace Go.Proofs
open Go.Shelf
def Tryz.lays283_ren : Go.Shelf.Ren := ⟨fun | 283 => 95 | n => n, fun | 3 => 3 | 9 => 9 | 4 => 4 | n => n, fun | n => n⟩
theorem Tryz.lays283 : Go.Proofs.Lays.n283 Tryz.prog Tryz.lays283_ren := {
  mixed := by kernel_rfl
  f283 := Tryz.func95.trans (congrArg some (by kernel_rfl))
  t3 := Tryz.underlying3
  a3 := Tryz.isAgg3
  z3 := Tryz.sizeOf3
  v3 := Tryz.zeroValue3
  t4 := Tryz.underlying4
  a4 := Tryz.isAgg4
  z4 := Tryz.sizeOf4
  v4 := Tryz.zeroValue4
  t9 := Tryz.underlying9
  a9 := Tryz.isAgg9
  z9 := Tryz.sizeOf9
  v9 := Tryz.zeroValue9 }
open Go.Lib in
/-- internal/strconv.small: "small returns the string for an i with 0 <= i < nSmalls.": i's decimal numeral. The world is as it was. (LAID: no walk: one application.) -/
theorem Tryz.internal_strconv_small (i : Nat) (h : i < 100) (w : World) :
    Calls Tryz.prog 95 #[.int .i64 i] w fun e w' => e = .returned (.string ⟨(Lib.decDigits i).toArray⟩) ∧ w' = w := Any.internal_strconv_small Tryz.lays283 i h w
def Tryz.laysM284_ren : Go.Shelf.Ren := ⟨fun | 284 => 96 | 129 => 106 | 317 => 107 | 318 => 108 | n => n, fun | 53 => 22 | 3 => 3 | 212 => 76 | 0 => 0 | 4 => 4 | 46 => 78 | 5 => 5 | 9 => 9 | n => n, fun | 17 => 6 | n => n⟩
theorem Tryz.laysM284 : Go.Proofs.LaysM.n284 Tryz.prog Tryz.laysM284_ren := {
  mixed := by kernel_rfl
  f129 := Tryz.func106.trans (congrArg some (by kernel_rfl))
  f284 := Tryz.func96.trans (congrArg some (by kernel_rfl))
  f317 := Tryz.func107.trans (congrArg some (by kernel_rfl))
  f318 := Tryz.func108.trans (congrArg some (by kernel_rfl))
  t0 := Tryz.underlying0
  a0 := Tryz.isAgg0
  z0 := Tryz.sizeOf0
  v0 := Tryz.zeroValue0
  t3 := Tryz.underlying3
  a3 := Tryz.isAgg3
  z3 := Tryz.sizeOf3
  v3 := Tryz.zeroValue3
  t4 := Tryz.underlying4
  a4 := Tryz.isAgg4
  z4 := Tryz.sizeOf4
  v4 := Tryz.zeroValue4
  t5 := Tryz.underlying5
  a5 := Tryz.isAgg5
  z5 := Tryz.sizeOf5
  v5 := Tryz.zeroValue5
  t9 := Tryz.underlying9
  a9 := Tryz.isAgg9
  z9 := Tryz.sizeOf9
  v9 := Tryz.zeroValue9
  t46 := Tryz.underlying78
  a46 := Tryz.isAgg78
  z46 := Tryz.sizeOf78
  v46 := Tryz.zeroValue78
  t53 := Tryz.underlying22
  a53 := Tryz.isAgg22
  z53 := Tryz.sizeOf22
  v53 := Tryz.zeroValue22
  t212 := Tryz.underlying76
  a212 := Tryz.isAgg76
  z212 := Tryz.sizeOf76
  v212 := Tryz.zeroValue76
  g17 := by kernel_rfl
  i0 := by kernel_rfl
  i3 := by kernel_rfl
  i4 := by kernel_rfl
  i5 := by kernel_rfl
  i9 := by kernel_rfl
  i46 := by kernel_rfl
  i53 := by kernel_rfl
  i212 := by kernel_rfl
  m17 := by kernel_rfl }
open Go.Lib in
/-- internal/strconv.numDigits, at a d that is not 0: THE NUMBER OF d's DECIMAL DIGITS. The world is as it was. (LAID: no walk: one application.) -/
theorem Tryz.internal_strconv_numDigits (u : Nat) (h1 : 1 ≤ u) (h2 : u < 18446744073709551616) (w : World) (htab : Lib.TabIs Tryz.prog w "internal/strconv.uint64pow10" .u64 Lib.pow10Tab) :
    Calls Tryz.prog 96 #[.int .u64 u] w fun e w' => e = .returned (.int .i64 (Lib.nDigits u)) ∧ w' = w := Any.internal_strconv_numDigits Tryz.laysM284 u h1 h2 w htab
def Tryz.lays285_ren : Go.Shelf.Ren := ⟨fun | 285 => 97 | n => n, fun | 37 => 83 | 53 => 22 | 3 => 3 | 4 => 4 | 51 => 112 | 9 => 9 | 5 => 5 | 0 => 0 | n => n, fun | n => n⟩
theorem Tryz.lays285 : Go.Proofs.Lays.n285 Tryz.prog Tryz.lays285_ren := {
  mixed := by kernel_rfl
  f285 := Tryz.func97.trans (congrArg some (by kernel_rfl))
  t0 := Tryz.underlying0
  a0 := Tryz.isAgg0
  z0 := Tryz.sizeOf0
  v0 := Tryz.zeroValue0
  t3 := Tryz.underlying3
  a3 := Tryz.isAgg3
  z3 := Tryz.sizeOf3
  v3 := Tryz.zeroValue3
  t4 := Tryz.underlying4
  a4 := Tryz.isAgg4
  z4 := Tryz.sizeOf4
  v4 := Tryz.zeroValue4
  t5 := Tryz.underlying5
  a5 := Tryz.isAgg5
  z5 := Tryz.sizeOf5
  v5 := Tryz.zeroValue5
  t9 := Tryz.underlying9
  a9 := Tryz.isAgg9
  z9 := Tryz.sizeOf9
  v9 := Tryz.zeroValue9
  t37 := Tryz.underlying83
  a37 := Tryz.isAgg83
  z37 := Tryz.sizeOf83
  v37 := Tryz.zeroValue83
  t51 := Tryz.underlying112
  a51 := Tryz.isAgg112
  z51 := Tryz.sizeOf112
  v51 := Tryz.zeroValue112
  t53 := Tryz.underlying22
  a53 := Tryz.isAgg22
  z53 := Tryz.sizeOf22
  v53 := Tryz.zeroValue22 }
open Go.RowKit Go.Sort Go.Lib in
/-- internal/strconv.formatBase10: "formatBase10 formats the decimal representation of u into a. The caller is responsible for ensuring that a is big enough to hold u. If a is too big, leading zeros will be filled in as needed.": THE ROW HOLDS u's DIGITS ('FmtInv .. 0 ..': every place t holds 'dg u (len - 1 - t)'); all else is as it was but for the count of draws. (LAID: no walk: one application.) -/
theorem Tryz.internal_strconv_formatBase10 (blk off cap : Nat) (u : Nat) (d : Array UInt8) (w : World) (hH : Holds (fun (b : UInt8) => Value.int .u8 (b.toNat : Int)) w blk off d) (hu : u < 10 ^ d.size) (hu64 : u < 18446744073709551616) (hsz : d.size < 4611686018427387904) :
    Calls Tryz.prog 97 #[.slice (some ⟨blk, off, none⟩) d.size cap, .int .u64 u] w fun e w' =>
      e = .returned (.tuple #[]) ∧ ∃ (n v' : Nat) (dk : Array UInt8), w' = (putRow (fun (b : UInt8) => Value.int .u8 (b.toNat : Int)) w blk off dk).drewN n ∧ FmtInv d.size u 0 v' dk := Any.internal_strconv_formatBase10 Tryz.lays285 blk off cap u d w hH hu hu64 hsz
def Tryz.lays105_ren : Go.Shelf.Ren := ⟨fun | 105 => 23 | 212 => 53 | 99 => 54 | 165 => 55 | 166 => 56 | 170 => 57 | 169 => 58 | 263 => 78 | 264 => 73 | 206 => 67 | 240 => 79 | 241 => 80 | 276 => 99 | 277 => 100 | n => n, fun | 9 => 9 | 3 => 3 | 4 => 4 | 20 => 20 | 0 => 0 | 46 => 78 | 109 => 79 | 5 => 5 | 72 => 85 | 76 => 89 | 51 => 112 | 146 => 113 | 53 => 22 | 148 => 96 | 70 => 82 | 37 => 83 | 75 => 88 | 127 => 115 | 164 => 132 | 80 => 92 | n => n, fun | n => n⟩
theorem Tryz.lays105 : Go.Proofs.Lays.n105 Tryz.prog Tryz.lays105_ren := {
  mixed := by kernel_rfl
  f99 := Tryz.func54.trans (congrArg some (by kernel_rfl))
  f105 := Tryz.func23.trans (congrArg some (by kernel_rfl))
  f165 := Tryz.func55.trans (congrArg some (by kernel_rfl))
  f166 := Tryz.func56.trans (congrArg some (by kernel_rfl))
  f169 := Tryz.func58.trans (congrArg some (by kernel_rfl))
  f170 := Tryz.func57.trans (congrArg some (by kernel_rfl))
  f206 := Tryz.func67.trans (congrArg some (by kernel_rfl))
  f212 := Tryz.func53.trans (congrArg some (by kernel_rfl))
  f240 := Tryz.func79.trans (congrArg some (by kernel_rfl))
  f241 := Tryz.func80.trans (congrArg some (by kernel_rfl))
  f263 := Tryz.func78.trans (congrArg some (by kernel_rfl))
  f264 := Tryz.func73.trans (congrArg some (by kernel_rfl))
  f276 := Tryz.func99.trans (congrArg some (by kernel_rfl))
  f277 := Tryz.func100.trans (congrArg some (by kernel_rfl))
  t0 := Tryz.underlying0
  a0 := Tryz.isAgg0
  z0 := Tryz.sizeOf0
  v0 := Tryz.zeroValue0
  t3 := Tryz.underlying3
  a3 := Tryz.isAgg3
  z3 := Tryz.sizeOf3
  v3 := Tryz.zeroValue3
  t4 := Tryz.underlying4
  a4 := Tryz.isAgg4
  z4 := Tryz.sizeOf4
  v4 := Tryz.zeroValue4
  t5 := Tryz.underlying5
  a5 := Tryz.isAgg5
  z5 := Tryz.sizeOf5
  v5 := Tryz.zeroValue5
  t9 := Tryz.underlying9
  a9 := Tryz.isAgg9
  z9 := Tryz.sizeOf9
  v9 := Tryz.zeroValue9
  t20 := Tryz.underlying20
  a20 := Tryz.isAgg20
  z20 := Tryz.sizeOf20
  v20 := Tryz.zeroValue20
  t37 := Tryz.underlying83
  a37 := Tryz.isAgg83
  z37 := Tryz.sizeOf83
  v37 := Tryz.zeroValue83
  t46 := Tryz.underlying78
  a46 := Tryz.isAgg78
  z46 := Tryz.sizeOf78
  v46 := Tryz.zeroValue78
  t51 := Tryz.underlying112
  a51 := Tryz.isAgg112
  z51 := Tryz.sizeOf112
  v51 := Tryz.zeroValue112
  t53 := Tryz.underlying22
  a53 := Tryz.isAgg22
  z53 := Tryz.sizeOf22
  v53 := Tryz.zeroValue22
  t70 := Tryz.underlying82
  a70 := Tryz.isAgg82
  z70 := Tryz.sizeOf82
  v70 := Tryz.zeroValue82
  t72 := Tryz.underlying85
  a72 := Tryz.isAgg85
  z72 := Tryz.sizeOf85
  v72 := Tryz.zeroValue85
  t75 := Tryz.underlying88
  a75 := Tryz.isAgg88
  z75 := Tryz.sizeOf88
  v75 := Tryz.zeroValue88
  t76 := Tryz.underlying89
  a76 := Tryz.isAgg89
  z76 := Tryz.sizeOf89
  v76 := Tryz.zeroValue89
  t109 := Tryz.underlying79
  a109 := Tryz.isAgg79
  z109 := Tryz.sizeOf79
  v109 := Tryz.zeroValue79
  t127 := Tryz.underlying115
  a127 := Tryz.isAgg115
  z127 := Tryz.sizeOf115
  v127 := Tryz.zeroValue115
  t146 := Tryz.underlying113
  a146 := Tryz.isAgg113
  z146 := Tryz.sizeOf113
  v146 := Tryz.zeroValue113
  t148 := Tryz.underlying96
  a148 := Tryz.isAgg96
  z148 := Tryz.sizeOf96
  v148 := Tryz.zeroValue96
  t164 := Tryz.underlying132
  a164 := Tryz.isAgg132
  z164 := Tryz.sizeOf132
  v164 := Tryz.zeroValue132 }
theorem Tryz.Builder_Extra_105 : Builder.Extra Tryz.prog Tryz.lays105_ren := {
  sizeBuilder := by kernel_rfl
  liesBuilder := by kernel_rfl
  t5 := Tryz.underlying5
  a5 := Tryz.isAgg5
  z5 := Tryz.sizeOf5
  v5 := Tryz.zeroValue5
  infoByte := by kernel_rfl
  cellsByte := by kernel_rfl
  sizeByte := by kernel_rfl
  neB5 := by decide }
open Go.RowKit Go.Lib in
/-- **strings.Repeat: count ≥ 0, the result within one allocation: count copies of s.** (LAID: no walk: one application.) -/
theorem Tryz.strings_Repeat (s : ByteArray) (c : Nat) (w : World) (hc : c ≤ 9223372036854775807) (hlen : s.size * c ≤ 140737488355328) :
    Calls Tryz.prog 23 #[.string s, .int .i64 c] w fun e w' => e = .returned (.string ⟨(Lib.repeatL s.data.toList c).toArray⟩) ∧ Below w.heap.size w w' := Any.strings_Repeat Tryz.lays105 Tryz.Builder_Extra_105 s c w hc hlen
end Go.Proofs
namespace Go.Proofs.YtnaajhhdpcdakaaGreatDoor
open Go.RowKit Word Num
open Lib (decDigits nDigits)
attribute [local go_sem] setCell_drewN cell?_ext frozen?_ext shape?_ext setCell_ext lt_1' ne_1' en_1' le_1' lt_2' ne_2' en_2' le_2' lt_3' ne_3' en_3' le_3' lt_4' ne_4' en_4' le_4' lt_5' ne_5' en_5' le_5' lt_6' ne_6' en_6' le_6' lt_7' ne_7' en_7' le_7' lt_8' ne_8' en_8' le_8' lt_9' ne_9' en_9' le_9' lt_10' ne_10' en_10' le_10' lt_11' ne_11' en_11' le_11' lt_12' ne_12' en_12' le_12'

/-- the table of powers that strconv reads -/
def PowT (w : World) : Prop := Lib.TabIs Tryz.prog w "internal/strconv.uint64pow10" .u64 Lib.pow10Tab
theorem fin0 (w : World) (o : Obj) (dk : Array UInt8) (k : Nat) : Below w.heap.size w ((Sort.putRow (fun (b : UInt8) => Value.int .u8 (b.toNat : Int)) (w.alloc o) w.heap.size 0 dk).drewN k) := by
  rw [Sort.alloc_eq_grow]
  obtain ⟨os', _, e⟩ := Sort.putRow_grow_new (fun (b : UInt8) => Value.int .u8 (b.toNat : Int)) w #[o] w.heap.size 0 dk (Nat.le_refl _)
  rw [e]
  refine below_drewN ?_ k
  exact ⟨rfl, rfl, rfl, by simp [Sort.grow], fun j hj => by simp [Sort.grow, Array.getElem?_append, hj]⟩
set_option maxHeartbeats 8000000 in
set_option maxRecDepth 100000 in
theorem fmtInner_any (u : Nat) (hu64 : u < 18446744073709551616) (w : World) (htab : PowT w) :
    Calls Tryz.prog 77 #[.int .u64 (u : Int), .int .i64 10] w fun e w' => e = .returned (.string ⟨(decDigits u).toArray⟩) ∧ Below w.heap.size w w' := by
  by_cases hs : u < 100
  · have hsi : (u : Int) < 100 := by omega
    have HS := Lib.hid (fun w => Go.Proofs.Tryz.internal_strconv_small u hs w)
    have hcv : IntKind.i64.wrap (u : Int) = (u : Int) := IntWalk.i64_in _ (by omega)
    clear htab
    go_enter Tryz.func77, Tryz.ntmps77
    go_wp2_with (first
      | (go_at_call 95; ((with_reducible refine (HS.out _).mono ?_); rintro e w' ⟨rfl, rfl⟩)))
    go_ret
    exact ⟨rfl, by (repeat' (first | (with_reducible exact Below.refl _ _) | (with_reducible assumption) | (with_reducible refine Below.alloc ?_ ?_ _) | (with_reducible refine below_drewN ?_ _) | (with_reducible refine below_drew ?_) | (with_reducible refine below_ext ?_ ?_ _ _) | (with_reducible refine Below.setCell ?_ ?_ _) | (simp; done) | (simp; omega) | omega))⟩
  · unfold PowT at htab
    have hu1 : 1 ≤ u := by omega
    have hsi : ¬ (u : Int) < 100 := by omega
    have hnd20 : nDigits u ≤ 20 := by have := Lib.numDigits_eq u hu1 hu64; split at this <;> omega
    have hal : Tryz.prog.arrayLen 128 = 24 := by kernel_rfl
    have hsl1 : ∀ W, (Instr.sliceAt 128 (.pointer (some ⟨w.heap.size, 0, none⟩)) none (some (.int .i64 (nDigits u : Int))) none).run Tryz.prog W = .ok (.slice (some ⟨w.heap.size, 0, none⟩) (nDigits u) 24) W := fun W => by
      rw [run_sliceAt_array_h W 128 ⟨w.heap.size, 0, none⟩ (by simp [Program.arrayLen, Program.elem, Tryz.underlying128]) .i64 (nDigits u : Int) (by omega) (by rw [hal]; omega)]
      go_simp
    have hH0 : Sort.Holds (fun (b : UInt8) => Value.int .u8 (b.toNat : Int)) (w.alloc (.cells Lib.zeros24 128)) w.heap.size 0 (Array.replicate (nDigits u) (0 : UInt8)) := fun j hj => by
      have hj' : j < nDigits u := by simpa using hj
      refine ⟨?_, World.frozen?_alloc_new _ _ _ _⟩
      rw [World.cell?_alloc_new, Lib.zeros24_at _ (by omega), getElem!_pos _ j hj]
      simp
    have hfmt := Go.Proofs.Tryz.internal_strconv_formatBase10 w.heap.size 0 24 u (Array.replicate (nDigits u) 0) (w.alloc (.cells Lib.zeros24 128)) hH0 (by rw [Array.size_replicate]; exact Lib.lt_pow_nDigits u) hu64 (by rw [Array.size_replicate]; omega)
    rw [Array.size_replicate] at hfmt
    have HH0 := Lib.hid hH0
    clear hH0 hal
    go_enter Tryz.func77, Tryz.ntmps77
    go_wp2_with (first
      | (go_at_call 96; ((with_reducible refine (Tryz.internal_strconv_numDigits u hu1 hu64 _ (Lib.tabIs_alloc htab _)).mono ?_); rintro e w' ⟨rfl, rfl⟩)))
    go_at_call 97
    refine hfmt.mono ?_
    rintro e w' ⟨rfl, k, v', dk, rfl, hF⟩
    have hcv : (convert 83 9 (.slice (some ⟨w.heap.size, 0, none⟩) (nDigits u) 24)).run Tryz.prog ((Sort.putRow (fun (b : UInt8) => Value.int .u8 (b.toNat : Int)) (w.alloc (.cells Lib.zeros24 128)) w.heap.size 0 dk).drewN k) = .ok (.string ⟨(decDigits u).toArray⟩) ((Sort.putRow (fun (b : UInt8) => Value.int .u8 (b.toNat : Int)) (w.alloc (.cells Lib.zeros24 128)) w.heap.size 0 dk).drewN k) := by
      have h := run_convert_bytes_back (P := Tryz.prog) ((Sort.putRow (fun (b : UInt8) => Value.int .u8 (b.toNat : Int)) (w.alloc (.cells Lib.zeros24 128)) w.heap.size 0 dk).drewN k) 83 9 5 ⟨w.heap.size, 0, none⟩ 24 (decDigits u) Tryz.underlying83 Tryz.underlying5 Tryz.underlying9 (fun j hj => by
        rw [Lib.row_is_numeral hF j hj, Lib.add_plain, World.cell?_drewN]
        exact Sort.cell?_putRow (fun (b : UInt8) => Value.int .u8 (b.toNat : Int)) _ w.heap.size 0 _ dk HH0.out (by rw [hF.size, Array.size_replicate]) j (by rw [hF.size]; rw [Lib.decDigits_length] at hj; exact hj))
      rw [Lib.decDigits_length] at h
      exact h
    go_wp2
    go_ret
    exact ⟨rfl, fin0 w _ dk k⟩
theorem fmt_any (u : Nat) (hu64 : u < 18446744073709551616) (w : World) (htab : PowT w) :
    Calls Tryz.prog 52 #[.int .u64 (u : Int), .int .i64 10] w fun e w' => e = .returned (.string ⟨(decDigits u).toArray⟩) ∧ Below w.heap.size w w' := by
  have HS := Lib.hid (fun w htab => fmtInner_any u hu64 w htab)
  go_enter Tryz.func52, Tryz.ntmps52
  go_wp2_with (first
    | (go_at_call 77; ((with_reducible refine (HS.out _ htab).mono ?_); rintro e w1 ⟨rfl, hb1⟩; obtain ⟨osA, dA, rfl⟩ := ext_of_below hb1; clear hb1)))
  go_ret
  exact ⟨rfl, by (repeat' (first | (with_reducible exact Below.refl _ _) | (with_reducible assumption) | (with_reducible refine Below.alloc ?_ ?_ _) | (with_reducible refine below_drewN ?_ _) | (with_reducible refine below_drew ?_) | (with_reducible refine below_ext ?_ ?_ _ _) | (with_reducible refine Below.setCell ?_ ?_ _) | (simp; done) | (simp; omega) | omega))⟩
end Go.Proofs.YtnaajhhdpcdakaaGreatDoor
namespace Go.Proofs.YtnaajhhdpcdakaaGreatDoor
open Go.RowKit Num Word
open Lib (decDigits)
attribute [local go_sem] setCell_drewN cell?_ext frozen?_ext shape?_ext setCell_ext lt_1' ne_1' en_1' le_1' lt_2' ne_2' en_2' le_2' lt_3' ne_3' en_3' le_3' lt_4' ne_4' en_4' le_4' lt_5' ne_5' en_5' le_5' lt_6' ne_6' en_6' le_6' lt_7' ne_7' en_7' le_7' lt_8' ne_8' en_8' le_8' lt_9' ne_9' en_9' le_9' lt_10' ne_10' en_10' le_10' lt_11' ne_11' en_11' le_11' lt_12' ne_12' en_12' le_12'

theorem gPowT : Tryz.prog.globalNamed "internal/strconv.uint64pow10" = some 6 := by kernel_rfl
/-- both tables lie -/
structure TenPow (w : World) : Prop where
  tens : Tens w
  pow : PowT w
  in1 : 6 < w.heap.size
theorem TenPow.below {w w' : World} (h : TenPow w) (hb : Below w.heap.size w w') : TenPow w' :=
  ⟨h.tens.below hb, var?_below hb gPowT h.in1 h.pow, by have := hb.size; have := h.in1; omega⟩
theorem repT_any (c : Int) (h0 : 0 ≤ c) (h : c ≤ 1000) (w : World) :
    Calls Tryz.prog 23 #[.string { data := #[48] }, .int .i64 c] w fun e w' => e = .returned (.string ⟨(Lib.repeatL [48] c.toNat).toArray⟩) ∧ Below w.heap.size w w' := by
  obtain ⟨k, rfl⟩ : ∃ k : Nat, c = k := ⟨c.toNat, by omega⟩
  exact Tryz.strings_Repeat { data := #[48] } k w (by omega) (by show 1 * k ≤ _; omega)
theorem repL (k : Nat) : Lib.repeatL [48] k = List.replicate k 48 := by
  induction k with
  | zero => rfl
  | succ k ih => rw [Lib.repeatL, ih, List.replicate_succ]; rfl
def strLen : Value → Nat | .string s => s.size | _ => 0
theorem mkP_append (a b : List UInt8) : (⟨a.toArray⟩ : ByteArray) ++ ⟨b.toArray⟩ = ⟨(a ++ b).toArray⟩ := by apply ByteArray.ext; simp
theorem str_eqP {a b : ByteArray} (h : a = b) : Ending.returned (.string a) = .returned (.string b) := by rw [h]
theorem div_word (n q r : Nat) (hq : q = n / 10000000000000000000) (hr : r = n % 10000000000000000000) (hn : n < top4) (w : World) :
    Calls Tryz.prog 50 #[L n, .int .u64 10000000000000000000] w fun e w' => e = .returned (.tuple #[L q, .int .u64 (r : Int)]) ∧ Below w.heap.size w w' := by
  subst hq
  exact divWord_any n 10000000000000000000 r hr hn (by omega) (by omega) w
theorem text_step {n q r k q' d : Nat} (hn : n = q * 10 ^ (19 * k) + r) (hr : r < 10 ^ (19 * k)) (hq : q' = q / 10000000000000000000) (hd : d = q % 10000000000000000000) :
    n = q' * 10 ^ (19 * (k + 1)) + (d * 10 ^ (19 * k) + r) ∧ d * 10 ^ (19 * k) + r < 10 ^ (19 * (k + 1)) ∧ padT (19 * (k + 1)) (d * 10 ^ (19 * k) + r) = padT 19 d ++ padT (19 * k) r := by
  have e : 10 ^ (19 * (k + 1)) = 10000000000000000000 * 10 ^ (19 * k) := by rw [Nat.mul_add, Nat.pow_add, Nat.mul_comm]
  have hq2 : q = q' * 10000000000000000000 + d := by omega
  have hd2 : d ≤ 9999999999999999999 := by omega
  refine ⟨?_, ?_, ?_⟩
  · rw [e, hn, hq2, Nat.add_mul, Nat.mul_assoc, Nat.add_assoc]
  · rw [e]
    have h1 : d * 10 ^ (19 * k) ≤ 9999999999999999999 * 10 ^ (19 * k) := Nat.mul_le_mul_right _ hd2
    generalize 10 ^ (19 * k) = y at *
    omega
  · rw [show 19 * (k + 1) = 19 + 19 * k by omega]; exact padT_app 19 d _ _ hr
theorem text_pad {d : Nat} (h : d < 10000000000000000000) : List.replicate (19 - (decDigits d).length) 48 ++ decDigits d = padT 19 d := (padT_is 18 d h).symm
theorem text_end {n q r k : Nat} (hn : n = q * 10 ^ (19 * k) + r) (hr : r < 10 ^ (19 * k)) (hq : 0 < q ∨ k = 0) : decDigits q ++ padT (19 * k) r = decDigits n := by
  rcases hq with hq | rfl
  · rw [hn, dd_split _ _ _ hq hr]
  · obtain rfl : r = 0 := by simpa using hr
    rw [hn]; simp [padT]
theorem text_few {n q r k : Nat} (hn : n = q * 10 ^ (19 * k) + r) (hl : n < top2) (hq : 18446744073709551616 ≤ q) : k ≤ 1 := by
  by_cases h : k ≤ 1
  · exact h
  · have h1 : 10 ^ (19 * 2) ≤ 10 ^ (19 * k) := Nat.pow_le_pow_right (by decide) (by omega)
    have h2 : 18446744073709551616 * 10 ^ (19 * 2) ≤ q * 10 ^ (19 * k) := Nat.mul_le_mul hq h1
    have h3 : top2 < 18446744073709551616 * 10 ^ (19 * 2) := by decide
    omega
set_option maxRecDepth 100000 in
set_option maxHeartbeats 8000000 in
theorem text_any (n : Nat) (hn : n < top2) (w : World) (hl : TenPow w) :
    Calls Tryz.prog 22 #[W n] w fun e w' => e = .returned (.string ⟨(decDigits n).toArray⟩) ∧ Below w.heap.size w w' := by
  have HT := Lib.hid (fun w' (hb : Below w.heap.size w w') => hl.below hb)
  have HG := Lib.hid (fun w' (hb : Below w.heap.size w w') => show w'.cell? ⟨0, 19, none⟩ = some (.int .u64 10000000000000000000) from (hl.below hb).tens.2 19 (by decide))
  clear hl
  go_enter Tryz.func22, Tryz.ntmps22
  go_wp2_with fail
  go_loopw [3] (fun tv wr => ∃ (q r k : Nat) (x : ByteArray), tv = .string x ∧ x.size = 19 * k ∧ q < top2 ∧ Hid (x = ⟨(padT (19 * k) r).toArray⟩) ∧ Hid (n = q * 10 ^ (19 * k) + r) ∧ Hid (r < 10 ^ (19 * k)) ∧ (0 < q ∨ k = 0) ∧ Below (w.alloc (.cells #[.int .u64 (hi q : Int), .int .u64 (lo q : Int)] 24)).heap.size (w.alloc (.cells #[.int .u64 (hi q : Int), .int .u64 (lo q : Int)] 24)) wr) (fun tv _ => 100 - strLen tv)
  case atStart => exact ⟨n, 0, 0, _, rfl, rfl, hn, Lib.hid rfl, Lib.hid (by simp), Lib.hid (by decide), .inr rfl, Below.refl _ _⟩
  case round =>
    obtain ⟨q, r, k, x, rfl, hx, hq2, hX, hN, hR, h0, hbw⟩ := hrel
    obtain ⟨osX, dX, rfl⟩ := ext_of_below hbw
    clear hbw
    by_cases hhi : hi q = 0
    · have hB : ((hi q : Int) != 0) = false := by rw [hhi]; rfl
      have hlo : lo q = q := by have := hilo q; rw [hhi] at this; omega
      have hk2 : k ≤ 2 := by
        rcases Nat.lt_or_ge 2 k with h | h
        · exfalso
          have h1 : 10 ^ (19 * 3) ≤ 10 ^ (19 * k) := Nat.pow_le_pow_right (by decide) (by omega)
          have h2 : 1 * 10 ^ (19 * 3) ≤ q * 10 ^ (19 * k) := Nat.mul_le_mul (by omega) h1
          have h3 : top2 < 1 * 10 ^ (19 * 3) := by decide
          have := hN.out
          omega
        · exact h
      have hx100 : x.size ≤ 100 := by omega
      have HF := Lib.hid (fun w1 h1 => fmt_any (lo q) (lo_lt q) w1 h1)
      obtain ⟨t, ht⟩ : ∃ t : ByteArray, t = ⟨(decDigits (lo q)).toArray⟩ := ⟨_, rfl⟩
      have ht100 : t.size ≤ 100 := by
        rw [ht]; show (decDigits (lo q)).toArray.size ≤ 100
        rw [List.size_toArray]
        have := dd_len 38 (lo q) (Nat.lt_trans (lo_lt q) (by decide))
        omega
      have HE := Lib.hid (show t ++ x = ⟨(decDigits n).toArray⟩ by
        rw [ht, hX.out, mkP_append, hlo, text_end hN.out hR.out h0])
      rw [← ht] at HF
      clear ht hlo hhi hx hX hN hR h0 hk2
      go_wp2_with (go_at_call 52; ((with_reducible refine (HF.out _ (HT.out _ (by (repeat' (first | (with_reducible exact Below.refl _ _) | (with_reducible assumption) | (with_reducible refine Below.alloc ?_ ?_ _) | (with_reducible refine below_drewN ?_ _) | (with_reducible refine below_drew ?_) | (with_reducible refine below_ext ?_ ?_ _ _) | (with_reducible refine Below.setCell ?_ ?_ _) | (simp; done) | (simp; omega) | omega)))).pow).mono ?_); rintro e w1 ⟨rfl, hb1⟩; obtain ⟨osF, dF, rfl⟩ := ext_of_below hb1; clear hb1))
      go_ret
      exact ⟨str_eqP HE.out, by (repeat' (first | (with_reducible exact Below.refl _ _) | (with_reducible assumption) | (with_reducible refine Below.alloc ?_ ?_ _) | (with_reducible refine below_drewN ?_ _) | (with_reducible refine below_drew ?_) | (with_reducible refine below_ext ?_ ?_ _ _) | (with_reducible refine Below.setCell ?_ ?_ _) | (simp; done) | (simp; omega) | omega))⟩
    · have hB : ((hi q : Int) != 0) = true := by simp; omega
      have hq64 : 18446744073709551616 ≤ q := by have := hilo q; omega
      have hk1 : k ≤ 1 := text_few hN.out hn hq64
      obtain ⟨q', hq'⟩ : ∃ q', q' = q / 10000000000000000000 := ⟨_, rfl⟩
      obtain ⟨d, hd⟩ : ∃ d, d = q % 10000000000000000000 := ⟨_, rfl⟩
      have hd19 : d < 10000000000000000000 := by omega
      have hd64 : d < 18446744073709551616 := by omega
      have hq0 : 0 < q' := by omega
      have hq2' : q' < top2 := by omega
      have hq4 : q < top4 := by unfold top2 top4 at *; omega
      obtain ⟨g1, g0⟩ := two_words (q := q') hq2'
      obtain ⟨s1, s2, s3⟩ := text_step hN.out hR.out hq' hd
      have HL := Lib.hid (long_any q hq2)
      have HD := Lib.hid (div_word q q' d hq' hd hq4)
      have HF := Lib.hid (fun w1 h1 => fmt_any d hd64 w1 h1)
      obtain ⟨t, ht⟩ : ∃ t : ByteArray, t = ⟨(decDigits d).toArray⟩ := ⟨_, rfl⟩
      have htz : t.size = (decDigits d).length := by rw [ht]; rfl
      have ht19 : t.size ≤ 19 := by rw [htz]; exact dd_len 18 d hd19
      have hrp := fun w1 => repT_any (19 - (t.size : Int)) (by omega) (by omega) w1
      rw [show (19 - (t.size : Int)).toNat = 19 - t.size by omega, repL] at hrp
      obtain ⟨p, hp⟩ : ∃ p : ByteArray, p = ⟨(List.replicate (19 - t.size) 48).toArray⟩ := ⟨_, rfl⟩
      have hpz : p.size = 19 - t.size := by rw [hp]; show (List.replicate (19 - t.size) (48 : UInt8)).toArray.size = _; simp
      rw [← hp] at hrp
      rw [← ht] at HF
      have HRP := Lib.hid hrp
      have HX := Lib.hid (show p ++ t ++ x = ⟨(padT (19 * (k + 1)) (d * 10 ^ (19 * k) + r)).toArray⟩ by
        rw [s3, ← text_pad hd19, ← htz, hX.out, hp]; rw [show t = ⟨(decDigits d).toArray⟩ from ht, mkP_append, mkP_append])
      have HZ := Lib.hid (show (p ++ t ++ x).size = 19 * (k + 1) by rw [ByteArray.size_append, ByteArray.size_append]; omega)
      have HXS := Lib.hid hx
      have HN := Lib.hid s1; have HR := Lib.hid s2; have hx100 : x.size ≤ 100 := by omega
      have hp19 : p.size ≤ 19 := by omega
      have hpt : (p ++ t).size ≤ 19 := by rw [ByteArray.size_append]; omega
      clear s1 s2 s3 ht htz hp hpz hrp hX hN hR h0 hq' hd hq64 hhi hx
      go_wp2_with fail
      go_region_held3 (fun w' => w'.cell? ⟨w.heap.size, 0, none⟩ = some (.int .u64 (hi q : Int)) ∧ w'.cell? ⟨w.heap.size, 1, none⟩ = some (.int .u64 (lo q : Int)) ∧ w'.cell? ⟨0, 19, none⟩ = some (.int .u64 10000000000000000000)) (exact ⟨by simp [go_sem], by simp [go_sem], HG.out _ (by (repeat' (first | (with_reducible exact Below.refl _ _) | (with_reducible assumption) | (with_reducible refine Below.alloc ?_ ?_ _) | (with_reducible refine below_drewN ?_ _) | (with_reducible refine below_drew ?_) | (with_reducible refine below_ext ?_ ?_ _ _) | (with_reducible refine Below.setCell ?_ ?_ _) | (simp; done) | (simp; omega) | omega)))⟩) (first
        | (go_at_call 51; ((with_reducible refine (HL.out _).mono ?_); rintro e w1 ⟨rfl, hb1⟩; obtain ⟨osL, dL, rfl⟩ := ext_of_below hb1; clear hb1))
        | (go_at_call 50; ((with_reducible refine (HD.out _).mono ?_); rintro e w1 ⟨rfl, hb1⟩; obtain ⟨osD, dD, rfl⟩ := ext_of_below hb1; clear hb1)))
      all_goals
        go_wp2_with (first
          | (go_at_call 52; ((with_reducible refine (HF.out _ (HT.out _ (by (repeat' (first | (with_reducible exact Below.refl _ _) | (with_reducible assumption) | (with_reducible refine Below.alloc ?_ ?_ _) | (with_reducible refine below_drewN ?_ _) | (with_reducible refine below_drew ?_) | (with_reducible refine below_ext ?_ ?_ _ _) | (with_reducible refine Below.setCell ?_ ?_ _) | (simp; done) | (simp; omega) | omega)))).pow).mono ?_); rintro e w1 ⟨rfl, hb1⟩; obtain ⟨osF, dF, rfl⟩ := ext_of_below hb1; clear hb1))
          | (go_at_call 23; ((with_reducible refine (HRP.out _).mono ?_); rintro e w1 ⟨rfl, hb1⟩; obtain ⟨osR, dR, rfl⟩ := ext_of_below hb1; clear hb1)))
        go_roundw
        case rel => exact ⟨q', d * 10 ^ (19 * k) + r, k + 1, p ++ t ++ x, rfl, HZ.out, hq2', HX, HN, HR, .inl hq0, by (repeat' (first | (with_reducible exact Below.refl _ _) | (with_reducible assumption) | (with_reducible refine Below.alloc ?_ ?_ _) | (with_reducible refine below_drewN ?_ _) | (with_reducible refine below_drew ?_) | (with_reducible refine below_ext ?_ ?_ _ _) | (with_reducible refine Below.setCell ?_ ?_ _) | (simp; done) | (simp; omega) | omega))⟩
        case measure =>
          have h2 := HZ.out
          have h3 := HXS.out
          show 100 - (p ++ t ++ x).size < 100 - x.size
          omega
end Go.Proofs.YtnaajhhdpcdakaaGreatDoor
