/-
  NARROWER THAN 'FOR EVERY INPUT', by the rows' own cells (each row's printed sentence says how): CheckExprs: laid · CheckTests: laid.
  DERIVED. THE GIVEN ROWS OF THIS SEAT. 2 by the template 'for every input the law returns true; each argument reads behind the call as it read before'; 0 by the template 'total and deterministic' (their statements: YtalahkincccffaaGreatDoorTotals.lean).
  GIVEN WITH THE SEED: the statements are not yours to turn. If you find one false, say at which input.
  Laid BY PROGRAM, IN A SANDBOX (cutbox-rows.mjs): the forced cells as the released guide's own fill.sh prints them over the translation 04aec777a5b46fa3… (all of the seat's roots in one cut). By AI agents, Wed Nov 11 2026. No macro, syntax, notation, axiom, sorry.
-/
import Derived.Test.YtalahkincccffaaGreatDoorChecked
import GoSem.PinnedTables
import GoSem.Claim
import GoSem.ClaimJoined
import GoSem.ClaimMapViews
import Derived.JoinedTies
import Derived.KernelRfl
namespace Go.Proofs.YtalahkincccffaaGreatDoor
/- THE CELL 'sum', in the pinned program and in every row, IS THE sha256 OF THE DUMP (.gsa) THAT YtalahkincccffaaGreatDoorProg.lean LOADS. Nothing in Lean hashes anything: it is a label: what it is worth is what the hold of that sum in a sandbox is worth. -/
noncomputable def Tryz.pinned : Pinned := { name := "ytalahkincccffaagreatdoor", sum := "04aec777a5b46fa3e54d980e2bda81ab96c1513cb569a9c13d879f3203584b7e", checked := Tryz.checked }
namespace Rows
def none {H : Type} : Left H := { results := [], args := [] }

/- WHAT THE LISTED PACKAGE-LEVEL VARIABLES READ AS WHEN THE CALL BEGINS. Each datum BY PROGRAM (the guide's laid-datum.mjs) off the statement by which the dump's own 'gosem.cut.vars' lays the variable. In a bare row this is a premise. The card (YtalahkincccffaaGreatDoorCards.lean) ties it to the program's text. -/
def laid_unicode_utf8_acceptRanges {H : Type} : DataW H := .agg [.agg [.lit (.int .u8 128), .lit (.int .u8 191)], .agg [.lit (.int .u8 160), .lit (.int .u8 191)], .agg [.lit (.int .u8 128), .lit (.int .u8 159)], .agg [.lit (.int .u8 144), .lit (.int .u8 191)], .agg [.lit (.int .u8 128), .lit (.int .u8 143)], .agg [.lit (.int .u8 0), .lit (.int .u8 0)], .agg [.lit (.int .u8 0), .lit (.int .u8 0)], .agg [.lit (.int .u8 0), .lit (.int .u8 0)], .agg [.lit (.int .u8 0), .lit (.int .u8 0)], .agg [.lit (.int .u8 0), .lit (.int .u8 0)], .agg [.lit (.int .u8 0), .lit (.int .u8 0)], .agg [.lit (.int .u8 0), .lit (.int .u8 0)], .agg [.lit (.int .u8 0), .lit (.int .u8 0)], .agg [.lit (.int .u8 0), .lit (.int .u8 0)], .agg [.lit (.int .u8 0), .lit (.int .u8 0)], .agg [.lit (.int .u8 0), .lit (.int .u8 0)]]
def laid_tariff_wide_tens {H : Type} : DataW H := .agg [.lit (.int .u64 1), .lit (.int .u64 10), .lit (.int .u64 100), .lit (.int .u64 1000), .lit (.int .u64 10000), .lit (.int .u64 100000), .lit (.int .u64 1000000), .lit (.int .u64 10000000), .lit (.int .u64 100000000), .lit (.int .u64 1000000000), .lit (.int .u64 10000000000), .lit (.int .u64 100000000000), .lit (.int .u64 1000000000000), .lit (.int .u64 10000000000000), .lit (.int .u64 100000000000000), .lit (.int .u64 1000000000000000), .lit (.int .u64 10000000000000000), .lit (.int .u64 100000000000000000), .lit (.int .u64 1000000000000000000), .lit (.int .u64 10000000000000000000)]
def laid_tariff_check_anything {H : Type} : DataW H := .agg [.lit (.int .i64 0), .lit (.int .i64 0)]
def laid_tariff_check_boolean {H : Type} : DataW H := .agg [.lit (.int .i64 1), .lit (.int .i64 0)]
def laid_tariff_check_number {H : Type} : DataW H := .agg [.lit (.int .i64 2), .lit (.int .i64 0)]
def laid_tariff_check_text {H : Type} : DataW H := .agg [.lit (.int .i64 3), .lit (.int .i64 0)]
def laid_tariff_check_day {H : Type} : DataW H := .agg [.lit (.int .i64 4), .lit (.int .i64 0)]
def laid_tariff_check_list {H : Type} : DataW H := .agg [.lit (.int .i64 5), .lit (.int .i64 0)]
def laid_tariff_check_numbers {H : Type} : DataW H := .agg [.lit (.int .i64 5), .lit (.int .i64 2)]
/-- One of Go's own tables, pinned by name: the form's constant. -/
def laid_unicode_utf8_first : DataW Unit := Go.Pinned.utf8First

/-- 'tarifflaw13.CheckExprs': WHATEVER THE INPUT: true; the input reads as it did. -/
def checkExprsSpec : ChangeSpec := { name := "checkExprs", fn := fun _ => fun
  | [d1, d2] => { results := [.lit (.bool true)], args := [d1, d2] }
  | _ => none }
def checkExprsRow : OpenClaim := { program := "ytalahkincccffaagreatdoor", sum := "04aec777a5b46fa3e54d980e2bda81ab96c1513cb569a9c13d879f3203584b7e", func := "tariff/tarifflaw13.CheckExprs", spec := "checkExprs", inPlace := ["math/bits.Add64", "math/bits.Sub64"], unfollowed := true, recurses := true, named := ["unicode/utf8.first", "unicode/utf8.acceptRanges", "tariff/wide.tens", "math/bits.divideError", "math/bits.overflowError", "tariff/check.boolean", "tariff/check.number", "tariff/check.numbers", "tariff/check.list", "tariff/check.text", "tariff/check.day", "tariff/check.anything"], apart := false, laid := [("unicode/utf8.acceptRanges", laid_unicode_utf8_acceptRanges), ("tariff/wide.tens", laid_tariff_wide_tens), ("tariff/check.anything", laid_tariff_check_anything), ("tariff/check.boolean", laid_tariff_check_boolean), ("tariff/check.number", laid_tariff_check_number), ("tariff/check.text", laid_tariff_check_text), ("tariff/check.day", laid_tariff_check_day), ("tariff/check.list", laid_tariff_check_list), ("tariff/check.numbers", laid_tariff_check_numbers), ("unicode/utf8.first", laid_unicode_utf8_first)] }
def CheckExprsSaid : Prop := checkExprsRow.holds Tryz.pinned (OpenSpec.ofChange checkExprsSpec)

/-- ITS FALSE NEIGHBOUR: 'it returns false'. Refute it at one input. -/
def checkExprsWrong : ChangeSpec := { name := "checkExprs", fn := fun _ => fun
  | [d1, d2] => { results := [.lit (.bool false)], args := [d1, d2] }
  | _ => none }
def CheckExprsWrongFalsely : Prop := checkExprsRow.holds Tryz.pinned (OpenSpec.ofChange checkExprsWrong)

/-- 'tarifflaw13.CheckTests': WHATEVER THE INPUT: true; the input reads as it did. -/
def checkTestsSpec : ChangeSpec := { name := "checkTests", fn := fun _ => fun
  | [d1, d2, d3] => { results := [.lit (.bool true)], args := [d1, d2, d3] }
  | _ => none }
def checkTestsRow : OpenClaim := { program := "ytalahkincccffaagreatdoor", sum := "04aec777a5b46fa3e54d980e2bda81ab96c1513cb569a9c13d879f3203584b7e", func := "tariff/tarifflaw13.CheckTests", spec := "checkTests", inPlace := ["math/bits.Add64", "math/bits.Sub64"], unfollowed := true, recurses := true, named := ["unicode/utf8.first", "unicode/utf8.acceptRanges", "tariff/wide.tens", "math/bits.divideError", "math/bits.overflowError", "tariff/check.boolean", "tariff/check.number", "tariff/check.numbers", "tariff/check.list", "tariff/check.text", "tariff/check.day", "tariff/check.anything"], apart := false, laid := [("unicode/utf8.acceptRanges", laid_unicode_utf8_acceptRanges), ("tariff/wide.tens", laid_tariff_wide_tens), ("tariff/check.anything", laid_tariff_check_anything), ("tariff/check.boolean", laid_tariff_check_boolean), ("tariff/check.number", laid_tariff_check_number), ("tariff/check.text", laid_tariff_check_text), ("tariff/check.day", laid_tariff_check_day), ("tariff/check.list", laid_tariff_check_list), ("tariff/check.numbers", laid_tariff_check_numbers), ("unicode/utf8.first", laid_unicode_utf8_first)] }
def CheckTestsSaid : Prop := checkTestsRow.holds Tryz.pinned (OpenSpec.ofChange checkTestsSpec)

/-- ITS FALSE NEIGHBOUR: 'it returns false'. Refute it at one input. -/
def checkTestsWrong : ChangeSpec := { name := "checkTests", fn := fun _ => fun
  | [d1, d2, d3] => { results := [.lit (.bool false)], args := [d1, d2, d3] }
  | _ => none }
def CheckTestsWrongFalsely : Prop := checkTestsRow.holds Tryz.pinned (OpenSpec.ofChange checkTestsWrong)

/- THE SECOND FORM. 'bulk': how many values and letters a reading holds, each counted each time it is reached (what is shared counts as often as it is met; a slice's spare places count too). A statement '..UptoSaid' is the law's where the arguments, and the package variables that the reading takes, are together of bulk at most 1048576: NARROWER than '..Said'. Prove '..Said' where nothing that the law and all that it calls make is longer than what came in: it says more and counts as full. Else prove '..UptoSaid'. A law counts once. -/
mutual
def uptoBulk {H : Type} : DataW H → Nat
  | .lit (.string bytes) => bytes.length + 1
  | .lit _ => 1
  | .nil => 1
  | .ptr d => uptoBulk d + 1
  | .slice elems spare => uptoBulkAll elems + uptoBulkAll spare + 1
  | .agg parts => uptoBulkAll parts + 1
  | .iface _ d => uptoBulk d + 1
  | .map entries => uptoBulkEntries entries + 1
  | .held _ => 1
def uptoBulkAll {H : Type} : List (DataW H) → Nat
  | [] => 0
  | d :: r => uptoBulk d + uptoBulkAll r
def uptoBulkEntries {H : Type} : List (Lit × DataW H) → Nat
  | [] => 0
  | x :: r => uptoBulkEntry x + uptoBulkEntries r
def uptoBulkEntry {H : Type} : Lit × DataW H → Nat
  | (.string bytes, d) => bytes.length + uptoBulk d + 1
  | (_, d) => uptoBulk d + 1
 end
def uptoSmall : (H : Type) → List (DataW H) → Bool := fun _ ds => decide (uptoBulkAll ds ≤ 1048576)
def OpenSpec.upto (s : _root_.Go.ChangeSpec) : _root_.Go.OpenSpec := { _root_.Go.OpenSpec.ofChange s with cond := some uptoSmall }

/-- 'tarifflaw13.CheckExprs', WHERE WHAT IT READS IS OF BULK AT MOST 1048576: true; the input reads as it did. -/
def checkExprsUptoRow : OpenClaim := { program := "ytalahkincccffaagreatdoor", sum := "04aec777a5b46fa3e54d980e2bda81ab96c1513cb569a9c13d879f3203584b7e", func := "tariff/tarifflaw13.CheckExprs", spec := "checkExprs", inPlace := ["math/bits.Add64", "math/bits.Sub64"], unfollowed := true, recurses := true, named := ["unicode/utf8.first", "unicode/utf8.acceptRanges", "tariff/wide.tens", "math/bits.divideError", "math/bits.overflowError", "tariff/check.boolean", "tariff/check.number", "tariff/check.numbers", "tariff/check.list", "tariff/check.text", "tariff/check.day", "tariff/check.anything"], apart := false, laid := [("unicode/utf8.acceptRanges", laid_unicode_utf8_acceptRanges), ("tariff/wide.tens", laid_tariff_wide_tens), ("tariff/check.anything", laid_tariff_check_anything), ("tariff/check.boolean", laid_tariff_check_boolean), ("tariff/check.number", laid_tariff_check_number), ("tariff/check.text", laid_tariff_check_text), ("tariff/check.day", laid_tariff_check_day), ("tariff/check.list", laid_tariff_check_list), ("tariff/check.numbers", laid_tariff_check_numbers), ("unicode/utf8.first", laid_unicode_utf8_first)], narrowed := true }
def CheckExprsUptoSaid : Prop := checkExprsUptoRow.holds Tryz.pinned (OpenSpec.upto checkExprsSpec)

/-- 'tarifflaw13.CheckTests', WHERE WHAT IT READS IS OF BULK AT MOST 1048576: true; the input reads as it did. -/
def checkTestsUptoRow : OpenClaim := { program := "ytalahkincccffaagreatdoor", sum := "04aec777a5b46fa3e54d980e2bda81ab96c1513cb569a9c13d879f3203584b7e", func := "tariff/tarifflaw13.CheckTests", spec := "checkTests", inPlace := ["math/bits.Add64", "math/bits.Sub64"], unfollowed := true, recurses := true, named := ["unicode/utf8.first", "unicode/utf8.acceptRanges", "tariff/wide.tens", "math/bits.divideError", "math/bits.overflowError", "tariff/check.boolean", "tariff/check.number", "tariff/check.numbers", "tariff/check.list", "tariff/check.text", "tariff/check.day", "tariff/check.anything"], apart := false, laid := [("unicode/utf8.acceptRanges", laid_unicode_utf8_acceptRanges), ("tariff/wide.tens", laid_tariff_wide_tens), ("tariff/check.anything", laid_tariff_check_anything), ("tariff/check.boolean", laid_tariff_check_boolean), ("tariff/check.number", laid_tariff_check_number), ("tariff/check.text", laid_tariff_check_text), ("tariff/check.day", laid_tariff_check_day), ("tariff/check.list", laid_tariff_check_list), ("tariff/check.numbers", laid_tariff_check_numbers), ("unicode/utf8.first", laid_unicode_utf8_first)], narrowed := true }
def CheckTestsUptoSaid : Prop := checkTestsUptoRow.holds Tryz.pinned (OpenSpec.upto checkTestsSpec)

end Rows
end Go.Proofs.YtalahkincccffaaGreatDoor
