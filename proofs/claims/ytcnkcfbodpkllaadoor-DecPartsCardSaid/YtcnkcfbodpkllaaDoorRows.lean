/-
  NARROWER THAN 'FOR EVERY INPUT', by the rows' own cells (each row's printed sentence says how): DecProducts: laid · DecNeighbours: laid · DecOrders: laid · DecBetween: laid · DecParts: laid.
  DERIVED. THE GIVEN ROWS OF THIS SEAT. 5 by the template 'for every input the law returns true; each argument reads behind the call as it read before'; 0 by the template 'total and deterministic' (their statements: YtcnkcfbodpkllaaDoorTotals.lean).
  GIVEN WITH THE SEED: the statements are not yours to turn. If you find one false, say at which input.
  Laid BY PROGRAM, IN A SANDBOX (cutbox-rows.mjs): the forced cells as the released guide's own fill.sh prints them over the translation 36e729e32babdeb8… (all of the seat's roots in one cut). By AI agents, Wed Nov 11 2026. No macro, syntax, notation, axiom, sorry.
-/
import Derived.Test.YtcnkcfbodpkllaaDoorChecked
import GoSem.Claim
import GoSem.ClaimJoined
import GoSem.ClaimMapViews
import Derived.JoinedTies
import Derived.KernelRfl
namespace Go.Proofs.YtcnkcfbodpkllaaDoor
/- THE CELL 'sum', in the pinned program and in every row, IS THE sha256 OF THE DUMP (.gsa) THAT YtcnkcfbodpkllaaDoorProg.lean LOADS. Nothing in Lean hashes anything: it is a label: what it is worth is what the hold of that sum in a sandbox is worth. -/
noncomputable def Tryd.pinned : Pinned := { name := "ytcnkcfbodpkllaadoor", sum := "36e729e32babdeb81808bf30a2bf496784bdb36a6fc395a642b9196dfd2d1e86", checked := Tryd.checked }
namespace Rows
def none {H : Type} : Left H := { results := [], args := [] }

/- WHAT THE LISTED PACKAGE-LEVEL VARIABLES READ AS WHEN THE CALL BEGINS. Each datum BY PROGRAM (the guide's laid-datum.mjs) off the statement by which the dump's own 'gosem.cut.vars' lays the variable. In a bare row this is a premise. The card (YtcnkcfbodpkllaaDoorCards.lean) ties it to the program's text. -/
def laid_tariff_wide_tens {H : Type} : DataW H := .agg [.lit (.int .u64 1), .lit (.int .u64 10), .lit (.int .u64 100), .lit (.int .u64 1000), .lit (.int .u64 10000), .lit (.int .u64 100000), .lit (.int .u64 1000000), .lit (.int .u64 10000000), .lit (.int .u64 100000000), .lit (.int .u64 1000000000), .lit (.int .u64 10000000000), .lit (.int .u64 100000000000), .lit (.int .u64 1000000000000), .lit (.int .u64 10000000000000), .lit (.int .u64 100000000000000), .lit (.int .u64 1000000000000000), .lit (.int .u64 10000000000000000), .lit (.int .u64 100000000000000000), .lit (.int .u64 1000000000000000000), .lit (.int .u64 10000000000000000000)]

/-- 'tarifflaw02.DecProducts': WHATEVER THE INPUT: true; the input reads as it did. -/
def decProductsSpec : ChangeSpec := { name := "decProducts", fn := fun _ => fun
  | [d1, d2] => { results := [.lit (.bool true)], args := [d1, d2] }
  | _ => none }
def decProductsRow : OpenClaim := { program := "ytcnkcfbodpkllaadoor", sum := "36e729e32babdeb81808bf30a2bf496784bdb36a6fc395a642b9196dfd2d1e86", func := "tariff/tarifflaw02.DecProducts", spec := "decProducts", inPlace := ["math/bits.Add64", "math/bits.Sub64"], named := ["tariff/wide.tens", "math/bits.divideError", "math/bits.overflowError"], apart := false, laid := [("tariff/wide.tens", laid_tariff_wide_tens)] }
def DecProductsSaid : Prop := decProductsRow.holds Tryd.pinned (OpenSpec.ofChange decProductsSpec)

/-- ITS FALSE NEIGHBOUR: 'it returns false'. Refute it at one input. -/
def decProductsWrong : ChangeSpec := { name := "decProducts", fn := fun _ => fun
  | [d1, d2] => { results := [.lit (.bool false)], args := [d1, d2] }
  | _ => none }
def DecProductsWrongFalsely : Prop := decProductsRow.holds Tryd.pinned (OpenSpec.ofChange decProductsWrong)

/-- 'tarifflaw02.DecNeighbours': WHATEVER THE INPUT: true; the input reads as it did. -/
def decNeighboursSpec : ChangeSpec := { name := "decNeighbours", fn := fun _ => fun
  | [d] => { results := [.lit (.bool true)], args := [d] }
  | _ => none }
def decNeighboursRow : OpenClaim := { program := "ytcnkcfbodpkllaadoor", sum := "36e729e32babdeb81808bf30a2bf496784bdb36a6fc395a642b9196dfd2d1e86", func := "tariff/tarifflaw02.DecNeighbours", spec := "decNeighbours", inPlace := ["math/bits.Add64", "math/bits.Sub64"], named := ["tariff/wide.tens", "math/bits.divideError", "math/bits.overflowError"], apart := false, laid := [("tariff/wide.tens", laid_tariff_wide_tens)] }
def DecNeighboursSaid : Prop := decNeighboursRow.holds Tryd.pinned (OpenSpec.ofChange decNeighboursSpec)

/-- ITS FALSE NEIGHBOUR: 'it returns false'. Refute it at one input. -/
def decNeighboursWrong : ChangeSpec := { name := "decNeighbours", fn := fun _ => fun
  | [d] => { results := [.lit (.bool false)], args := [d] }
  | _ => none }
def DecNeighboursWrongFalsely : Prop := decNeighboursRow.holds Tryd.pinned (OpenSpec.ofChange decNeighboursWrong)

/-- 'tarifflaw02.DecOrders': WHATEVER THE INPUT: true; the input reads as it did. -/
def decOrdersSpec : ChangeSpec := { name := "decOrders", fn := fun _ => fun
  | [d1, d2, d3] => { results := [.lit (.bool true)], args := [d1, d2, d3] }
  | _ => none }
def decOrdersRow : OpenClaim := { program := "ytcnkcfbodpkllaadoor", sum := "36e729e32babdeb81808bf30a2bf496784bdb36a6fc395a642b9196dfd2d1e86", func := "tariff/tarifflaw02.DecOrders", spec := "decOrders", inPlace := ["math/bits.Add64", "math/bits.Sub64"], named := ["tariff/wide.tens", "math/bits.divideError", "math/bits.overflowError"], apart := false, laid := [("tariff/wide.tens", laid_tariff_wide_tens)] }
def DecOrdersSaid : Prop := decOrdersRow.holds Tryd.pinned (OpenSpec.ofChange decOrdersSpec)

/-- ITS FALSE NEIGHBOUR: 'it returns false'. Refute it at one input. -/
def decOrdersWrong : ChangeSpec := { name := "decOrders", fn := fun _ => fun
  | [d1, d2, d3] => { results := [.lit (.bool false)], args := [d1, d2, d3] }
  | _ => none }
def DecOrdersWrongFalsely : Prop := decOrdersRow.holds Tryd.pinned (OpenSpec.ofChange decOrdersWrong)

/-- 'tarifflaw02.DecBetween': WHATEVER THE INPUT: true; the input reads as it did. -/
def decBetweenSpec : ChangeSpec := { name := "decBetween", fn := fun _ => fun
  | [d1, d2] => { results := [.lit (.bool true)], args := [d1, d2] }
  | _ => none }
def decBetweenRow : OpenClaim := { program := "ytcnkcfbodpkllaadoor", sum := "36e729e32babdeb81808bf30a2bf496784bdb36a6fc395a642b9196dfd2d1e86", func := "tariff/tarifflaw02.DecBetween", spec := "decBetween", inPlace := ["math/bits.Add64", "math/bits.Sub64"], named := ["tariff/wide.tens", "math/bits.divideError", "math/bits.overflowError"], apart := false, laid := [("tariff/wide.tens", laid_tariff_wide_tens)] }
def DecBetweenSaid : Prop := decBetweenRow.holds Tryd.pinned (OpenSpec.ofChange decBetweenSpec)

/-- ITS FALSE NEIGHBOUR: 'it returns false'. Refute it at one input. -/
def decBetweenWrong : ChangeSpec := { name := "decBetween", fn := fun _ => fun
  | [d1, d2] => { results := [.lit (.bool false)], args := [d1, d2] }
  | _ => none }
def DecBetweenWrongFalsely : Prop := decBetweenRow.holds Tryd.pinned (OpenSpec.ofChange decBetweenWrong)

/-- 'tarifflaw02.DecParts': WHATEVER THE INPUT: true; the input reads as it did. -/
def decPartsSpec : ChangeSpec := { name := "decParts", fn := fun _ => fun
  | [d1, d2] => { results := [.lit (.bool true)], args := [d1, d2] }
  | _ => none }
def decPartsRow : OpenClaim := { program := "ytcnkcfbodpkllaadoor", sum := "36e729e32babdeb81808bf30a2bf496784bdb36a6fc395a642b9196dfd2d1e86", func := "tariff/tarifflaw02.DecParts", spec := "decParts", inPlace := ["math/bits.Add64", "math/bits.Sub64"], named := ["tariff/wide.tens", "math/bits.divideError", "math/bits.overflowError"], apart := false, laid := [("tariff/wide.tens", laid_tariff_wide_tens)] }
def DecPartsSaid : Prop := decPartsRow.holds Tryd.pinned (OpenSpec.ofChange decPartsSpec)

/-- ITS FALSE NEIGHBOUR: 'it returns false'. Refute it at one input. -/
def decPartsWrong : ChangeSpec := { name := "decParts", fn := fun _ => fun
  | [d1, d2] => { results := [.lit (.bool false)], args := [d1, d2] }
  | _ => none }
def DecPartsWrongFalsely : Prop := decPartsRow.holds Tryd.pinned (OpenSpec.ofChange decPartsWrong)

/- THE SECOND FORM. 'bulk': how many values and letters a reading holds, each counted each time it is reached (what is shared counts as often as it is met; a slice's spare places count too). A statement '..UptoSaid' is the law's where the arguments, and the package variables that the reading takes, are together of bulk at most 1048576: NARROWER than '..Said'. Prove '..Said' where nothing that the law and all that it calls make is longer than what came in: it says more and counts as full. Else prove '..UptoSaid'. A law counts once. -/
mutual
def uptoBulk {H : Type} : DataW H → Nat
  | .lit (.string bytes) => bytes.length + 1
  | .lit _ => 1
  | .nil => 1
  | .ptr d => uptoBulk d + 1
  | .slice elems spare => uptoBulkAll elems + uptoBulkAll spare + 1
  | .agg parts => uptoBulkAll parts + 1
  | .iface _ d => uptoBulk d + 1
  | .map entries => uptoBulkEntries entries + 1
  | .held _ => 1
def uptoBulkAll {H : Type} : List (DataW H) → Nat
  | [] => 0
  | d :: r => uptoBulk d + uptoBulkAll r
def uptoBulkEntries {H : Type} : List (Lit × DataW H) → Nat
  | [] => 0
  | x :: r => uptoBulkEntry x + uptoBulkEntries r
def uptoBulkEntry {H : Type} : Lit × DataW H → Nat
  | (.string bytes, d) => bytes.length + uptoBulk d + 1
  | (_, d) => uptoBulk d + 1
 end
def uptoSmall : (H : Type) → List (DataW H) → Bool := fun _ ds => decide (uptoBulkAll ds ≤ 1048576)
def OpenSpec.upto (s : _root_.Go.ChangeSpec) : _root_.Go.OpenSpec := { _root_.Go.OpenSpec.ofChange s with cond := some uptoSmall }

/-- 'tarifflaw02.DecProducts', WHERE WHAT IT READS IS OF BULK AT MOST 1048576: true; the input reads as it did. -/
def decProductsUptoRow : OpenClaim := { program := "ytcnkcfbodpkllaadoor", sum := "36e729e32babdeb81808bf30a2bf496784bdb36a6fc395a642b9196dfd2d1e86", func := "tariff/tarifflaw02.DecProducts", spec := "decProducts", inPlace := ["math/bits.Add64", "math/bits.Sub64"], named := ["tariff/wide.tens", "math/bits.divideError", "math/bits.overflowError"], apart := false, laid := [("tariff/wide.tens", laid_tariff_wide_tens)], narrowed := true }
def DecProductsUptoSaid : Prop := decProductsUptoRow.holds Tryd.pinned (OpenSpec.upto decProductsSpec)

/-- 'tarifflaw02.DecNeighbours', WHERE WHAT IT READS IS OF BULK AT MOST 1048576: true; the input reads as it did. -/
def decNeighboursUptoRow : OpenClaim := { program := "ytcnkcfbodpkllaadoor", sum := "36e729e32babdeb81808bf30a2bf496784bdb36a6fc395a642b9196dfd2d1e86", func := "tariff/tarifflaw02.DecNeighbours", spec := "decNeighbours", inPlace := ["math/bits.Add64", "math/bits.Sub64"], named := ["tariff/wide.tens", "math/bits.divideError", "math/bits.overflowError"], apart := false, laid := [("tariff/wide.tens", laid_tariff_wide_tens)], narrowed := true }
def DecNeighboursUptoSaid : Prop := decNeighboursUptoRow.holds Tryd.pinned (OpenSpec.upto decNeighboursSpec)

/-- 'tarifflaw02.DecOrders', WHERE WHAT IT READS IS OF BULK AT MOST 1048576: true; the input reads as it did. -/
def decOrdersUptoRow : OpenClaim := { program := "ytcnkcfbodpkllaadoor", sum := "36e729e32babdeb81808bf30a2bf496784bdb36a6fc395a642b9196dfd2d1e86", func := "tariff/tarifflaw02.DecOrders", spec := "decOrders", inPlace := ["math/bits.Add64", "math/bits.Sub64"], named := ["tariff/wide.tens", "math/bits.divideError", "math/bits.overflowError"], apart := false, laid := [("tariff/wide.tens", laid_tariff_wide_tens)], narrowed := true }
def DecOrdersUptoSaid : Prop := decOrdersUptoRow.holds Tryd.pinned (OpenSpec.upto decOrdersSpec)

/-- 'tarifflaw02.DecBetween', WHERE WHAT IT READS IS OF BULK AT MOST 1048576: true; the input reads as it did. -/
def decBetweenUptoRow : OpenClaim := { program := "ytcnkcfbodpkllaadoor", sum := "36e729e32babdeb81808bf30a2bf496784bdb36a6fc395a642b9196dfd2d1e86", func := "tariff/tarifflaw02.DecBetween", spec := "decBetween", inPlace := ["math/bits.Add64", "math/bits.Sub64"], named := ["tariff/wide.tens", "math/bits.divideError", "math/bits.overflowError"], apart := false, laid := [("tariff/wide.tens", laid_tariff_wide_tens)], narrowed := true }
def DecBetweenUptoSaid : Prop := decBetweenUptoRow.holds Tryd.pinned (OpenSpec.upto decBetweenSpec)

/-- 'tarifflaw02.DecParts', WHERE WHAT IT READS IS OF BULK AT MOST 1048576: true; the input reads as it did. -/
def decPartsUptoRow : OpenClaim := { program := "ytcnkcfbodpkllaadoor", sum := "36e729e32babdeb81808bf30a2bf496784bdb36a6fc395a642b9196dfd2d1e86", func := "tariff/tarifflaw02.DecParts", spec := "decParts", inPlace := ["math/bits.Add64", "math/bits.Sub64"], named := ["tariff/wide.tens", "math/bits.divideError", "math/bits.overflowError"], apart := false, laid := [("tariff/wide.tens", laid_tariff_wide_tens)], narrowed := true }
def DecPartsUptoSaid : Prop := decPartsUptoRow.holds Tryd.pinned (OpenSpec.upto decPartsSpec)

end Rows
end Go.Proofs.YtcnkcfbodpkllaaDoor
