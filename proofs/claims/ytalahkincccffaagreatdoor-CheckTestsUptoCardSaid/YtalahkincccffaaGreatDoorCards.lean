/-
  DERIVED. GIVEN WITH THE SEED: THE CARDS: each row of YtalahkincccffaaGreatDoorRows.lean that lists a variable, with what it lists TIED to the program's text (the seventh form; the later family's looks); each row that meets fmt, with fmt's text TOLD by the authors' own Lean function (tested against real Go, not proved from fmt's source: count such statements apart). THE CARD IS WHAT COUNTS. Prove the row's statement (the work); the ties are given (YtalahkincccffaaGreatDoorTie.lean); close each card by the builder's one call (the guide's Derived/Test/ToyasCard.lean, 'card_holds'). Laid BY PROGRAM, IN A SANDBOX (cutbox-door.mjs). By AI agents, Wed Nov 11 2026. No macro, syntax, notation, axiom, sorry.
-/
import Derived.Test.YtalahkincccffaaGreatDoorRows
import GoSem.ClaimSeven
namespace Go.Proofs.YtalahkincccffaaGreatDoor
namespace Rows

/-- THE TIED CARD OF 'tarifflaw13.CheckExprs'. -/
def checkExprsCard : Claim7 := { stood := { row := checkExprsRow, standIns := [], harness := (true, "dabeedcb9f7cb0cb4bc341b27943b6932764b1c2b7d31c0684f2e1842642c679"), looks := false }, kinds := [], alts := [], laidByText := true, laidKinds := [.data, .data, .data, .data, .data, .data, .data, .data, .data, .pinned], laidTests := true, laidLooks := .later }
def CheckExprsCardSaid : Prop := Claim7.holds Tryz.pinned (.plain (OpenSpec.ofChange checkExprsSpec)) checkExprsCard

/-- THE TIED CARD OF 'tarifflaw13.CheckTests'. -/
def checkTestsCard : Claim7 := { stood := { row := checkTestsRow, standIns := [], harness := (true, "dabeedcb9f7cb0cb4bc341b27943b6932764b1c2b7d31c0684f2e1842642c679"), looks := false }, kinds := [], alts := [], laidByText := true, laidKinds := [.data, .data, .data, .data, .data, .data, .data, .data, .data, .pinned], laidTests := true, laidLooks := .later }
def CheckTestsCardSaid : Prop := Claim7.holds Tryz.pinned (.plain (OpenSpec.ofChange checkTestsSpec)) checkTestsCard

/-- THE SECOND FORM's CARD OF 'tarifflaw13.CheckExprs'. -/
def checkExprsUptoCard : Claim7 := { stood := { row := checkExprsUptoRow, standIns := [], harness := (true, "dabeedcb9f7cb0cb4bc341b27943b6932764b1c2b7d31c0684f2e1842642c679"), looks := false }, kinds := [], alts := [], laidByText := true, laidKinds := [.data, .data, .data, .data, .data, .data, .data, .data, .data, .pinned], laidTests := true, laidLooks := .later }
def CheckExprsUptoCardSaid : Prop := Claim7.holds Tryz.pinned (.plain (OpenSpec.upto checkExprsSpec)) checkExprsUptoCard

/-- THE SECOND FORM's CARD OF 'tarifflaw13.CheckTests'. -/
def checkTestsUptoCard : Claim7 := { stood := { row := checkTestsUptoRow, standIns := [], harness := (true, "dabeedcb9f7cb0cb4bc341b27943b6932764b1c2b7d31c0684f2e1842642c679"), looks := false }, kinds := [], alts := [], laidByText := true, laidKinds := [.data, .data, .data, .data, .data, .data, .data, .data, .data, .pinned], laidTests := true, laidLooks := .later }
def CheckTestsUptoCardSaid : Prop := Claim7.holds Tryz.pinned (.plain (OpenSpec.upto checkTestsSpec)) checkTestsUptoCard
end Rows
end Go.Proofs.YtalahkincccffaaGreatDoor
