/-
  DERIVED. GIVEN WITH THE SEED: THE CARDS: each row of YtjkallelniggpaaDoorRows.lean that lists a variable, with what it lists TIED to the program's text (the seventh form; the later family's looks); each row that meets fmt, with fmt's text TOLD by the authors' own Lean function (tested against real Go, not proved from fmt's source: count such statements apart). THE CARD IS WHAT COUNTS. Prove the row's statement (the work); the ties are given (YtjkallelniggpaaDoorTie.lean); close each card by the builder's one call (the guide's Derived/Test/ToyasCard.lean, 'card_holds'). Laid BY PROGRAM, IN A SANDBOX (cutbox-door.mjs). By AI agents, Wed Nov 11 2026. No macro, syntax, notation, axiom, sorry.
-/
import Derived.Test.YtjkallelniggpaaDoorRows
import GoSem.ClaimSeven
namespace Go.Proofs.YtjkallelniggpaaDoor
namespace Rows

/-- THE TIED CARD OF 'tarifflaw13.CheckFunctions'. -/
def checkFunctionsCard : Claim7 := { stood := { row := checkFunctionsRow, standIns := [], harness := (true, "46057085ff200fd68dece8fd1c1a514393ff3d47cf3f12bff7fe50cb37f90480"), looks := false }, kinds := [], alts := [], laidByText := true, laidKinds := [.data, .data, .data, .data, .data, .data, .data, .data, .data, .pinned], laidTests := true, laidLooks := .later }
def CheckFunctionsCardSaid : Prop := Claim7.holds Tryd.pinned (.plain (OpenSpec.ofChange checkFunctionsSpec)) checkFunctionsCard

/-- THE TIED CARD OF 'tarifflaw14.CodeCompiles'. -/
def codeCompilesCard : Claim7 := { stood := { row := codeCompilesRow, standIns := [], harness := (true, "46057085ff200fd68dece8fd1c1a514393ff3d47cf3f12bff7fe50cb37f90480"), looks := false }, kinds := [], alts := [], laidByText := true, laidKinds := [.data, .data, .pinned], laidTests := true, laidLooks := .later }
def CodeCompilesCardSaid : Prop := Claim7.holds Tryd.pinned (.plain (OpenSpec.ofChange codeCompilesSpec)) codeCompilesCard

/-- THE TIED CARD OF 'tarifflaw14.CodeVerifies'. -/
def codeVerifiesCard : Claim7 := { stood := { row := codeVerifiesRow, standIns := [], harness := (true, "46057085ff200fd68dece8fd1c1a514393ff3d47cf3f12bff7fe50cb37f90480"), looks := false }, kinds := [], alts := [], laidByText := true, laidKinds := [.data, .data, .pinned], laidTests := true, laidLooks := .later }
def CodeVerifiesCardSaid : Prop := Claim7.holds Tryd.pinned (.plain (OpenSpec.ofChange codeVerifiesSpec)) codeVerifiesCard

/-- THE SECOND FORM's CARD OF 'tarifflaw13.CheckFunctions'. -/
def checkFunctionsUptoCard : Claim7 := { stood := { row := checkFunctionsUptoRow, standIns := [], harness := (true, "46057085ff200fd68dece8fd1c1a514393ff3d47cf3f12bff7fe50cb37f90480"), looks := false }, kinds := [], alts := [], laidByText := true, laidKinds := [.data, .data, .data, .data, .data, .data, .data, .data, .data, .pinned], laidTests := true, laidLooks := .later }
def CheckFunctionsUptoCardSaid : Prop := Claim7.holds Tryd.pinned (.plain (OpenSpec.upto checkFunctionsSpec)) checkFunctionsUptoCard

/-- THE SECOND FORM's CARD OF 'tarifflaw14.CodeCompiles'. -/
def codeCompilesUptoCard : Claim7 := { stood := { row := codeCompilesUptoRow, standIns := [], harness := (true, "46057085ff200fd68dece8fd1c1a514393ff3d47cf3f12bff7fe50cb37f90480"), looks := false }, kinds := [], alts := [], laidByText := true, laidKinds := [.data, .data, .pinned], laidTests := true, laidLooks := .later }
def CodeCompilesUptoCardSaid : Prop := Claim7.holds Tryd.pinned (.plain (OpenSpec.upto codeCompilesSpec)) codeCompilesUptoCard

/-- THE SECOND FORM's CARD OF 'tarifflaw14.CodeVerifies'. -/
def codeVerifiesUptoCard : Claim7 := { stood := { row := codeVerifiesUptoRow, standIns := [], harness := (true, "46057085ff200fd68dece8fd1c1a514393ff3d47cf3f12bff7fe50cb37f90480"), looks := false }, kinds := [], alts := [], laidByText := true, laidKinds := [.data, .data, .pinned], laidTests := true, laidLooks := .later }
def CodeVerifiesUptoCardSaid : Prop := Claim7.holds Tryd.pinned (.plain (OpenSpec.upto codeVerifiesSpec)) codeVerifiesUptoCard
end Rows
end Go.Proofs.YtjkallelniggpaaDoor
