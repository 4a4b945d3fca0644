/-
  DERIVED. GIVEN WITH THE SEED: THE CARDS: each row of YtcnkcfbodpkllaaDoorRows.lean that lists a variable, with what it lists TIED to the program's text (the seventh form; the later family's looks); each row that meets fmt, with fmt's text TOLD by the authors' own Lean function (tested against real Go, not proved from fmt's source: count such statements apart). THE CARD IS WHAT COUNTS. Prove the row's statement (the work); the ties are given (YtcnkcfbodpkllaaDoorTie.lean); close each card by the builder's one call (the guide's Derived/Test/ToyasCard.lean, 'card_holds'). Laid BY PROGRAM, IN A SANDBOX (cutbox-door.mjs). By AI agents, Wed Nov 11 2026. No macro, syntax, notation, axiom, sorry.
-/
import Derived.Test.YtcnkcfbodpkllaaDoorRows
import GoSem.ClaimSeven
namespace Go.Proofs.YtcnkcfbodpkllaaDoor
namespace Rows

/-- THE TIED CARD OF 'tarifflaw02.DecProducts'. -/
def decProductsCard : Claim7 := { stood := { row := decProductsRow, standIns := [], harness := (true, "3152378e631f5dabad02b56028bfb633d3432de5e109883056ce95970de35dcb"), looks := false }, kinds := [], alts := [], laidByText := true, laidKinds := [.data], laidTests := true, laidLooks := .later }
def DecProductsCardSaid : Prop := Claim7.holds Tryd.pinned (.plain (OpenSpec.ofChange decProductsSpec)) decProductsCard

/-- THE TIED CARD OF 'tarifflaw02.DecNeighbours'. -/
def decNeighboursCard : Claim7 := { stood := { row := decNeighboursRow, standIns := [], harness := (true, "3152378e631f5dabad02b56028bfb633d3432de5e109883056ce95970de35dcb"), looks := false }, kinds := [], alts := [], laidByText := true, laidKinds := [.data], laidTests := true, laidLooks := .later }
def DecNeighboursCardSaid : Prop := Claim7.holds Tryd.pinned (.plain (OpenSpec.ofChange decNeighboursSpec)) decNeighboursCard

/-- THE TIED CARD OF 'tarifflaw02.DecOrders'. -/
def decOrdersCard : Claim7 := { stood := { row := decOrdersRow, standIns := [], harness := (true, "3152378e631f5dabad02b56028bfb633d3432de5e109883056ce95970de35dcb"), looks := false }, kinds := [], alts := [], laidByText := true, laidKinds := [.data], laidTests := true, laidLooks := .later }
def DecOrdersCardSaid : Prop := Claim7.holds Tryd.pinned (.plain (OpenSpec.ofChange decOrdersSpec)) decOrdersCard

/-- THE TIED CARD OF 'tarifflaw02.DecBetween'. -/
def decBetweenCard : Claim7 := { stood := { row := decBetweenRow, standIns := [], harness := (true, "3152378e631f5dabad02b56028bfb633d3432de5e109883056ce95970de35dcb"), looks := false }, kinds := [], alts := [], laidByText := true, laidKinds := [.data], laidTests := true, laidLooks := .later }
def DecBetweenCardSaid : Prop := Claim7.holds Tryd.pinned (.plain (OpenSpec.ofChange decBetweenSpec)) decBetweenCard

/-- THE TIED CARD OF 'tarifflaw02.DecParts'. -/
def decPartsCard : Claim7 := { stood := { row := decPartsRow, standIns := [], harness := (true, "3152378e631f5dabad02b56028bfb633d3432de5e109883056ce95970de35dcb"), looks := false }, kinds := [], alts := [], laidByText := true, laidKinds := [.data], laidTests := true, laidLooks := .later }
def DecPartsCardSaid : Prop := Claim7.holds Tryd.pinned (.plain (OpenSpec.ofChange decPartsSpec)) decPartsCard

/-- THE SECOND FORM's CARD OF 'tarifflaw02.DecProducts'. -/
def decProductsUptoCard : Claim7 := { stood := { row := decProductsUptoRow, standIns := [], harness := (true, "3152378e631f5dabad02b56028bfb633d3432de5e109883056ce95970de35dcb"), looks := false }, kinds := [], alts := [], laidByText := true, laidKinds := [.data], laidTests := true, laidLooks := .later }
def DecProductsUptoCardSaid : Prop := Claim7.holds Tryd.pinned (.plain (OpenSpec.upto decProductsSpec)) decProductsUptoCard

/-- THE SECOND FORM's CARD OF 'tarifflaw02.DecNeighbours'. -/
def decNeighboursUptoCard : Claim7 := { stood := { row := decNeighboursUptoRow, standIns := [], harness := (true, "3152378e631f5dabad02b56028bfb633d3432de5e109883056ce95970de35dcb"), looks := false }, kinds := [], alts := [], laidByText := true, laidKinds := [.data], laidTests := true, laidLooks := .later }
def DecNeighboursUptoCardSaid : Prop := Claim7.holds Tryd.pinned (.plain (OpenSpec.upto decNeighboursSpec)) decNeighboursUptoCard

/-- THE SECOND FORM's CARD OF 'tarifflaw02.DecOrders'. -/
def decOrdersUptoCard : Claim7 := { stood := { row := decOrdersUptoRow, standIns := [], harness := (true, "3152378e631f5dabad02b56028bfb633d3432de5e109883056ce95970de35dcb"), looks := false }, kinds := [], alts := [], laidByText := true, laidKinds := [.data], laidTests := true, laidLooks := .later }
def DecOrdersUptoCardSaid : Prop := Claim7.holds Tryd.pinned (.plain (OpenSpec.upto decOrdersSpec)) decOrdersUptoCard

/-- THE SECOND FORM's CARD OF 'tarifflaw02.DecBetween'. -/
def decBetweenUptoCard : Claim7 := { stood := { row := decBetweenUptoRow, standIns := [], harness := (true, "3152378e631f5dabad02b56028bfb633d3432de5e109883056ce95970de35dcb"), looks := false }, kinds := [], alts := [], laidByText := true, laidKinds := [.data], laidTests := true, laidLooks := .later }
def DecBetweenUptoCardSaid : Prop := Claim7.holds Tryd.pinned (.plain (OpenSpec.upto decBetweenSpec)) decBetweenUptoCard

/-- THE SECOND FORM's CARD OF 'tarifflaw02.DecParts'. -/
def decPartsUptoCard : Claim7 := { stood := { row := decPartsUptoRow, standIns := [], harness := (true, "3152378e631f5dabad02b56028bfb633d3432de5e109883056ce95970de35dcb"), looks := false }, kinds := [], alts := [], laidByText := true, laidKinds := [.data], laidTests := true, laidLooks := .later }
def DecPartsUptoCardSaid : Prop := Claim7.holds Tryd.pinned (.plain (OpenSpec.upto decPartsSpec)) decPartsUptoCard
end Rows
end Go.Proofs.YtcnkcfbodpkllaaDoor
