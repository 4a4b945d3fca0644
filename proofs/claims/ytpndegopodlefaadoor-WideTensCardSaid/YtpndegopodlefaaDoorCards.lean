/-
  DERIVED. GIVEN WITH THE SEED: THE CARDS: each row of YtpndegopodlefaaDoorRows.lean that lists a variable, with what it lists TIED to the program's text (the seventh form; the later family's looks); each row that meets fmt, with fmt's text TOLD by the authors' own Lean function (tested against real Go, not proved from fmt's source: count such statements apart). THE CARD IS WHAT COUNTS. Prove the row's statement (the work); the ties are given (YtpndegopodlefaaDoorTie.lean); close each card by the builder's one call (the guide's Derived/Test/ToyasCard.lean, 'card_holds'). Laid BY PROGRAM, IN A SANDBOX (cutbox-door.mjs). By AI agents, Wed Nov 11 2026. No macro, syntax, notation, axiom, sorry.
-/
import Derived.Test.YtpndegopodlefaaDoorRows
import GoSem.ClaimSeven
namespace Go.Proofs.YtpndegopodlefaaDoor
namespace Rows

/-- THE TIED CARD OF 'tarifflaw01.WideSums'. -/
def wideSumsCard : Claim7 := { stood := { row := wideSumsRow, standIns := [], harness := (true, "5733668ab65e296c1a47c44ab37e72e6d9d1c1cf9f28aab63e3b05388e211537"), looks := false }, kinds := [], alts := [], laidByText := true, laidKinds := [.data], laidTests := true, laidLooks := .later }
def WideSumsCardSaid : Prop := Claim7.holds Tryd.pinned (.plain (OpenSpec.ofChange wideSumsSpec)) wideSumsCard

/-- THE TIED CARD OF 'tarifflaw01.WideParts'. -/
def widePartsCard : Claim7 := { stood := { row := widePartsRow, standIns := [], harness := (true, "5733668ab65e296c1a47c44ab37e72e6d9d1c1cf9f28aab63e3b05388e211537"), looks := false }, kinds := [], alts := [], laidByText := true, laidKinds := [.data], laidTests := true, laidLooks := .later }
def WidePartsCardSaid : Prop := Claim7.holds Tryd.pinned (.plain (OpenSpec.ofChange widePartsSpec)) widePartsCard

/-- THE TIED CARD OF 'tarifflaw01.WideQuotients'. -/
def wideQuotientsCard : Claim7 := { stood := { row := wideQuotientsRow, standIns := [], harness := (true, "5733668ab65e296c1a47c44ab37e72e6d9d1c1cf9f28aab63e3b05388e211537"), looks := false }, kinds := [], alts := [], laidByText := true, laidKinds := [.data], laidTests := true, laidLooks := .later }
def WideQuotientsCardSaid : Prop := Claim7.holds Tryd.pinned (.plain (OpenSpec.ofChange wideQuotientsSpec)) wideQuotientsCard

/-- THE TIED CARD OF 'tarifflaw01.WideRounds'. -/
def wideRoundsCard : Claim7 := { stood := { row := wideRoundsRow, standIns := [], harness := (true, "5733668ab65e296c1a47c44ab37e72e6d9d1c1cf9f28aab63e3b05388e211537"), looks := false }, kinds := [], alts := [], laidByText := true, laidKinds := [.data], laidTests := true, laidLooks := .later }
def WideRoundsCardSaid : Prop := Claim7.holds Tryd.pinned (.plain (OpenSpec.ofChange wideRoundsSpec)) wideRoundsCard

/-- THE TIED CARD OF 'tarifflaw01.WideTexts'. -/
def wideTextsCard : Claim7 := { stood := { row := wideTextsRow, standIns := [], harness := (true, "5733668ab65e296c1a47c44ab37e72e6d9d1c1cf9f28aab63e3b05388e211537"), looks := false }, kinds := [], alts := [], laidByText := true, laidKinds := [.data, .data, .data, .data], laidTests := true, laidLooks := .later }
def WideTextsCardSaid : Prop := Claim7.holds Tryd.pinned (.plain (OpenSpec.ofChange wideTextsSpec)) wideTextsCard

/-- THE TIED CARD OF 'tarifflaw01.WideUndoes'. -/
def wideUndoesCard : Claim7 := { stood := { row := wideUndoesRow, standIns := [], harness := (true, "5733668ab65e296c1a47c44ab37e72e6d9d1c1cf9f28aab63e3b05388e211537"), looks := false }, kinds := [], alts := [], laidByText := true, laidKinds := [.data], laidTests := true, laidLooks := .later }
def WideUndoesCardSaid : Prop := Claim7.holds Tryd.pinned (.plain (OpenSpec.ofChange wideUndoesSpec)) wideUndoesCard

/-- THE TIED CARD OF 'tarifflaw01.WideTens'. -/
def wideTensCard : Claim7 := { stood := { row := wideTensRow, standIns := [], harness := (true, "5733668ab65e296c1a47c44ab37e72e6d9d1c1cf9f28aab63e3b05388e211537"), looks := false }, kinds := [], alts := [], laidByText := true, laidKinds := [.data], laidTests := true, laidLooks := .later }
def WideTensCardSaid : Prop := Claim7.holds Tryd.pinned (.plain (OpenSpec.ofChange wideTensSpec)) wideTensCard

/-- THE TIED CARD OF 'tarifflaw02.DecForms'. -/
def decFormsCard : Claim7 := { stood := { row := decFormsRow, standIns := [], harness := (true, "5733668ab65e296c1a47c44ab37e72e6d9d1c1cf9f28aab63e3b05388e211537"), looks := false }, kinds := [], alts := [], laidByText := true, laidKinds := [.data], laidTests := true, laidLooks := .later }
def DecFormsCardSaid : Prop := Claim7.holds Tryd.pinned (.plain (OpenSpec.ofChange decFormsSpec)) decFormsCard

/-- THE TIED CARD OF 'tarifflaw02.DecSums'. -/
def decSumsCard : Claim7 := { stood := { row := decSumsRow, standIns := [], harness := (true, "5733668ab65e296c1a47c44ab37e72e6d9d1c1cf9f28aab63e3b05388e211537"), looks := false }, kinds := [], alts := [], laidByText := true, laidKinds := [.data], laidTests := true, laidLooks := .later }
def DecSumsCardSaid : Prop := Claim7.holds Tryd.pinned (.plain (OpenSpec.ofChange decSumsSpec)) decSumsCard

/-- THE TIED CARD OF 'tarifflaw02.DecProducts'. -/
def decProductsCard : Claim7 := { stood := { row := decProductsRow, standIns := [], harness := (true, "5733668ab65e296c1a47c44ab37e72e6d9d1c1cf9f28aab63e3b05388e211537"), looks := false }, kinds := [], alts := [], laidByText := true, laidKinds := [.data], laidTests := true, laidLooks := .later }
def DecProductsCardSaid : Prop := Claim7.holds Tryd.pinned (.plain (OpenSpec.ofChange decProductsSpec)) decProductsCard

/-- THE TIED CARD OF 'tarifflaw02.DecRounds'. -/
def decRoundsCard : Claim7 := { stood := { row := decRoundsRow, standIns := [], harness := (true, "5733668ab65e296c1a47c44ab37e72e6d9d1c1cf9f28aab63e3b05388e211537"), looks := false }, kinds := [], alts := [], laidByText := true, laidKinds := [.data], laidTests := true, laidLooks := .later }
def DecRoundsCardSaid : Prop := Claim7.holds Tryd.pinned (.plain (OpenSpec.ofChange decRoundsSpec)) decRoundsCard

/-- THE TIED CARD OF 'tarifflaw02.DecNeighbours'. -/
def decNeighboursCard : Claim7 := { stood := { row := decNeighboursRow, standIns := [], harness := (true, "5733668ab65e296c1a47c44ab37e72e6d9d1c1cf9f28aab63e3b05388e211537"), looks := false }, kinds := [], alts := [], laidByText := true, laidKinds := [.data], laidTests := true, laidLooks := .later }
def DecNeighboursCardSaid : Prop := Claim7.holds Tryd.pinned (.plain (OpenSpec.ofChange decNeighboursSpec)) decNeighboursCard

/-- THE TIED CARD OF 'tarifflaw02.DecOrders'. -/
def decOrdersCard : Claim7 := { stood := { row := decOrdersRow, standIns := [], harness := (true, "5733668ab65e296c1a47c44ab37e72e6d9d1c1cf9f28aab63e3b05388e211537"), looks := false }, kinds := [], alts := [], laidByText := true, laidKinds := [.data], laidTests := true, laidLooks := .later }
def DecOrdersCardSaid : Prop := Claim7.holds Tryd.pinned (.plain (OpenSpec.ofChange decOrdersSpec)) decOrdersCard

/-- THE TIED CARD OF 'tarifflaw02.DecBetween'. -/
def decBetweenCard : Claim7 := { stood := { row := decBetweenRow, standIns := [], harness := (true, "5733668ab65e296c1a47c44ab37e72e6d9d1c1cf9f28aab63e3b05388e211537"), looks := false }, kinds := [], alts := [], laidByText := true, laidKinds := [.data], laidTests := true, laidLooks := .later }
def DecBetweenCardSaid : Prop := Claim7.holds Tryd.pinned (.plain (OpenSpec.ofChange decBetweenSpec)) decBetweenCard

/-- THE TIED CARD OF 'tarifflaw02.DecParts'. -/
def decPartsCard : Claim7 := { stood := { row := decPartsRow, standIns := [], harness := (true, "5733668ab65e296c1a47c44ab37e72e6d9d1c1cf9f28aab63e3b05388e211537"), looks := false }, kinds := [], alts := [], laidByText := true, laidKinds := [.data], laidTests := true, laidLooks := .later }
def DecPartsCardSaid : Prop := Claim7.holds Tryd.pinned (.plain (OpenSpec.ofChange decPartsSpec)) decPartsCard

/-- THE SECOND FORM's CARD OF 'tarifflaw01.WideSums'. -/
def wideSumsUptoCard : Claim7 := { stood := { row := wideSumsUptoRow, standIns := [], harness := (true, "5733668ab65e296c1a47c44ab37e72e6d9d1c1cf9f28aab63e3b05388e211537"), looks := false }, kinds := [], alts := [], laidByText := true, laidKinds := [.data], laidTests := true, laidLooks := .later }
def WideSumsUptoCardSaid : Prop := Claim7.holds Tryd.pinned (.plain (OpenSpec.upto wideSumsSpec)) wideSumsUptoCard

/-- THE SECOND FORM's CARD OF 'tarifflaw01.WideParts'. -/
def widePartsUptoCard : Claim7 := { stood := { row := widePartsUptoRow, standIns := [], harness := (true, "5733668ab65e296c1a47c44ab37e72e6d9d1c1cf9f28aab63e3b05388e211537"), looks := false }, kinds := [], alts := [], laidByText := true, laidKinds := [.data], laidTests := true, laidLooks := .later }
def WidePartsUptoCardSaid : Prop := Claim7.holds Tryd.pinned (.plain (OpenSpec.upto widePartsSpec)) widePartsUptoCard

/-- THE SECOND FORM's CARD OF 'tarifflaw01.WideQuotients'. -/
def wideQuotientsUptoCard : Claim7 := { stood := { row := wideQuotientsUptoRow, standIns := [], harness := (true, "5733668ab65e296c1a47c44ab37e72e6d9d1c1cf9f28aab63e3b05388e211537"), looks := false }, kinds := [], alts := [], laidByText := true, laidKinds := [.data], laidTests := true, laidLooks := .later }
def WideQuotientsUptoCardSaid : Prop := Claim7.holds Tryd.pinned (.plain (OpenSpec.upto wideQuotientsSpec)) wideQuotientsUptoCard

/-- THE SECOND FORM's CARD OF 'tarifflaw01.WideRounds'. -/
def wideRoundsUptoCard : Claim7 := { stood := { row := wideRoundsUptoRow, standIns := [], harness := (true, "5733668ab65e296c1a47c44ab37e72e6d9d1c1cf9f28aab63e3b05388e211537"), looks := false }, kinds := [], alts := [], laidByText := true, laidKinds := [.data], laidTests := true, laidLooks := .later }
def WideRoundsUptoCardSaid : Prop := Claim7.holds Tryd.pinned (.plain (OpenSpec.upto wideRoundsSpec)) wideRoundsUptoCard

/-- THE SECOND FORM's CARD OF 'tarifflaw01.WideTexts'. -/
def wideTextsUptoCard : Claim7 := { stood := { row := wideTextsUptoRow, standIns := [], harness := (true, "5733668ab65e296c1a47c44ab37e72e6d9d1c1cf9f28aab63e3b05388e211537"), looks := false }, kinds := [], alts := [], laidByText := true, laidKinds := [.data, .data, .data, .data], laidTests := true, laidLooks := .later }
def WideTextsUptoCardSaid : Prop := Claim7.holds Tryd.pinned (.plain (OpenSpec.upto wideTextsSpec)) wideTextsUptoCard

/-- THE SECOND FORM's CARD OF 'tarifflaw01.WideUndoes'. -/
def wideUndoesUptoCard : Claim7 := { stood := { row := wideUndoesUptoRow, standIns := [], harness := (true, "5733668ab65e296c1a47c44ab37e72e6d9d1c1cf9f28aab63e3b05388e211537"), looks := false }, kinds := [], alts := [], laidByText := true, laidKinds := [.data], laidTests := true, laidLooks := .later }
def WideUndoesUptoCardSaid : Prop := Claim7.holds Tryd.pinned (.plain (OpenSpec.upto wideUndoesSpec)) wideUndoesUptoCard

/-- THE SECOND FORM's CARD OF 'tarifflaw01.WideTens'. -/
def wideTensUptoCard : Claim7 := { stood := { row := wideTensUptoRow, standIns := [], harness := (true, "5733668ab65e296c1a47c44ab37e72e6d9d1c1cf9f28aab63e3b05388e211537"), looks := false }, kinds := [], alts := [], laidByText := true, laidKinds := [.data], laidTests := true, laidLooks := .later }
def WideTensUptoCardSaid : Prop := Claim7.holds Tryd.pinned (.plain (OpenSpec.upto wideTensSpec)) wideTensUptoCard

/-- THE SECOND FORM's CARD OF 'tarifflaw02.DecForms'. -/
def decFormsUptoCard : Claim7 := { stood := { row := decFormsUptoRow, standIns := [], harness := (true, "5733668ab65e296c1a47c44ab37e72e6d9d1c1cf9f28aab63e3b05388e211537"), looks := false }, kinds := [], alts := [], laidByText := true, laidKinds := [.data], laidTests := true, laidLooks := .later }
def DecFormsUptoCardSaid : Prop := Claim7.holds Tryd.pinned (.plain (OpenSpec.upto decFormsSpec)) decFormsUptoCard

/-- THE SECOND FORM's CARD OF 'tarifflaw02.DecSums'. -/
def decSumsUptoCard : Claim7 := { stood := { row := decSumsUptoRow, standIns := [], harness := (true, "5733668ab65e296c1a47c44ab37e72e6d9d1c1cf9f28aab63e3b05388e211537"), looks := false }, kinds := [], alts := [], laidByText := true, laidKinds := [.data], laidTests := true, laidLooks := .later }
def DecSumsUptoCardSaid : Prop := Claim7.holds Tryd.pinned (.plain (OpenSpec.upto decSumsSpec)) decSumsUptoCard

/-- THE SECOND FORM's CARD OF 'tarifflaw02.DecProducts'. -/
def decProductsUptoCard : Claim7 := { stood := { row := decProductsUptoRow, standIns := [], harness := (true, "5733668ab65e296c1a47c44ab37e72e6d9d1c1cf9f28aab63e3b05388e211537"), looks := false }, kinds := [], alts := [], laidByText := true, laidKinds := [.data], laidTests := true, laidLooks := .later }
def DecProductsUptoCardSaid : Prop := Claim7.holds Tryd.pinned (.plain (OpenSpec.upto decProductsSpec)) decProductsUptoCard

/-- THE SECOND FORM's CARD OF 'tarifflaw02.DecRounds'. -/
def decRoundsUptoCard : Claim7 := { stood := { row := decRoundsUptoRow, standIns := [], harness := (true, "5733668ab65e296c1a47c44ab37e72e6d9d1c1cf9f28aab63e3b05388e211537"), looks := false }, kinds := [], alts := [], laidByText := true, laidKinds := [.data], laidTests := true, laidLooks := .later }
def DecRoundsUptoCardSaid : Prop := Claim7.holds Tryd.pinned (.plain (OpenSpec.upto decRoundsSpec)) decRoundsUptoCard

/-- THE SECOND FORM's CARD OF 'tarifflaw02.DecNeighbours'. -/
def decNeighboursUptoCard : Claim7 := { stood := { row := decNeighboursUptoRow, standIns := [], harness := (true, "5733668ab65e296c1a47c44ab37e72e6d9d1c1cf9f28aab63e3b05388e211537"), looks := false }, kinds := [], alts := [], laidByText := true, laidKinds := [.data], laidTests := true, laidLooks := .later }
def DecNeighboursUptoCardSaid : Prop := Claim7.holds Tryd.pinned (.plain (OpenSpec.upto decNeighboursSpec)) decNeighboursUptoCard

/-- THE SECOND FORM's CARD OF 'tarifflaw02.DecOrders'. -/
def decOrdersUptoCard : Claim7 := { stood := { row := decOrdersUptoRow, standIns := [], harness := (true, "5733668ab65e296c1a47c44ab37e72e6d9d1c1cf9f28aab63e3b05388e211537"), looks := false }, kinds := [], alts := [], laidByText := true, laidKinds := [.data], laidTests := true, laidLooks := .later }
def DecOrdersUptoCardSaid : Prop := Claim7.holds Tryd.pinned (.plain (OpenSpec.upto decOrdersSpec)) decOrdersUptoCard

/-- THE SECOND FORM's CARD OF 'tarifflaw02.DecBetween'. -/
def decBetweenUptoCard : Claim7 := { stood := { row := decBetweenUptoRow, standIns := [], harness := (true, "5733668ab65e296c1a47c44ab37e72e6d9d1c1cf9f28aab63e3b05388e211537"), looks := false }, kinds := [], alts := [], laidByText := true, laidKinds := [.data], laidTests := true, laidLooks := .later }
def DecBetweenUptoCardSaid : Prop := Claim7.holds Tryd.pinned (.plain (OpenSpec.upto decBetweenSpec)) decBetweenUptoCard

/-- THE SECOND FORM's CARD OF 'tarifflaw02.DecParts'. -/
def decPartsUptoCard : Claim7 := { stood := { row := decPartsUptoRow, standIns := [], harness := (true, "5733668ab65e296c1a47c44ab37e72e6d9d1c1cf9f28aab63e3b05388e211537"), looks := false }, kinds := [], alts := [], laidByText := true, laidKinds := [.data], laidTests := true, laidLooks := .later }
def DecPartsUptoCardSaid : Prop := Claim7.holds Tryd.pinned (.plain (OpenSpec.upto decPartsSpec)) decPartsUptoCard
end Rows
end Go.Proofs.YtpndegopodlefaaDoor
