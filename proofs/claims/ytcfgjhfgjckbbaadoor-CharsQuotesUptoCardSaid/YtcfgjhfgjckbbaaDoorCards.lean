/-
  DERIVED. GIVEN WITH THE SEED: THE CARDS: each row of YtcfgjhfgjckbbaaDoorRows.lean that lists a variable, with what it lists TIED to the program's text (the seventh form; the later family's looks); each row that meets fmt, with fmt's text TOLD by the authors' own Lean function (tested against real Go, not proved from fmt's source: count such statements apart). THE CARD IS WHAT COUNTS. Prove the row's statement (the work); the ties are given (YtcfgjhfgjckbbaaDoorTie.lean); close each card by the builder's one call (the guide's Derived/Test/ToyasCard.lean, 'card_holds'). Laid BY PROGRAM, IN A SANDBOX (cutbox-door.mjs). By AI agents, Wed Nov 11 2026. No macro, syntax, notation, axiom, sorry.
-/
import Derived.Test.YtcfgjhfgjckbbaaDoorRows
import GoSem.ClaimSeven
namespace Go.Proofs.YtcfgjhfgjckbbaaDoor
namespace Rows

/-- THE TIED CARD OF 'tarifflaw03.DateDays'. -/
def dateDaysCard : Claim7 := { stood := { row := dateDaysRow, standIns := [], harness := (true, "b1d09bd69eeae1fd34a2617f96142c157bd2044c4f15dafad961d4bee4549d8d"), looks := false }, kinds := [], alts := [], laidByText := true, laidKinds := [.data, .data, .data, .data], laidTests := true, laidLooks := .later }
def DateDaysCardSaid : Prop := Claim7.holds Tryd.pinned (.plain (OpenSpec.ofChange dateDaysSpec)) dateDaysCard

/-- THE TIED CARD OF 'tarifflaw03.DateSplits'. -/
def dateSplitsCard : Claim7 := { stood := { row := dateSplitsRow, standIns := [], harness := (true, "b1d09bd69eeae1fd34a2617f96142c157bd2044c4f15dafad961d4bee4549d8d"), looks := false }, kinds := [], alts := [], laidByText := true, laidKinds := [.data, .data, .data, .data], laidTests := true, laidLooks := .later }
def DateSplitsCardSaid : Prop := Claim7.holds Tryd.pinned (.plain (OpenSpec.ofChange dateSplitsSpec)) dateSplitsCard

/-- THE TIED CARD OF 'tarifflaw03.DateSteps'. -/
def dateStepsCard : Claim7 := { stood := { row := dateStepsRow, standIns := [], harness := (true, "b1d09bd69eeae1fd34a2617f96142c157bd2044c4f15dafad961d4bee4549d8d"), looks := false }, kinds := [], alts := [], laidByText := true, laidKinds := [.data, .data, .data, .data], laidTests := true, laidLooks := .later }
def DateStepsCardSaid : Prop := Claim7.holds Tryd.pinned (.plain (OpenSpec.ofChange dateStepsSpec)) dateStepsCard

/-- THE TIED CARD OF 'tarifflaw03.DateTexts'. -/
def dateTextsCard : Claim7 := { stood := { row := dateTextsRow, standIns := [], harness := (true, "b1d09bd69eeae1fd34a2617f96142c157bd2044c4f15dafad961d4bee4549d8d"), looks := false }, kinds := [], alts := [], laidByText := true, laidKinds := [.data, .data, .data, .data], laidTests := true, laidLooks := .later }
def DateTextsCardSaid : Prop := Claim7.holds Tryd.pinned (.plain (OpenSpec.ofChange dateTextsSpec)) dateTextsCard

/-- THE TIED CARD OF 'tarifflaw03.DateWalks'. -/
def dateWalksCard : Claim7 := { stood := { row := dateWalksRow, standIns := [], harness := (true, "b1d09bd69eeae1fd34a2617f96142c157bd2044c4f15dafad961d4bee4549d8d"), looks := false }, kinds := [], alts := [], laidByText := true, laidKinds := [.data, .data, .data, .data], laidTests := true, laidLooks := .later }
def DateWalksCardSaid : Prop := Claim7.holds Tryd.pinned (.plain (OpenSpec.ofChange dateWalksSpec)) dateWalksCard

/-- THE TIED CARD OF 'tarifflaw04.CharsTexts'. -/
def charsTextsCard : Claim7 := { stood := { row := charsTextsRow, standIns := [], harness := (true, "b1d09bd69eeae1fd34a2617f96142c157bd2044c4f15dafad961d4bee4549d8d"), looks := false }, kinds := [], alts := [], laidByText := true, laidKinds := [.data, .pinned], laidTests := true, laidLooks := .later }
def CharsTextsCardSaid : Prop := Claim7.holds Tryd.pinned (.plain (OpenSpec.ofChange charsTextsSpec)) charsTextsCard

/-- THE TIED CARD OF 'tarifflaw04.CharsEscapes'. -/
def charsEscapesCard : Claim7 := { stood := { row := charsEscapesRow, standIns := [], harness := (true, "b1d09bd69eeae1fd34a2617f96142c157bd2044c4f15dafad961d4bee4549d8d"), looks := false }, kinds := [], alts := [], laidByText := true, laidKinds := [.data, .pinned], laidTests := true, laidLooks := .later }
def CharsEscapesCardSaid : Prop := Claim7.holds Tryd.pinned (.plain (OpenSpec.ofChange charsEscapesSpec)) charsEscapesCard

/-- THE TIED CARD OF 'tarifflaw04.CharsQuotes'. -/
def charsQuotesCard : Claim7 := { stood := { row := charsQuotesRow, standIns := [], harness := (true, "b1d09bd69eeae1fd34a2617f96142c157bd2044c4f15dafad961d4bee4549d8d"), looks := false }, kinds := [], alts := [], laidByText := true, laidKinds := [.data, .pinned], laidTests := true, laidLooks := .later }
def CharsQuotesCardSaid : Prop := Claim7.holds Tryd.pinned (.plain (OpenSpec.ofChange charsQuotesSpec)) charsQuotesCard

/-- THE TIED CARD OF 'tarifflaw04.CharsNames'. -/
def charsNamesCard : Claim7 := { stood := { row := charsNamesRow, standIns := [], harness := (true, "b1d09bd69eeae1fd34a2617f96142c157bd2044c4f15dafad961d4bee4549d8d"), looks := false }, kinds := [], alts := [], laidByText := true, laidKinds := [.data, .pinned], laidTests := true, laidLooks := .later }
def CharsNamesCardSaid : Prop := Claim7.holds Tryd.pinned (.plain (OpenSpec.ofChange charsNamesSpec)) charsNamesCard

/-- THE TIED CARD OF 'tarifflaw04.CharsCuts'. -/
def charsCutsCard : Claim7 := { stood := { row := charsCutsRow, standIns := [], harness := (true, "b1d09bd69eeae1fd34a2617f96142c157bd2044c4f15dafad961d4bee4549d8d"), looks := false }, kinds := [], alts := [], laidByText := true, laidKinds := [.data, .pinned], laidTests := true, laidLooks := .later }
def CharsCutsCardSaid : Prop := Claim7.holds Tryd.pinned (.plain (OpenSpec.ofChange charsCutsSpec)) charsCutsCard

/-- THE SECOND FORM's CARD OF 'tarifflaw03.DateDays'. -/
def dateDaysUptoCard : Claim7 := { stood := { row := dateDaysUptoRow, standIns := [], harness := (true, "b1d09bd69eeae1fd34a2617f96142c157bd2044c4f15dafad961d4bee4549d8d"), looks := false }, kinds := [], alts := [], laidByText := true, laidKinds := [.data, .data, .data, .data], laidTests := true, laidLooks := .later }
def DateDaysUptoCardSaid : Prop := Claim7.holds Tryd.pinned (.plain (OpenSpec.upto dateDaysSpec)) dateDaysUptoCard

/-- THE SECOND FORM's CARD OF 'tarifflaw03.DateSplits'. -/
def dateSplitsUptoCard : Claim7 := { stood := { row := dateSplitsUptoRow, standIns := [], harness := (true, "b1d09bd69eeae1fd34a2617f96142c157bd2044c4f15dafad961d4bee4549d8d"), looks := false }, kinds := [], alts := [], laidByText := true, laidKinds := [.data, .data, .data, .data], laidTests := true, laidLooks := .later }
def DateSplitsUptoCardSaid : Prop := Claim7.holds Tryd.pinned (.plain (OpenSpec.upto dateSplitsSpec)) dateSplitsUptoCard

/-- THE SECOND FORM's CARD OF 'tarifflaw03.DateSteps'. -/
def dateStepsUptoCard : Claim7 := { stood := { row := dateStepsUptoRow, standIns := [], harness := (true, "b1d09bd69eeae1fd34a2617f96142c157bd2044c4f15dafad961d4bee4549d8d"), looks := false }, kinds := [], alts := [], laidByText := true, laidKinds := [.data, .data, .data, .data], laidTests := true, laidLooks := .later }
def DateStepsUptoCardSaid : Prop := Claim7.holds Tryd.pinned (.plain (OpenSpec.upto dateStepsSpec)) dateStepsUptoCard

/-- THE SECOND FORM's CARD OF 'tarifflaw03.DateTexts'. -/
def dateTextsUptoCard : Claim7 := { stood := { row := dateTextsUptoRow, standIns := [], harness := (true, "b1d09bd69eeae1fd34a2617f96142c157bd2044c4f15dafad961d4bee4549d8d"), looks := false }, kinds := [], alts := [], laidByText := true, laidKinds := [.data, .data, .data, .data], laidTests := true, laidLooks := .later }
def DateTextsUptoCardSaid : Prop := Claim7.holds Tryd.pinned (.plain (OpenSpec.upto dateTextsSpec)) dateTextsUptoCard

/-- THE SECOND FORM's CARD OF 'tarifflaw03.DateWalks'. -/
def dateWalksUptoCard : Claim7 := { stood := { row := dateWalksUptoRow, standIns := [], harness := (true, "b1d09bd69eeae1fd34a2617f96142c157bd2044c4f15dafad961d4bee4549d8d"), looks := false }, kinds := [], alts := [], laidByText := true, laidKinds := [.data, .data, .data, .data], laidTests := true, laidLooks := .later }
def DateWalksUptoCardSaid : Prop := Claim7.holds Tryd.pinned (.plain (OpenSpec.upto dateWalksSpec)) dateWalksUptoCard

/-- THE SECOND FORM's CARD OF 'tarifflaw04.CharsTexts'. -/
def charsTextsUptoCard : Claim7 := { stood := { row := charsTextsUptoRow, standIns := [], harness := (true, "b1d09bd69eeae1fd34a2617f96142c157bd2044c4f15dafad961d4bee4549d8d"), looks := false }, kinds := [], alts := [], laidByText := true, laidKinds := [.data, .pinned], laidTests := true, laidLooks := .later }
def CharsTextsUptoCardSaid : Prop := Claim7.holds Tryd.pinned (.plain (OpenSpec.upto charsTextsSpec)) charsTextsUptoCard

/-- THE SECOND FORM's CARD OF 'tarifflaw04.CharsEscapes'. -/
def charsEscapesUptoCard : Claim7 := { stood := { row := charsEscapesUptoRow, standIns := [], harness := (true, "b1d09bd69eeae1fd34a2617f96142c157bd2044c4f15dafad961d4bee4549d8d"), looks := false }, kinds := [], alts := [], laidByText := true, laidKinds := [.data, .pinned], laidTests := true, laidLooks := .later }
def CharsEscapesUptoCardSaid : Prop := Claim7.holds Tryd.pinned (.plain (OpenSpec.upto charsEscapesSpec)) charsEscapesUptoCard

/-- THE SECOND FORM's CARD OF 'tarifflaw04.CharsQuotes'. -/
def charsQuotesUptoCard : Claim7 := { stood := { row := charsQuotesUptoRow, standIns := [], harness := (true, "b1d09bd69eeae1fd34a2617f96142c157bd2044c4f15dafad961d4bee4549d8d"), looks := false }, kinds := [], alts := [], laidByText := true, laidKinds := [.data, .pinned], laidTests := true, laidLooks := .later }
def CharsQuotesUptoCardSaid : Prop := Claim7.holds Tryd.pinned (.plain (OpenSpec.upto charsQuotesSpec)) charsQuotesUptoCard

/-- THE SECOND FORM's CARD OF 'tarifflaw04.CharsNames'. -/
def charsNamesUptoCard : Claim7 := { stood := { row := charsNamesUptoRow, standIns := [], harness := (true, "b1d09bd69eeae1fd34a2617f96142c157bd2044c4f15dafad961d4bee4549d8d"), looks := false }, kinds := [], alts := [], laidByText := true, laidKinds := [.data, .pinned], laidTests := true, laidLooks := .later }
def CharsNamesUptoCardSaid : Prop := Claim7.holds Tryd.pinned (.plain (OpenSpec.upto charsNamesSpec)) charsNamesUptoCard

/-- THE SECOND FORM's CARD OF 'tarifflaw04.CharsCuts'. -/
def charsCutsUptoCard : Claim7 := { stood := { row := charsCutsUptoRow, standIns := [], harness := (true, "b1d09bd69eeae1fd34a2617f96142c157bd2044c4f15dafad961d4bee4549d8d"), looks := false }, kinds := [], alts := [], laidByText := true, laidKinds := [.data, .pinned], laidTests := true, laidLooks := .later }
def CharsCutsUptoCardSaid : Prop := Claim7.holds Tryd.pinned (.plain (OpenSpec.upto charsCutsSpec)) charsCutsUptoCard
end Rows
end Go.Proofs.YtcfgjhfgjckbbaaDoor
