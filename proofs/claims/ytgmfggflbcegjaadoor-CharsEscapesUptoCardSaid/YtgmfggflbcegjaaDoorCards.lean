/-
  DERIVED. GIVEN WITH THE SEED: THE CARDS: each row of YtgmfggflbcegjaaDoorRows.lean that lists a variable, with what it lists TIED to the program's text (the seventh form; the later family's looks); each row that meets fmt, with fmt's text TOLD by the authors' own Lean function (tested against real Go, not proved from fmt's source: count such statements apart). THE CARD IS WHAT COUNTS. Prove the row's statement (the work); the ties are given (YtgmfggflbcegjaaDoorTie.lean); close each card by the builder's one call (the guide's Derived/Test/ToyasCard.lean, 'card_holds'). Laid BY PROGRAM, IN A SANDBOX (cutbox-door.mjs). By AI agents, Wed Nov 11 2026. No macro, syntax, notation, axiom, sorry.
-/
import Derived.Test.YtgmfggflbcegjaaDoorRows
import GoSem.ClaimSeven
namespace Go.Proofs.YtgmfggflbcegjaaDoor
namespace Rows

/-- THE TIED CARD OF 'tarifflaw04.CharsEscapes'. -/
def charsEscapesCard : Claim7 := { stood := { row := charsEscapesRow, standIns := [], harness := (true, "1e0ef40a3ce8ed08bbe35bdd2a1e5d5b93e39e5a51ac2a2f3f597a5967dab7fa"), looks := false }, kinds := [], alts := [], laidByText := true, laidKinds := [.data, .pinned], laidTests := true, laidLooks := .later }
def CharsEscapesCardSaid : Prop := Claim7.holds Tryd.pinned (.plain (OpenSpec.ofChange charsEscapesSpec)) charsEscapesCard

/-- THE TIED CARD OF 'tarifflaw05.MarkNames'. -/
def markNamesCard : Claim7 := { stood := { row := markNamesRow, standIns := [], harness := (true, "1e0ef40a3ce8ed08bbe35bdd2a1e5d5b93e39e5a51ac2a2f3f597a5967dab7fa"), looks := false }, kinds := [], alts := [], laidByText := true, laidKinds := [.data, .pinned], laidTests := true, laidLooks := .later }
def MarkNamesCardSaid : Prop := Claim7.holds Tryd.pinned (.plain (OpenSpec.ofChange markNamesSpec)) markNamesCard

/-- THE TIED CARD OF 'tarifflaw05.MarkApart'. -/
def markApartCard : Claim7 := { stood := { row := markApartRow, standIns := [], harness := (true, "1e0ef40a3ce8ed08bbe35bdd2a1e5d5b93e39e5a51ac2a2f3f597a5967dab7fa"), looks := false }, kinds := [], alts := [], laidByText := true, laidKinds := [.data, .pinned], laidTests := true, laidLooks := .later }
def MarkApartCardSaid : Prop := Claim7.holds Tryd.pinned (.plain (OpenSpec.ofChange markApartSpec)) markApartCard

/-- THE TIED CARD OF 'tarifflaw05.MarkSpells'. -/
def markSpellsCard : Claim7 := { stood := { row := markSpellsRow, standIns := [], harness := (true, "1e0ef40a3ce8ed08bbe35bdd2a1e5d5b93e39e5a51ac2a2f3f597a5967dab7fa"), looks := false }, kinds := [], alts := [], laidByText := true, laidKinds := [.data, .pinned], laidTests := true, laidLooks := .later }
def MarkSpellsCardSaid : Prop := Claim7.holds Tryd.pinned (.plain (OpenSpec.ofChange markSpellsSpec)) markSpellsCard

/-- THE TIED CARD OF 'tarifflaw06.TreeChecks'. -/
def treeChecksCard : Claim7 := { stood := { row := treeChecksRow, standIns := [], harness := (true, "1e0ef40a3ce8ed08bbe35bdd2a1e5d5b93e39e5a51ac2a2f3f597a5967dab7fa"), looks := false }, kinds := [], alts := [], laidByText := true, laidKinds := [.data, .pinned], laidTests := true, laidLooks := .later }
def TreeChecksCardSaid : Prop := Claim7.holds Tryd.pinned (.plain (OpenSpec.ofChange treeChecksSpec)) treeChecksCard

/-- THE TIED CARD OF 'tarifflaw06.TreeFixed'. -/
def treeFixedCard : Claim7 := { stood := { row := treeFixedRow, standIns := [], harness := (true, "1e0ef40a3ce8ed08bbe35bdd2a1e5d5b93e39e5a51ac2a2f3f597a5967dab7fa"), looks := false }, kinds := [], alts := [], laidByText := true, laidKinds := [.data, .pinned], laidTests := true, laidLooks := .later }
def TreeFixedCardSaid : Prop := Claim7.holds Tryd.pinned (.plain (OpenSpec.ofChange treeFixedSpec)) treeFixedCard

/-- THE SECOND FORM's CARD OF 'tarifflaw04.CharsEscapes'. -/
def charsEscapesUptoCard : Claim7 := { stood := { row := charsEscapesUptoRow, standIns := [], harness := (true, "1e0ef40a3ce8ed08bbe35bdd2a1e5d5b93e39e5a51ac2a2f3f597a5967dab7fa"), looks := false }, kinds := [], alts := [], laidByText := true, laidKinds := [.data, .pinned], laidTests := true, laidLooks := .later }
def CharsEscapesUptoCardSaid : Prop := Claim7.holds Tryd.pinned (.plain (OpenSpec.upto charsEscapesSpec)) charsEscapesUptoCard

/-- THE SECOND FORM's CARD OF 'tarifflaw05.MarkNames'. -/
def markNamesUptoCard : Claim7 := { stood := { row := markNamesUptoRow, standIns := [], harness := (true, "1e0ef40a3ce8ed08bbe35bdd2a1e5d5b93e39e5a51ac2a2f3f597a5967dab7fa"), looks := false }, kinds := [], alts := [], laidByText := true, laidKinds := [.data, .pinned], laidTests := true, laidLooks := .later }
def MarkNamesUptoCardSaid : Prop := Claim7.holds Tryd.pinned (.plain (OpenSpec.upto markNamesSpec)) markNamesUptoCard

/-- THE SECOND FORM's CARD OF 'tarifflaw05.MarkApart'. -/
def markApartUptoCard : Claim7 := { stood := { row := markApartUptoRow, standIns := [], harness := (true, "1e0ef40a3ce8ed08bbe35bdd2a1e5d5b93e39e5a51ac2a2f3f597a5967dab7fa"), looks := false }, kinds := [], alts := [], laidByText := true, laidKinds := [.data, .pinned], laidTests := true, laidLooks := .later }
def MarkApartUptoCardSaid : Prop := Claim7.holds Tryd.pinned (.plain (OpenSpec.upto markApartSpec)) markApartUptoCard

/-- THE SECOND FORM's CARD OF 'tarifflaw05.MarkSpells'. -/
def markSpellsUptoCard : Claim7 := { stood := { row := markSpellsUptoRow, standIns := [], harness := (true, "1e0ef40a3ce8ed08bbe35bdd2a1e5d5b93e39e5a51ac2a2f3f597a5967dab7fa"), looks := false }, kinds := [], alts := [], laidByText := true, laidKinds := [.data, .pinned], laidTests := true, laidLooks := .later }
def MarkSpellsUptoCardSaid : Prop := Claim7.holds Tryd.pinned (.plain (OpenSpec.upto markSpellsSpec)) markSpellsUptoCard

/-- THE SECOND FORM's CARD OF 'tarifflaw06.TreeChecks'. -/
def treeChecksUptoCard : Claim7 := { stood := { row := treeChecksUptoRow, standIns := [], harness := (true, "1e0ef40a3ce8ed08bbe35bdd2a1e5d5b93e39e5a51ac2a2f3f597a5967dab7fa"), looks := false }, kinds := [], alts := [], laidByText := true, laidKinds := [.data, .pinned], laidTests := true, laidLooks := .later }
def TreeChecksUptoCardSaid : Prop := Claim7.holds Tryd.pinned (.plain (OpenSpec.upto treeChecksSpec)) treeChecksUptoCard

/-- THE SECOND FORM's CARD OF 'tarifflaw06.TreeFixed'. -/
def treeFixedUptoCard : Claim7 := { stood := { row := treeFixedUptoRow, standIns := [], harness := (true, "1e0ef40a3ce8ed08bbe35bdd2a1e5d5b93e39e5a51ac2a2f3f597a5967dab7fa"), looks := false }, kinds := [], alts := [], laidByText := true, laidKinds := [.data, .pinned], laidTests := true, laidLooks := .later }
def TreeFixedUptoCardSaid : Prop := Claim7.holds Tryd.pinned (.plain (OpenSpec.upto treeFixedSpec)) treeFixedUptoCard
end Rows
end Go.Proofs.YtgmfggflbcegjaaDoor
