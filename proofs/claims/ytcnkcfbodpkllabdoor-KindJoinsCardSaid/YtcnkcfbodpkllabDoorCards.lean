/-
  DERIVED. GIVEN WITH THE SEED: THE CARDS: each row of YtcnkcfbodpkllabDoorRows.lean that lists a variable, with what it lists TIED to the program's text (the seventh form; the later family's looks); each row that meets fmt, with fmt's text TOLD by the authors' own Lean function (tested against real Go, not proved from fmt's source: count such statements apart). THE CARD IS WHAT COUNTS. Prove the row's statement (the work); the ties are given (YtcnkcfbodpkllabDoorTie.lean); close each card by the builder's one call (the guide's Derived/Test/ToyasCard.lean, 'card_holds'). Laid BY PROGRAM, IN A SANDBOX (cutbox-door.mjs). By AI agents, Wed Nov 11 2026. No macro, syntax, notation, axiom, sorry.
-/
import Derived.Test.YtcnkcfbodpkllabDoorRows
import GoSem.ClaimSeven
namespace Go.Proofs.YtcnkcfbodpkllabDoor
namespace Rows

/-- THE TIED CARD OF 'tarifflaw08.KindNames'. -/
def kindNamesCard : Claim7 := { stood := { row := kindNamesRow, standIns := [], harness := (true, "20318f104efa46d0ade3fb2e74278a94f76bc3592e9d8a778299f87472089093"), looks := false }, kinds := [], alts := [], laidByText := true, laidKinds := [.data], laidTests := true, laidLooks := .later }
def KindNamesCardSaid : Prop := Claim7.holds Tryd.pinned (.plain (OpenSpec.ofChange kindNamesSpec)) kindNamesCard

/-- THE TIED CARD OF 'tarifflaw08.KindJoins'. -/
def kindJoinsCard : Claim7 := { stood := { row := kindJoinsRow, standIns := [], harness := (true, "20318f104efa46d0ade3fb2e74278a94f76bc3592e9d8a778299f87472089093"), looks := false }, kinds := [], alts := [], laidByText := true, laidKinds := [.data], laidTests := true, laidLooks := .later }
def KindJoinsCardSaid : Prop := Claim7.holds Tryd.pinned (.plain (OpenSpec.ofChange kindJoinsSpec)) kindJoinsCard

/-- THE SECOND FORM's CARD OF 'tarifflaw08.KindNames'. -/
def kindNamesUptoCard : Claim7 := { stood := { row := kindNamesUptoRow, standIns := [], harness := (true, "20318f104efa46d0ade3fb2e74278a94f76bc3592e9d8a778299f87472089093"), looks := false }, kinds := [], alts := [], laidByText := true, laidKinds := [.data], laidTests := true, laidLooks := .later }
def KindNamesUptoCardSaid : Prop := Claim7.holds Tryd.pinned (.plain (OpenSpec.upto kindNamesSpec)) kindNamesUptoCard

/-- THE SECOND FORM's CARD OF 'tarifflaw08.KindJoins'. -/
def kindJoinsUptoCard : Claim7 := { stood := { row := kindJoinsUptoRow, standIns := [], harness := (true, "20318f104efa46d0ade3fb2e74278a94f76bc3592e9d8a778299f87472089093"), looks := false }, kinds := [], alts := [], laidByText := true, laidKinds := [.data], laidTests := true, laidLooks := .later }
def KindJoinsUptoCardSaid : Prop := Claim7.holds Tryd.pinned (.plain (OpenSpec.upto kindJoinsSpec)) kindJoinsUptoCard
end Rows
end Go.Proofs.YtcnkcfbodpkllabDoor
