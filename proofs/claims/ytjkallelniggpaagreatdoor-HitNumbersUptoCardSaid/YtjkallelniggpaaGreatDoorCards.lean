/-
  DERIVED. GIVEN WITH THE SEED: THE CARDS: each row of YtjkallelniggpaaGreatDoorRows.lean that lists a variable, with what it lists TIED to the program's text (the seventh form; the later family's looks); each row that meets fmt, with fmt's text TOLD by the authors' own Lean function (tested against real Go, not proved from fmt's source: count such statements apart). THE CARD IS WHAT COUNTS. Prove the row's statement (the work); the ties are given (YtjkallelniggpaaGreatDoorTie.lean); close each card by the builder's one call (the guide's Derived/Test/ToyasCard.lean, 'card_holds'). Laid BY PROGRAM, IN A SANDBOX (cutbox-door.mjs). By AI agents, Wed Nov 11 2026. No macro, syntax, notation, axiom, sorry.
-/
import Derived.Test.YtjkallelniggpaaGreatDoorRows
import GoSem.ClaimSeven
namespace Go.Proofs.YtjkallelniggpaaGreatDoor
namespace Rows

/-- THE TIED CARD OF 'tarifflaw18.HitNumbers'. -/
def hitNumbersCard : Claim7 := { stood := { row := hitNumbersRow, standIns := [], harness := (true, "f87794f768f91542bd16f72b8aa8a90b75f8f01fc19c6f788ea0a391ae1c85bb"), looks := false }, kinds := [], alts := [], laidByText := true, laidKinds := [.data, .data, .pinned], laidTests := true, laidLooks := .later }
def HitNumbersCardSaid : Prop := Claim7.holds Tryz.pinned (.plain (OpenSpec.ofChange hitNumbersSpec)) hitNumbersCard

/-- THE SECOND FORM's CARD OF 'tarifflaw18.HitNumbers'. -/
def hitNumbersUptoCard : Claim7 := { stood := { row := hitNumbersUptoRow, standIns := [], harness := (true, "f87794f768f91542bd16f72b8aa8a90b75f8f01fc19c6f788ea0a391ae1c85bb"), looks := false }, kinds := [], alts := [], laidByText := true, laidKinds := [.data, .data, .pinned], laidTests := true, laidLooks := .later }
def HitNumbersUptoCardSaid : Prop := Claim7.holds Tryz.pinned (.plain (OpenSpec.upto hitNumbersSpec)) hitNumbersUptoCard
end Rows
end Go.Proofs.YtjkallelniggpaaGreatDoor
