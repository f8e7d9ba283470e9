/-
  DERIVED. GIVEN WITH THE SEED: THE CARDS: each row of YtkpffnihnhlghaaGreatDoorRows.lean that lists a variable, with what it lists TIED to the program's text (the seventh form; the later family's looks); each row that meets fmt, with fmt's text TOLD by the authors' own Lean function (tested against real Go, not proved from fmt's source: count such statements apart). THE CARD IS WHAT COUNTS. Prove the row's statement (the work); the ties are given (YtkpffnihnhlghaaGreatDoorTie.lean); close each card by the builder's one call (the guide's Derived/Test/ToyasCard.lean, 'card_holds'). Laid BY PROGRAM, IN A SANDBOX (cutbox-door.mjs). By AI agents, Wed Nov 11 2026. No macro, syntax, notation, axiom, sorry.
-/
import Derived.Test.YtkpffnihnhlghaaGreatDoorRows
import GoSem.ClaimSeven
namespace Go.Proofs.YtkpffnihnhlghaaGreatDoor
namespace Rows

/-- THE TIED CARD OF 'intagliolaw10.HeadsList'. -/
def headsListCard : Claim7 := { stood := { row := headsListRow, standIns := [], harness := (true, "08b87a45085ee82152199a17e70fda546bdbf4dc1ad7aa693da1b6bbc343f870"), looks := true }, kinds := [], alts := [], laidByText := true, laidKinds := [.handle, .data], laidTests := true, laidLooks := .later }
def HeadsListCardSaid : Prop := Claim7.holds Tryz.pinned (.plain (OpenSpec.ofChange headsListSpec)) headsListCard

/-- THE SECOND FORM's CARD OF 'intagliolaw10.HeadsList'. -/
def headsListUptoCard : Claim7 := { stood := { row := headsListUptoRow, standIns := [], harness := (true, "08b87a45085ee82152199a17e70fda546bdbf4dc1ad7aa693da1b6bbc343f870"), looks := true }, kinds := [], alts := [], laidByText := true, laidKinds := [.handle, .data], laidTests := true, laidLooks := .later }
def HeadsListUptoCardSaid : Prop := Claim7.holds Tryz.pinned (.plain (OpenSpec.upto headsListSpec)) headsListUptoCard
end Rows
end Go.Proofs.YtkpffnihnhlghaaGreatDoor
