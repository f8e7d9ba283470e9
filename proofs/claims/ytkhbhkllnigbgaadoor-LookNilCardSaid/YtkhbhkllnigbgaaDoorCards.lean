/-
  DERIVED. GIVEN WITH THE SEED: THE CARDS: each row of YtkhbhkllnigbgaaDoorRows.lean that lists a variable, with what it lists TIED to the program's text (the seventh form; the later family's looks); each row that meets fmt, with fmt's text TOLD by the authors' own Lean function (tested against real Go, not proved from fmt's source: count such statements apart). THE CARD IS WHAT COUNTS. Prove the row's statement (the work); the ties are given (YtkhbhkllnigbgaaDoorTie.lean); close each card by the builder's one call (the guide's Derived/Test/ToyasCard.lean, 'card_holds'). Laid BY PROGRAM, IN A SANDBOX (cutbox-door.mjs). By AI agents, Wed Nov 11 2026. No macro, syntax, notation, axiom, sorry.
-/
import Derived.Test.YtkhbhkllnigbgaaDoorRows
import GoSem.ClaimSeven
namespace Go.Proofs.YtkhbhkllnigbgaaDoor
namespace Rows

/-- THE TIED CARD OF 'intagliolaw08.ValidTells'. -/
def validTellsCard : Claim7 := { stood := { row := validTellsRow, standIns := [], harness := (true, "0ae5310919cc9161d2c6bfa96604ecc0629f3f27a2a5234401d4e6229c02a9f1"), looks := true }, kinds := [], alts := [], laidByText := true, laidKinds := [.handle], laidTests := true, laidLooks := .later }
def ValidTellsCardSaid : Prop := Claim7.holds Tryd.pinned (.plain (OpenSpec.ofChange validTellsSpec)) validTellsCard

/-- THE TIED CARD OF 'intagliolaw09.LookWalks'. -/
def lookWalksCard : Claim7 := { stood := { row := lookWalksRow, standIns := [], harness := (true, "0ae5310919cc9161d2c6bfa96604ecc0629f3f27a2a5234401d4e6229c02a9f1"), looks := true }, kinds := [], alts := [], laidByText := true, laidKinds := [.handle], laidTests := true, laidLooks := .later }
def LookWalksCardSaid : Prop := Claim7.holds Tryd.pinned (.plain (OpenSpec.ofChange lookWalksSpec)) lookWalksCard

/-- THE TIED CARD OF 'intagliolaw09.LookNil'. -/
def lookNilCard : Claim7 := { stood := { row := lookNilRow, standIns := [], harness := (true, "0ae5310919cc9161d2c6bfa96604ecc0629f3f27a2a5234401d4e6229c02a9f1"), looks := true }, kinds := [], alts := [], laidByText := true, laidKinds := [.handle], laidTests := true, laidLooks := .later }
def LookNilCardSaid : Prop := Claim7.holds Tryd.pinned (.plain (OpenSpec.ofChange lookNilSpec)) lookNilCard

/-- THE TIED CARD OF 'intagliolaw10.HeadsTell'. -/
def headsTellCard : Claim7 := { stood := { row := headsTellRow, standIns := [], harness := (true, "0ae5310919cc9161d2c6bfa96604ecc0629f3f27a2a5234401d4e6229c02a9f1"), looks := true }, kinds := [], alts := [], laidByText := true, laidKinds := [.handle, .data], laidTests := true, laidLooks := .later }
def HeadsTellCardSaid : Prop := Claim7.holds Tryd.pinned (.plain (OpenSpec.ofChange headsTellSpec)) headsTellCard

/-- THE TIED CARD OF 'intagliolaw10.HeadsTurn'. -/
def headsTurnCard : Claim7 := { stood := { row := headsTurnRow, standIns := [], harness := (true, "0ae5310919cc9161d2c6bfa96604ecc0629f3f27a2a5234401d4e6229c02a9f1"), looks := true }, kinds := [], alts := [], laidByText := true, laidKinds := [.handle, .data], laidTests := true, laidLooks := .later }
def HeadsTurnCardSaid : Prop := Claim7.holds Tryd.pinned (.plain (OpenSpec.ofChange headsTurnSpec)) headsTurnCard

/-- THE TIED CARD OF 'intagliolaw10.HeadsOnce'. -/
def headsOnceCard : Claim7 := { stood := { row := headsOnceRow, standIns := [], harness := (true, "0ae5310919cc9161d2c6bfa96604ecc0629f3f27a2a5234401d4e6229c02a9f1"), looks := true }, kinds := [], alts := [], laidByText := true, laidKinds := [.handle, .data], laidTests := true, laidLooks := .later }
def HeadsOnceCardSaid : Prop := Claim7.holds Tryd.pinned (.plain (OpenSpec.ofChange headsOnceSpec)) headsOnceCard

/-- THE TIED CARD OF 'intagliolaw10.HeadsFree'. -/
def headsFreeCard : Claim7 := { stood := { row := headsFreeRow, standIns := [], harness := (true, "0ae5310919cc9161d2c6bfa96604ecc0629f3f27a2a5234401d4e6229c02a9f1"), looks := true }, kinds := [], alts := [], laidByText := true, laidKinds := [.handle, .data], laidTests := true, laidLooks := .later }
def HeadsFreeCardSaid : Prop := Claim7.holds Tryd.pinned (.plain (OpenSpec.ofChange headsFreeSpec)) headsFreeCard

/-- THE SECOND FORM's CARD OF 'intagliolaw08.ValidTells'. -/
def validTellsUptoCard : Claim7 := { stood := { row := validTellsUptoRow, standIns := [], harness := (true, "0ae5310919cc9161d2c6bfa96604ecc0629f3f27a2a5234401d4e6229c02a9f1"), looks := true }, kinds := [], alts := [], laidByText := true, laidKinds := [.handle], laidTests := true, laidLooks := .later }
def ValidTellsUptoCardSaid : Prop := Claim7.holds Tryd.pinned (.plain (OpenSpec.upto validTellsSpec)) validTellsUptoCard

/-- THE SECOND FORM's CARD OF 'intagliolaw09.LookWalks'. -/
def lookWalksUptoCard : Claim7 := { stood := { row := lookWalksUptoRow, standIns := [], harness := (true, "0ae5310919cc9161d2c6bfa96604ecc0629f3f27a2a5234401d4e6229c02a9f1"), looks := true }, kinds := [], alts := [], laidByText := true, laidKinds := [.handle], laidTests := true, laidLooks := .later }
def LookWalksUptoCardSaid : Prop := Claim7.holds Tryd.pinned (.plain (OpenSpec.upto lookWalksSpec)) lookWalksUptoCard

/-- THE SECOND FORM's CARD OF 'intagliolaw09.LookNil'. -/
def lookNilUptoCard : Claim7 := { stood := { row := lookNilUptoRow, standIns := [], harness := (true, "0ae5310919cc9161d2c6bfa96604ecc0629f3f27a2a5234401d4e6229c02a9f1"), looks := true }, kinds := [], alts := [], laidByText := true, laidKinds := [.handle], laidTests := true, laidLooks := .later }
def LookNilUptoCardSaid : Prop := Claim7.holds Tryd.pinned (.plain (OpenSpec.upto lookNilSpec)) lookNilUptoCard

/-- THE SECOND FORM's CARD OF 'intagliolaw10.HeadsTell'. -/
def headsTellUptoCard : Claim7 := { stood := { row := headsTellUptoRow, standIns := [], harness := (true, "0ae5310919cc9161d2c6bfa96604ecc0629f3f27a2a5234401d4e6229c02a9f1"), looks := true }, kinds := [], alts := [], laidByText := true, laidKinds := [.handle, .data], laidTests := true, laidLooks := .later }
def HeadsTellUptoCardSaid : Prop := Claim7.holds Tryd.pinned (.plain (OpenSpec.upto headsTellSpec)) headsTellUptoCard

/-- THE SECOND FORM's CARD OF 'intagliolaw10.HeadsTurn'. -/
def headsTurnUptoCard : Claim7 := { stood := { row := headsTurnUptoRow, standIns := [], harness := (true, "0ae5310919cc9161d2c6bfa96604ecc0629f3f27a2a5234401d4e6229c02a9f1"), looks := true }, kinds := [], alts := [], laidByText := true, laidKinds := [.handle, .data], laidTests := true, laidLooks := .later }
def HeadsTurnUptoCardSaid : Prop := Claim7.holds Tryd.pinned (.plain (OpenSpec.upto headsTurnSpec)) headsTurnUptoCard

/-- THE SECOND FORM's CARD OF 'intagliolaw10.HeadsOnce'. -/
def headsOnceUptoCard : Claim7 := { stood := { row := headsOnceUptoRow, standIns := [], harness := (true, "0ae5310919cc9161d2c6bfa96604ecc0629f3f27a2a5234401d4e6229c02a9f1"), looks := true }, kinds := [], alts := [], laidByText := true, laidKinds := [.handle, .data], laidTests := true, laidLooks := .later }
def HeadsOnceUptoCardSaid : Prop := Claim7.holds Tryd.pinned (.plain (OpenSpec.upto headsOnceSpec)) headsOnceUptoCard

/-- THE SECOND FORM's CARD OF 'intagliolaw10.HeadsFree'. -/
def headsFreeUptoCard : Claim7 := { stood := { row := headsFreeUptoRow, standIns := [], harness := (true, "0ae5310919cc9161d2c6bfa96604ecc0629f3f27a2a5234401d4e6229c02a9f1"), looks := true }, kinds := [], alts := [], laidByText := true, laidKinds := [.handle, .data], laidTests := true, laidLooks := .later }
def HeadsFreeUptoCardSaid : Prop := Claim7.holds Tryd.pinned (.plain (OpenSpec.upto headsFreeSpec)) headsFreeUptoCard
end Rows
end Go.Proofs.YtkhbhkllnigbgaaDoor
