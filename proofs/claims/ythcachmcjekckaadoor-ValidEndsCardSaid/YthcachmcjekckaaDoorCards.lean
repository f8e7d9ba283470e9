/-
  DERIVED. GIVEN WITH THE SEED: THE CARDS: each row of YthcachmcjekckaaDoorRows.lean that lists a variable, with what it lists TIED to the program's text (the seventh form; the later family's looks); each row that meets fmt, with fmt's text TOLD by the authors' own Lean function (tested against real Go, not proved from fmt's source: count such statements apart). THE CARD IS WHAT COUNTS. Prove the row's statement (the work); the ties are given (YthcachmcjekckaaDoorTie.lean); close each card by the builder's one call (the guide's Derived/Test/ToyasCard.lean, 'card_holds'). Laid BY PROGRAM, IN A SANDBOX (cutbox-door.mjs). By AI agents, Wed Nov 11 2026. No macro, syntax, notation, axiom, sorry.
-/
import Derived.Test.YthcachmcjekckaaDoorRows
import GoSem.ClaimSeven
namespace Go.Proofs.YthcachmcjekckaaDoor
namespace Rows

/-- THE TIED CARD OF 'intagliolaw07.BuildLong'. -/
def buildLongCard : Claim7 := { stood := { row := buildLongRow, standIns := [], harness := (true, "72c5db950dc1f5945e3d49adef526d8fd0b9e49bdd1f983aea22280114ebfc96"), looks := true }, kinds := [], alts := [], laidByText := true, laidKinds := [.handle], laidTests := true, laidLooks := .later }
def BuildLongCardSaid : Prop := Claim7.holds Tryd.pinned (.plain (OpenSpec.ofChange buildLongSpec)) buildLongCard

/-- THE TIED CARD OF 'intagliolaw08.ValidTells'. -/
def validTellsCard : Claim7 := { stood := { row := validTellsRow, standIns := [], harness := (true, "72c5db950dc1f5945e3d49adef526d8fd0b9e49bdd1f983aea22280114ebfc96"), looks := true }, kinds := [], alts := [], laidByText := true, laidKinds := [.handle], laidTests := true, laidLooks := .later }
def ValidTellsCardSaid : Prop := Claim7.holds Tryd.pinned (.plain (OpenSpec.ofChange validTellsSpec)) validTellsCard

/-- THE TIED CARD OF 'intagliolaw08.ValidBuilt'. -/
def validBuiltCard : Claim7 := { stood := { row := validBuiltRow, standIns := [], harness := (true, "72c5db950dc1f5945e3d49adef526d8fd0b9e49bdd1f983aea22280114ebfc96"), looks := true }, kinds := [], alts := [], laidByText := true, laidKinds := [.handle], laidTests := true, laidLooks := .later }
def ValidBuiltCardSaid : Prop := Claim7.holds Tryd.pinned (.plain (OpenSpec.ofChange validBuiltSpec)) validBuiltCard

/-- THE TIED CARD OF 'intagliolaw08.ValidEnds'. -/
def validEndsCard : Claim7 := { stood := { row := validEndsRow, standIns := [], harness := (true, "72c5db950dc1f5945e3d49adef526d8fd0b9e49bdd1f983aea22280114ebfc96"), looks := true }, kinds := [], alts := [], laidByText := true, laidKinds := [.handle], laidTests := true, laidLooks := .later }
def ValidEndsCardSaid : Prop := Claim7.holds Tryd.pinned (.plain (OpenSpec.ofChange validEndsSpec)) validEndsCard

/-- THE TIED CARD OF 'intagliolaw08.ValidKeeps'. -/
def validKeepsCard : Claim7 := { stood := { row := validKeepsRow, standIns := [], harness := (true, "72c5db950dc1f5945e3d49adef526d8fd0b9e49bdd1f983aea22280114ebfc96"), looks := true }, kinds := [], alts := [], laidByText := true, laidKinds := [.handle], laidTests := true, laidLooks := .later }
def ValidKeepsCardSaid : Prop := Claim7.holds Tryd.pinned (.plain (OpenSpec.ofChange validKeepsSpec)) validKeepsCard

/-- THE TIED CARD OF 'intagliolaw08.ValidCut'. -/
def validCutCard : Claim7 := { stood := { row := validCutRow, standIns := [], harness := (true, "72c5db950dc1f5945e3d49adef526d8fd0b9e49bdd1f983aea22280114ebfc96"), looks := true }, kinds := [], alts := [], laidByText := true, laidKinds := [.handle], laidTests := true, laidLooks := .later }
def ValidCutCardSaid : Prop := Claim7.holds Tryd.pinned (.plain (OpenSpec.ofChange validCutSpec)) validCutCard

/-- THE TIED CARD OF 'intagliolaw09.LookWalks'. -/
def lookWalksCard : Claim7 := { stood := { row := lookWalksRow, standIns := [], harness := (true, "72c5db950dc1f5945e3d49adef526d8fd0b9e49bdd1f983aea22280114ebfc96"), looks := true }, kinds := [], alts := [], laidByText := true, laidKinds := [.handle], laidTests := true, laidLooks := .later }
def LookWalksCardSaid : Prop := Claim7.holds Tryd.pinned (.plain (OpenSpec.ofChange lookWalksSpec)) lookWalksCard

/-- THE TIED CARD OF 'intagliolaw09.LookNil'. -/
def lookNilCard : Claim7 := { stood := { row := lookNilRow, standIns := [], harness := (true, "72c5db950dc1f5945e3d49adef526d8fd0b9e49bdd1f983aea22280114ebfc96"), looks := true }, kinds := [], alts := [], laidByText := true, laidKinds := [.handle], laidTests := true, laidLooks := .later }
def LookNilCardSaid : Prop := Claim7.holds Tryd.pinned (.plain (OpenSpec.ofChange lookNilSpec)) lookNilCard

/-- THE SECOND FORM's CARD OF 'intagliolaw07.BuildLong'. -/
def buildLongUptoCard : Claim7 := { stood := { row := buildLongUptoRow, standIns := [], harness := (true, "72c5db950dc1f5945e3d49adef526d8fd0b9e49bdd1f983aea22280114ebfc96"), looks := true }, kinds := [], alts := [], laidByText := true, laidKinds := [.handle], laidTests := true, laidLooks := .later }
def BuildLongUptoCardSaid : Prop := Claim7.holds Tryd.pinned (.plain (OpenSpec.upto buildLongSpec)) buildLongUptoCard

/-- THE SECOND FORM's CARD OF 'intagliolaw08.ValidTells'. -/
def validTellsUptoCard : Claim7 := { stood := { row := validTellsUptoRow, standIns := [], harness := (true, "72c5db950dc1f5945e3d49adef526d8fd0b9e49bdd1f983aea22280114ebfc96"), looks := true }, kinds := [], alts := [], laidByText := true, laidKinds := [.handle], laidTests := true, laidLooks := .later }
def ValidTellsUptoCardSaid : Prop := Claim7.holds Tryd.pinned (.plain (OpenSpec.upto validTellsSpec)) validTellsUptoCard

/-- THE SECOND FORM's CARD OF 'intagliolaw08.ValidBuilt'. -/
def validBuiltUptoCard : Claim7 := { stood := { row := validBuiltUptoRow, standIns := [], harness := (true, "72c5db950dc1f5945e3d49adef526d8fd0b9e49bdd1f983aea22280114ebfc96"), looks := true }, kinds := [], alts := [], laidByText := true, laidKinds := [.handle], laidTests := true, laidLooks := .later }
def ValidBuiltUptoCardSaid : Prop := Claim7.holds Tryd.pinned (.plain (OpenSpec.upto validBuiltSpec)) validBuiltUptoCard

/-- THE SECOND FORM's CARD OF 'intagliolaw08.ValidEnds'. -/
def validEndsUptoCard : Claim7 := { stood := { row := validEndsUptoRow, standIns := [], harness := (true, "72c5db950dc1f5945e3d49adef526d8fd0b9e49bdd1f983aea22280114ebfc96"), looks := true }, kinds := [], alts := [], laidByText := true, laidKinds := [.handle], laidTests := true, laidLooks := .later }
def ValidEndsUptoCardSaid : Prop := Claim7.holds Tryd.pinned (.plain (OpenSpec.upto validEndsSpec)) validEndsUptoCard

/-- THE SECOND FORM's CARD OF 'intagliolaw08.ValidKeeps'. -/
def validKeepsUptoCard : Claim7 := { stood := { row := validKeepsUptoRow, standIns := [], harness := (true, "72c5db950dc1f5945e3d49adef526d8fd0b9e49bdd1f983aea22280114ebfc96"), looks := true }, kinds := [], alts := [], laidByText := true, laidKinds := [.handle], laidTests := true, laidLooks := .later }
def ValidKeepsUptoCardSaid : Prop := Claim7.holds Tryd.pinned (.plain (OpenSpec.upto validKeepsSpec)) validKeepsUptoCard

/-- THE SECOND FORM's CARD OF 'intagliolaw08.ValidCut'. -/
def validCutUptoCard : Claim7 := { stood := { row := validCutUptoRow, standIns := [], harness := (true, "72c5db950dc1f5945e3d49adef526d8fd0b9e49bdd1f983aea22280114ebfc96"), looks := true }, kinds := [], alts := [], laidByText := true, laidKinds := [.handle], laidTests := true, laidLooks := .later }
def ValidCutUptoCardSaid : Prop := Claim7.holds Tryd.pinned (.plain (OpenSpec.upto validCutSpec)) validCutUptoCard

/-- THE SECOND FORM's CARD OF 'intagliolaw09.LookWalks'. -/
def lookWalksUptoCard : Claim7 := { stood := { row := lookWalksUptoRow, standIns := [], harness := (true, "72c5db950dc1f5945e3d49adef526d8fd0b9e49bdd1f983aea22280114ebfc96"), looks := true }, kinds := [], alts := [], laidByText := true, laidKinds := [.handle], laidTests := true, laidLooks := .later }
def LookWalksUptoCardSaid : Prop := Claim7.holds Tryd.pinned (.plain (OpenSpec.upto lookWalksSpec)) lookWalksUptoCard

/-- THE SECOND FORM's CARD OF 'intagliolaw09.LookNil'. -/
def lookNilUptoCard : Claim7 := { stood := { row := lookNilUptoRow, standIns := [], harness := (true, "72c5db950dc1f5945e3d49adef526d8fd0b9e49bdd1f983aea22280114ebfc96"), looks := true }, kinds := [], alts := [], laidByText := true, laidKinds := [.handle], laidTests := true, laidLooks := .later }
def LookNilUptoCardSaid : Prop := Claim7.holds Tryd.pinned (.plain (OpenSpec.upto lookNilSpec)) lookNilUptoCard
end Rows
end Go.Proofs.YthcachmcjekckaaDoor
