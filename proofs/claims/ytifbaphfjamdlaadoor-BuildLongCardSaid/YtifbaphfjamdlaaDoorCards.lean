/-
  DERIVED. GIVEN WITH THE SEED: THE CARDS: each row of YtifbaphfjamdlaaDoorRows.lean that lists a variable, with what it lists TIED to the program's text (the seventh form; the later family's looks); each row that meets fmt, with fmt's text TOLD by the authors' own Lean function (tested against real Go, not proved from fmt's source: count such statements apart). THE CARD IS WHAT COUNTS. Prove the row's statement (the work); the ties are given (YtifbaphfjamdlaaDoorTie.lean); close each card by the builder's one call (the guide's Derived/Test/ToyasCard.lean, 'card_holds'). Laid BY PROGRAM, IN A SANDBOX (cutbox-door.mjs). By AI agents, Wed Nov 11 2026. No macro, syntax, notation, axiom, sorry.
-/
import Derived.Test.YtifbaphfjamdlaaDoorRows
import GoSem.ClaimSeven
namespace Go.Proofs.YtifbaphfjamdlaaDoor
namespace Rows

/-- THE TIED CARD OF 'intagliolaw07.BuildTells'. -/
def buildTellsCard : Claim7 := { stood := { row := buildTellsRow, standIns := [], harness := (true, "7ea8355a1758651adbe4efa5a43a472eb18bb650e86e59ababc932cfb24b24a3"), looks := true }, kinds := [], alts := [], laidByText := true, laidKinds := [.handle], laidTests := true, laidLooks := .later }
def BuildTellsCardSaid : Prop := Claim7.holds Tryd.pinned (.plain (OpenSpec.ofChange buildTellsSpec)) buildTellsCard

/-- THE TIED CARD OF 'intagliolaw07.BuildRefs'. -/
def buildRefsCard : Claim7 := { stood := { row := buildRefsRow, standIns := [], harness := (true, "7ea8355a1758651adbe4efa5a43a472eb18bb650e86e59ababc932cfb24b24a3"), looks := true }, kinds := [], alts := [], laidByText := true, laidKinds := [.handle], laidTests := true, laidLooks := .later }
def BuildRefsCardSaid : Prop := Claim7.holds Tryd.pinned (.plain (OpenSpec.ofChange buildRefsSpec)) buildRefsCard

/-- THE TIED CARD OF 'intagliolaw07.BuildSizes'. -/
def buildSizesCard : Claim7 := { stood := { row := buildSizesRow, standIns := [], harness := (true, "7ea8355a1758651adbe4efa5a43a472eb18bb650e86e59ababc932cfb24b24a3"), looks := true }, kinds := [], alts := [], laidByText := true, laidKinds := [.handle], laidTests := true, laidLooks := .later }
def BuildSizesCardSaid : Prop := Claim7.holds Tryd.pinned (.plain (OpenSpec.ofChange buildSizesSpec)) buildSizesCard

/-- THE TIED CARD OF 'intagliolaw07.BuildOnce'. -/
def buildOnceCard : Claim7 := { stood := { row := buildOnceRow, standIns := [], harness := (true, "7ea8355a1758651adbe4efa5a43a472eb18bb650e86e59ababc932cfb24b24a3"), looks := true }, kinds := [], alts := [], laidByText := true, laidKinds := [.handle], laidTests := true, laidLooks := .later }
def BuildOnceCardSaid : Prop := Claim7.holds Tryd.pinned (.plain (OpenSpec.ofChange buildOnceSpec)) buildOnceCard

/-- THE TIED CARD OF 'intagliolaw07.BuildApart'. -/
def buildApartCard : Claim7 := { stood := { row := buildApartRow, standIns := [], harness := (true, "7ea8355a1758651adbe4efa5a43a472eb18bb650e86e59ababc932cfb24b24a3"), looks := true }, kinds := [], alts := [], laidByText := true, laidKinds := [.handle], laidTests := true, laidLooks := .later }
def BuildApartCardSaid : Prop := Claim7.holds Tryd.pinned (.plain (OpenSpec.ofChange buildApartSpec)) buildApartCard

/-- THE TIED CARD OF 'intagliolaw07.BuildLong'. -/
def buildLongCard : Claim7 := { stood := { row := buildLongRow, standIns := [], harness := (true, "7ea8355a1758651adbe4efa5a43a472eb18bb650e86e59ababc932cfb24b24a3"), looks := true }, kinds := [], alts := [], laidByText := true, laidKinds := [.handle], laidTests := true, laidLooks := .later }
def BuildLongCardSaid : Prop := Claim7.holds Tryd.pinned (.plain (OpenSpec.ofChange buildLongSpec)) buildLongCard

/-- THE TIED CARD OF 'intagliolaw08.ValidTells'. -/
def validTellsCard : Claim7 := { stood := { row := validTellsRow, standIns := [], harness := (true, "7ea8355a1758651adbe4efa5a43a472eb18bb650e86e59ababc932cfb24b24a3"), looks := true }, kinds := [], alts := [], laidByText := true, laidKinds := [.handle], laidTests := true, laidLooks := .later }
def ValidTellsCardSaid : Prop := Claim7.holds Tryd.pinned (.plain (OpenSpec.ofChange validTellsSpec)) validTellsCard

/-- THE TIED CARD OF 'intagliolaw08.ValidBuilt'. -/
def validBuiltCard : Claim7 := { stood := { row := validBuiltRow, standIns := [], harness := (true, "7ea8355a1758651adbe4efa5a43a472eb18bb650e86e59ababc932cfb24b24a3"), looks := true }, kinds := [], alts := [], laidByText := true, laidKinds := [.handle], laidTests := true, laidLooks := .later }
def ValidBuiltCardSaid : Prop := Claim7.holds Tryd.pinned (.plain (OpenSpec.ofChange validBuiltSpec)) validBuiltCard

/-- THE TIED CARD OF 'intagliolaw08.ValidEnds'. -/
def validEndsCard : Claim7 := { stood := { row := validEndsRow, standIns := [], harness := (true, "7ea8355a1758651adbe4efa5a43a472eb18bb650e86e59ababc932cfb24b24a3"), looks := true }, kinds := [], alts := [], laidByText := true, laidKinds := [.handle], laidTests := true, laidLooks := .later }
def ValidEndsCardSaid : Prop := Claim7.holds Tryd.pinned (.plain (OpenSpec.ofChange validEndsSpec)) validEndsCard

/-- THE TIED CARD OF 'intagliolaw08.ValidKeeps'. -/
def validKeepsCard : Claim7 := { stood := { row := validKeepsRow, standIns := [], harness := (true, "7ea8355a1758651adbe4efa5a43a472eb18bb650e86e59ababc932cfb24b24a3"), looks := true }, kinds := [], alts := [], laidByText := true, laidKinds := [.handle], laidTests := true, laidLooks := .later }
def ValidKeepsCardSaid : Prop := Claim7.holds Tryd.pinned (.plain (OpenSpec.ofChange validKeepsSpec)) validKeepsCard

/-- THE TIED CARD OF 'intagliolaw08.ValidCut'. -/
def validCutCard : Claim7 := { stood := { row := validCutRow, standIns := [], harness := (true, "7ea8355a1758651adbe4efa5a43a472eb18bb650e86e59ababc932cfb24b24a3"), looks := true }, kinds := [], alts := [], laidByText := true, laidKinds := [.handle], laidTests := true, laidLooks := .later }
def ValidCutCardSaid : Prop := Claim7.holds Tryd.pinned (.plain (OpenSpec.ofChange validCutSpec)) validCutCard

/-- THE SECOND FORM's CARD OF 'intagliolaw07.BuildTells'. -/
def buildTellsUptoCard : Claim7 := { stood := { row := buildTellsUptoRow, standIns := [], harness := (true, "7ea8355a1758651adbe4efa5a43a472eb18bb650e86e59ababc932cfb24b24a3"), looks := true }, kinds := [], alts := [], laidByText := true, laidKinds := [.handle], laidTests := true, laidLooks := .later }
def BuildTellsUptoCardSaid : Prop := Claim7.holds Tryd.pinned (.plain (OpenSpec.upto buildTellsSpec)) buildTellsUptoCard

/-- THE SECOND FORM's CARD OF 'intagliolaw07.BuildRefs'. -/
def buildRefsUptoCard : Claim7 := { stood := { row := buildRefsUptoRow, standIns := [], harness := (true, "7ea8355a1758651adbe4efa5a43a472eb18bb650e86e59ababc932cfb24b24a3"), looks := true }, kinds := [], alts := [], laidByText := true, laidKinds := [.handle], laidTests := true, laidLooks := .later }
def BuildRefsUptoCardSaid : Prop := Claim7.holds Tryd.pinned (.plain (OpenSpec.upto buildRefsSpec)) buildRefsUptoCard

/-- THE SECOND FORM's CARD OF 'intagliolaw07.BuildSizes'. -/
def buildSizesUptoCard : Claim7 := { stood := { row := buildSizesUptoRow, standIns := [], harness := (true, "7ea8355a1758651adbe4efa5a43a472eb18bb650e86e59ababc932cfb24b24a3"), looks := true }, kinds := [], alts := [], laidByText := true, laidKinds := [.handle], laidTests := true, laidLooks := .later }
def BuildSizesUptoCardSaid : Prop := Claim7.holds Tryd.pinned (.plain (OpenSpec.upto buildSizesSpec)) buildSizesUptoCard

/-- THE SECOND FORM's CARD OF 'intagliolaw07.BuildOnce'. -/
def buildOnceUptoCard : Claim7 := { stood := { row := buildOnceUptoRow, standIns := [], harness := (true, "7ea8355a1758651adbe4efa5a43a472eb18bb650e86e59ababc932cfb24b24a3"), looks := true }, kinds := [], alts := [], laidByText := true, laidKinds := [.handle], laidTests := true, laidLooks := .later }
def BuildOnceUptoCardSaid : Prop := Claim7.holds Tryd.pinned (.plain (OpenSpec.upto buildOnceSpec)) buildOnceUptoCard

/-- THE SECOND FORM's CARD OF 'intagliolaw07.BuildApart'. -/
def buildApartUptoCard : Claim7 := { stood := { row := buildApartUptoRow, standIns := [], harness := (true, "7ea8355a1758651adbe4efa5a43a472eb18bb650e86e59ababc932cfb24b24a3"), looks := true }, kinds := [], alts := [], laidByText := true, laidKinds := [.handle], laidTests := true, laidLooks := .later }
def BuildApartUptoCardSaid : Prop := Claim7.holds Tryd.pinned (.plain (OpenSpec.upto buildApartSpec)) buildApartUptoCard

/-- THE SECOND FORM's CARD OF 'intagliolaw07.BuildLong'. -/
def buildLongUptoCard : Claim7 := { stood := { row := buildLongUptoRow, standIns := [], harness := (true, "7ea8355a1758651adbe4efa5a43a472eb18bb650e86e59ababc932cfb24b24a3"), looks := true }, kinds := [], alts := [], laidByText := true, laidKinds := [.handle], laidTests := true, laidLooks := .later }
def BuildLongUptoCardSaid : Prop := Claim7.holds Tryd.pinned (.plain (OpenSpec.upto buildLongSpec)) buildLongUptoCard

/-- THE SECOND FORM's CARD OF 'intagliolaw08.ValidTells'. -/
def validTellsUptoCard : Claim7 := { stood := { row := validTellsUptoRow, standIns := [], harness := (true, "7ea8355a1758651adbe4efa5a43a472eb18bb650e86e59ababc932cfb24b24a3"), looks := true }, kinds := [], alts := [], laidByText := true, laidKinds := [.handle], laidTests := true, laidLooks := .later }
def ValidTellsUptoCardSaid : Prop := Claim7.holds Tryd.pinned (.plain (OpenSpec.upto validTellsSpec)) validTellsUptoCard

/-- THE SECOND FORM's CARD OF 'intagliolaw08.ValidBuilt'. -/
def validBuiltUptoCard : Claim7 := { stood := { row := validBuiltUptoRow, standIns := [], harness := (true, "7ea8355a1758651adbe4efa5a43a472eb18bb650e86e59ababc932cfb24b24a3"), looks := true }, kinds := [], alts := [], laidByText := true, laidKinds := [.handle], laidTests := true, laidLooks := .later }
def ValidBuiltUptoCardSaid : Prop := Claim7.holds Tryd.pinned (.plain (OpenSpec.upto validBuiltSpec)) validBuiltUptoCard

/-- THE SECOND FORM's CARD OF 'intagliolaw08.ValidEnds'. -/
def validEndsUptoCard : Claim7 := { stood := { row := validEndsUptoRow, standIns := [], harness := (true, "7ea8355a1758651adbe4efa5a43a472eb18bb650e86e59ababc932cfb24b24a3"), looks := true }, kinds := [], alts := [], laidByText := true, laidKinds := [.handle], laidTests := true, laidLooks := .later }
def ValidEndsUptoCardSaid : Prop := Claim7.holds Tryd.pinned (.plain (OpenSpec.upto validEndsSpec)) validEndsUptoCard

/-- THE SECOND FORM's CARD OF 'intagliolaw08.ValidKeeps'. -/
def validKeepsUptoCard : Claim7 := { stood := { row := validKeepsUptoRow, standIns := [], harness := (true, "7ea8355a1758651adbe4efa5a43a472eb18bb650e86e59ababc932cfb24b24a3"), looks := true }, kinds := [], alts := [], laidByText := true, laidKinds := [.handle], laidTests := true, laidLooks := .later }
def ValidKeepsUptoCardSaid : Prop := Claim7.holds Tryd.pinned (.plain (OpenSpec.upto validKeepsSpec)) validKeepsUptoCard

/-- THE SECOND FORM's CARD OF 'intagliolaw08.ValidCut'. -/
def validCutUptoCard : Claim7 := { stood := { row := validCutUptoRow, standIns := [], harness := (true, "7ea8355a1758651adbe4efa5a43a472eb18bb650e86e59ababc932cfb24b24a3"), looks := true }, kinds := [], alts := [], laidByText := true, laidKinds := [.handle], laidTests := true, laidLooks := .later }
def ValidCutUptoCardSaid : Prop := Claim7.holds Tryd.pinned (.plain (OpenSpec.upto validCutSpec)) validCutUptoCard
end Rows
end Go.Proofs.YtifbaphfjamdlaaDoor
