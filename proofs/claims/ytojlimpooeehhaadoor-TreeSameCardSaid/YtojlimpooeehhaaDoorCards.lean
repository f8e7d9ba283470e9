/-
  DERIVED. GIVEN WITH THE SEED: THE CARDS: each row of YtojlimpooeehhaaDoorRows.lean that lists a variable, with what it lists TIED to the program's text (the seventh form; the later family's looks); each row that meets fmt, with fmt's text TOLD by the authors' own Lean function (tested against real Go, not proved from fmt's source: count such statements apart). THE CARD IS WHAT COUNTS. Prove the row's statement (the work); the ties are given (YtojlimpooeehhaaDoorTie.lean); close each card by the builder's one call (the guide's Derived/Test/ToyasCard.lean, 'card_holds'). Laid BY PROGRAM, IN A SANDBOX (cutbox-door.mjs). By AI agents, Wed Nov 11 2026. No macro, syntax, notation, axiom, sorry.
-/
import Derived.Test.YtojlimpooeehhaaDoorRows
import GoSem.ClaimSeven
namespace Go.Proofs.YtojlimpooeehhaaDoor
namespace Rows

/-- THE TIED CARD OF 'intagliolaw06.TreeChecks'. -/
def treeChecksCard : Claim7 := { stood := { row := treeChecksRow, standIns := [], harness := (true, "ce80ee522ec8a38b9105a147d170ea431d74fd13908d79b0497aff5ec91169d6"), looks := true }, kinds := [], alts := [], laidByText := true, laidKinds := [.handle], laidTests := true, laidLooks := .later }
def TreeChecksCardSaid : Prop := Claim7.holds Tryd.pinned (.plain (OpenSpec.ofChange treeChecksSpec)) treeChecksCard

/-- THE TIED CARD OF 'intagliolaw06.TreeGets'. -/
def treeGetsCard : Claim7 := { stood := { row := treeGetsRow, standIns := [], harness := (true, "ce80ee522ec8a38b9105a147d170ea431d74fd13908d79b0497aff5ec91169d6"), looks := true }, kinds := [], alts := [], laidByText := true, laidKinds := [.handle], laidTests := true, laidLooks := .later }
def TreeGetsCardSaid : Prop := Claim7.holds Tryd.pinned (.plain (OpenSpec.ofChange treeGetsSpec)) treeGetsCard

/-- THE TIED CARD OF 'intagliolaw06.TreeSame'. -/
def treeSameCard : Claim7 := { stood := { row := treeSameRow, standIns := [], harness := (true, "ce80ee522ec8a38b9105a147d170ea431d74fd13908d79b0497aff5ec91169d6"), looks := true }, kinds := [], alts := [], laidByText := true, laidKinds := [.handle], laidTests := true, laidLooks := .later }
def TreeSameCardSaid : Prop := Claim7.holds Tryd.pinned (.plain (OpenSpec.ofChange treeSameSpec)) treeSameCard

/-- THE TIED CARD OF 'intagliolaw07.BuildTells'. -/
def buildTellsCard : Claim7 := { stood := { row := buildTellsRow, standIns := [], harness := (true, "ce80ee522ec8a38b9105a147d170ea431d74fd13908d79b0497aff5ec91169d6"), looks := true }, kinds := [], alts := [], laidByText := true, laidKinds := [.handle], laidTests := true, laidLooks := .later }
def BuildTellsCardSaid : Prop := Claim7.holds Tryd.pinned (.plain (OpenSpec.ofChange buildTellsSpec)) buildTellsCard

/-- THE TIED CARD OF 'intagliolaw07.BuildRefs'. -/
def buildRefsCard : Claim7 := { stood := { row := buildRefsRow, standIns := [], harness := (true, "ce80ee522ec8a38b9105a147d170ea431d74fd13908d79b0497aff5ec91169d6"), looks := true }, kinds := [], alts := [], laidByText := true, laidKinds := [.handle], laidTests := true, laidLooks := .later }
def BuildRefsCardSaid : Prop := Claim7.holds Tryd.pinned (.plain (OpenSpec.ofChange buildRefsSpec)) buildRefsCard

/-- THE TIED CARD OF 'intagliolaw07.BuildSizes'. -/
def buildSizesCard : Claim7 := { stood := { row := buildSizesRow, standIns := [], harness := (true, "ce80ee522ec8a38b9105a147d170ea431d74fd13908d79b0497aff5ec91169d6"), looks := true }, kinds := [], alts := [], laidByText := true, laidKinds := [.handle], laidTests := true, laidLooks := .later }
def BuildSizesCardSaid : Prop := Claim7.holds Tryd.pinned (.plain (OpenSpec.ofChange buildSizesSpec)) buildSizesCard

/-- THE TIED CARD OF 'intagliolaw07.BuildOnce'. -/
def buildOnceCard : Claim7 := { stood := { row := buildOnceRow, standIns := [], harness := (true, "ce80ee522ec8a38b9105a147d170ea431d74fd13908d79b0497aff5ec91169d6"), looks := true }, kinds := [], alts := [], laidByText := true, laidKinds := [.handle], laidTests := true, laidLooks := .later }
def BuildOnceCardSaid : Prop := Claim7.holds Tryd.pinned (.plain (OpenSpec.ofChange buildOnceSpec)) buildOnceCard

/-- THE TIED CARD OF 'intagliolaw07.BuildApart'. -/
def buildApartCard : Claim7 := { stood := { row := buildApartRow, standIns := [], harness := (true, "ce80ee522ec8a38b9105a147d170ea431d74fd13908d79b0497aff5ec91169d6"), looks := true }, kinds := [], alts := [], laidByText := true, laidKinds := [.handle], laidTests := true, laidLooks := .later }
def BuildApartCardSaid : Prop := Claim7.holds Tryd.pinned (.plain (OpenSpec.ofChange buildApartSpec)) buildApartCard

/-- THE TIED CARD OF 'intagliolaw07.BuildLong'. -/
def buildLongCard : Claim7 := { stood := { row := buildLongRow, standIns := [], harness := (true, "ce80ee522ec8a38b9105a147d170ea431d74fd13908d79b0497aff5ec91169d6"), looks := true }, kinds := [], alts := [], laidByText := true, laidKinds := [.handle], laidTests := true, laidLooks := .later }
def BuildLongCardSaid : Prop := Claim7.holds Tryd.pinned (.plain (OpenSpec.ofChange buildLongSpec)) buildLongCard

/-- THE SECOND FORM's CARD OF 'intagliolaw06.TreeChecks'. -/
def treeChecksUptoCard : Claim7 := { stood := { row := treeChecksUptoRow, standIns := [], harness := (true, "ce80ee522ec8a38b9105a147d170ea431d74fd13908d79b0497aff5ec91169d6"), looks := true }, kinds := [], alts := [], laidByText := true, laidKinds := [.handle], laidTests := true, laidLooks := .later }
def TreeChecksUptoCardSaid : Prop := Claim7.holds Tryd.pinned (.plain (OpenSpec.upto treeChecksSpec)) treeChecksUptoCard

/-- THE SECOND FORM's CARD OF 'intagliolaw06.TreeGets'. -/
def treeGetsUptoCard : Claim7 := { stood := { row := treeGetsUptoRow, standIns := [], harness := (true, "ce80ee522ec8a38b9105a147d170ea431d74fd13908d79b0497aff5ec91169d6"), looks := true }, kinds := [], alts := [], laidByText := true, laidKinds := [.handle], laidTests := true, laidLooks := .later }
def TreeGetsUptoCardSaid : Prop := Claim7.holds Tryd.pinned (.plain (OpenSpec.upto treeGetsSpec)) treeGetsUptoCard

/-- THE SECOND FORM's CARD OF 'intagliolaw06.TreeSame'. -/
def treeSameUptoCard : Claim7 := { stood := { row := treeSameUptoRow, standIns := [], harness := (true, "ce80ee522ec8a38b9105a147d170ea431d74fd13908d79b0497aff5ec91169d6"), looks := true }, kinds := [], alts := [], laidByText := true, laidKinds := [.handle], laidTests := true, laidLooks := .later }
def TreeSameUptoCardSaid : Prop := Claim7.holds Tryd.pinned (.plain (OpenSpec.upto treeSameSpec)) treeSameUptoCard

/-- THE SECOND FORM's CARD OF 'intagliolaw07.BuildTells'. -/
def buildTellsUptoCard : Claim7 := { stood := { row := buildTellsUptoRow, standIns := [], harness := (true, "ce80ee522ec8a38b9105a147d170ea431d74fd13908d79b0497aff5ec91169d6"), looks := true }, kinds := [], alts := [], laidByText := true, laidKinds := [.handle], laidTests := true, laidLooks := .later }
def BuildTellsUptoCardSaid : Prop := Claim7.holds Tryd.pinned (.plain (OpenSpec.upto buildTellsSpec)) buildTellsUptoCard

/-- THE SECOND FORM's CARD OF 'intagliolaw07.BuildRefs'. -/
def buildRefsUptoCard : Claim7 := { stood := { row := buildRefsUptoRow, standIns := [], harness := (true, "ce80ee522ec8a38b9105a147d170ea431d74fd13908d79b0497aff5ec91169d6"), looks := true }, kinds := [], alts := [], laidByText := true, laidKinds := [.handle], laidTests := true, laidLooks := .later }
def BuildRefsUptoCardSaid : Prop := Claim7.holds Tryd.pinned (.plain (OpenSpec.upto buildRefsSpec)) buildRefsUptoCard

/-- THE SECOND FORM's CARD OF 'intagliolaw07.BuildSizes'. -/
def buildSizesUptoCard : Claim7 := { stood := { row := buildSizesUptoRow, standIns := [], harness := (true, "ce80ee522ec8a38b9105a147d170ea431d74fd13908d79b0497aff5ec91169d6"), looks := true }, kinds := [], alts := [], laidByText := true, laidKinds := [.handle], laidTests := true, laidLooks := .later }
def BuildSizesUptoCardSaid : Prop := Claim7.holds Tryd.pinned (.plain (OpenSpec.upto buildSizesSpec)) buildSizesUptoCard

/-- THE SECOND FORM's CARD OF 'intagliolaw07.BuildOnce'. -/
def buildOnceUptoCard : Claim7 := { stood := { row := buildOnceUptoRow, standIns := [], harness := (true, "ce80ee522ec8a38b9105a147d170ea431d74fd13908d79b0497aff5ec91169d6"), looks := true }, kinds := [], alts := [], laidByText := true, laidKinds := [.handle], laidTests := true, laidLooks := .later }
def BuildOnceUptoCardSaid : Prop := Claim7.holds Tryd.pinned (.plain (OpenSpec.upto buildOnceSpec)) buildOnceUptoCard

/-- THE SECOND FORM's CARD OF 'intagliolaw07.BuildApart'. -/
def buildApartUptoCard : Claim7 := { stood := { row := buildApartUptoRow, standIns := [], harness := (true, "ce80ee522ec8a38b9105a147d170ea431d74fd13908d79b0497aff5ec91169d6"), looks := true }, kinds := [], alts := [], laidByText := true, laidKinds := [.handle], laidTests := true, laidLooks := .later }
def BuildApartUptoCardSaid : Prop := Claim7.holds Tryd.pinned (.plain (OpenSpec.upto buildApartSpec)) buildApartUptoCard

/-- THE SECOND FORM's CARD OF 'intagliolaw07.BuildLong'. -/
def buildLongUptoCard : Claim7 := { stood := { row := buildLongUptoRow, standIns := [], harness := (true, "ce80ee522ec8a38b9105a147d170ea431d74fd13908d79b0497aff5ec91169d6"), looks := true }, kinds := [], alts := [], laidByText := true, laidKinds := [.handle], laidTests := true, laidLooks := .later }
def BuildLongUptoCardSaid : Prop := Claim7.holds Tryd.pinned (.plain (OpenSpec.upto buildLongSpec)) buildLongUptoCard
end Rows
end Go.Proofs.YtojlimpooeehhaaDoor
