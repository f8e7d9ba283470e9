/-
  DERIVED. GIVEN WITH THE SEED: THE CARDS: each row of YtkpffnihnhlghaaDoorRows.lean that lists a variable, with what it lists TIED to the program's text (the seventh form; the later family's looks); each row that meets fmt, with fmt's text TOLD by the authors' own Lean function (tested against real Go, not proved from fmt's source: count such statements apart). THE CARD IS WHAT COUNTS. Prove the row's statement (the work); the ties are given (YtkpffnihnhlghaaDoorTie.lean); close each card by the builder's one call (the guide's Derived/Test/ToyasCard.lean, 'card_holds'). Laid BY PROGRAM, IN A SANDBOX (cutbox-door.mjs). By AI agents, Wed Nov 11 2026. No macro, syntax, notation, axiom, sorry.
-/
import Derived.Test.YtkpffnihnhlghaaDoorRows
import GoSem.ClaimSeven
namespace Go.Proofs.YtkpffnihnhlghaaDoor
namespace Rows

/-- THE TIED CARD OF 'intagliolaw09.LookWalks'. -/
def lookWalksCard : Claim7 := { stood := { row := lookWalksRow, standIns := [], harness := (true, "4b14d6098e8a6c53ed5d483e0177900bfec618f4cdc641f83782d42792c5f336"), looks := true }, kinds := [], alts := [], laidByText := true, laidKinds := [.handle], laidTests := true, laidLooks := .later }
def LookWalksCardSaid : Prop := Claim7.holds Tryd.pinned (.plain (OpenSpec.ofChange lookWalksSpec)) lookWalksCard

/-- THE TIED CARD OF 'intagliolaw11.PoolPlays'. -/
def poolPlaysCard : Claim7 := { stood := { row := poolPlaysRow, standIns := [], harness := (true, "4b14d6098e8a6c53ed5d483e0177900bfec618f4cdc641f83782d42792c5f336"), looks := true }, kinds := [], alts := [], laidByText := true, laidKinds := [.data], laidTests := true, laidLooks := .later }
def PoolPlaysCardSaid : Prop := Claim7.holds Tryd.pinned (.plain (OpenSpec.ofChange poolPlaysSpec)) poolPlaysCard

/-- THE TIED CARD OF 'intagliolaw11.PoolApart'. -/
def poolApartCard : Claim7 := { stood := { row := poolApartRow, standIns := [], harness := (true, "4b14d6098e8a6c53ed5d483e0177900bfec618f4cdc641f83782d42792c5f336"), looks := true }, kinds := [], alts := [], laidByText := true, laidKinds := [.data], laidTests := true, laidLooks := .later }
def PoolApartCardSaid : Prop := Claim7.holds Tryd.pinned (.plain (OpenSpec.ofChange poolApartSpec)) poolApartCard

/-- THE TIED CARD OF 'intagliolaw11.PoolAlone'. -/
def poolAloneCard : Claim7 := { stood := { row := poolAloneRow, standIns := [], harness := (true, "4b14d6098e8a6c53ed5d483e0177900bfec618f4cdc641f83782d42792c5f336"), looks := true }, kinds := [], alts := [], laidByText := true, laidKinds := [.data], laidTests := true, laidLooks := .later }
def PoolAloneCardSaid : Prop := Claim7.holds Tryd.pinned (.plain (OpenSpec.ofChange poolAloneSpec)) poolAloneCard

/-- THE TIED CARD OF 'intagliolaw11.PoolNil'. -/
def poolNilCard : Claim7 := { stood := { row := poolNilRow, standIns := [], harness := (true, "4b14d6098e8a6c53ed5d483e0177900bfec618f4cdc641f83782d42792c5f336"), looks := true }, kinds := [], alts := [], laidByText := true, laidKinds := [.data], laidTests := true, laidLooks := .later }
def PoolNilCardSaid : Prop := Claim7.holds Tryd.pinned (.plain (OpenSpec.ofChange poolNilSpec)) poolNilCard

/-- THE TIED CARD OF 'intagliolaw11.PoolStack'. -/
def poolStackCard : Claim7 := { stood := { row := poolStackRow, standIns := [], harness := (true, "4b14d6098e8a6c53ed5d483e0177900bfec618f4cdc641f83782d42792c5f336"), looks := true }, kinds := [], alts := [], laidByText := true, laidKinds := [.data], laidTests := true, laidLooks := .later }
def PoolStackCardSaid : Prop := Claim7.holds Tryd.pinned (.plain (OpenSpec.ofChange poolStackSpec)) poolStackCard

/-- THE SECOND FORM's CARD OF 'intagliolaw09.LookWalks'. -/
def lookWalksUptoCard : Claim7 := { stood := { row := lookWalksUptoRow, standIns := [], harness := (true, "4b14d6098e8a6c53ed5d483e0177900bfec618f4cdc641f83782d42792c5f336"), looks := true }, kinds := [], alts := [], laidByText := true, laidKinds := [.handle], laidTests := true, laidLooks := .later }
def LookWalksUptoCardSaid : Prop := Claim7.holds Tryd.pinned (.plain (OpenSpec.upto lookWalksSpec)) lookWalksUptoCard

/-- THE SECOND FORM's CARD OF 'intagliolaw11.PoolPlays'. -/
def poolPlaysUptoCard : Claim7 := { stood := { row := poolPlaysUptoRow, standIns := [], harness := (true, "4b14d6098e8a6c53ed5d483e0177900bfec618f4cdc641f83782d42792c5f336"), looks := true }, kinds := [], alts := [], laidByText := true, laidKinds := [.data], laidTests := true, laidLooks := .later }
def PoolPlaysUptoCardSaid : Prop := Claim7.holds Tryd.pinned (.plain (OpenSpec.upto poolPlaysSpec)) poolPlaysUptoCard

/-- THE SECOND FORM's CARD OF 'intagliolaw11.PoolApart'. -/
def poolApartUptoCard : Claim7 := { stood := { row := poolApartUptoRow, standIns := [], harness := (true, "4b14d6098e8a6c53ed5d483e0177900bfec618f4cdc641f83782d42792c5f336"), looks := true }, kinds := [], alts := [], laidByText := true, laidKinds := [.data], laidTests := true, laidLooks := .later }
def PoolApartUptoCardSaid : Prop := Claim7.holds Tryd.pinned (.plain (OpenSpec.upto poolApartSpec)) poolApartUptoCard

/-- THE SECOND FORM's CARD OF 'intagliolaw11.PoolAlone'. -/
def poolAloneUptoCard : Claim7 := { stood := { row := poolAloneUptoRow, standIns := [], harness := (true, "4b14d6098e8a6c53ed5d483e0177900bfec618f4cdc641f83782d42792c5f336"), looks := true }, kinds := [], alts := [], laidByText := true, laidKinds := [.data], laidTests := true, laidLooks := .later }
def PoolAloneUptoCardSaid : Prop := Claim7.holds Tryd.pinned (.plain (OpenSpec.upto poolAloneSpec)) poolAloneUptoCard

/-- THE SECOND FORM's CARD OF 'intagliolaw11.PoolNil'. -/
def poolNilUptoCard : Claim7 := { stood := { row := poolNilUptoRow, standIns := [], harness := (true, "4b14d6098e8a6c53ed5d483e0177900bfec618f4cdc641f83782d42792c5f336"), looks := true }, kinds := [], alts := [], laidByText := true, laidKinds := [.data], laidTests := true, laidLooks := .later }
def PoolNilUptoCardSaid : Prop := Claim7.holds Tryd.pinned (.plain (OpenSpec.upto poolNilSpec)) poolNilUptoCard

/-- THE SECOND FORM's CARD OF 'intagliolaw11.PoolStack'. -/
def poolStackUptoCard : Claim7 := { stood := { row := poolStackUptoRow, standIns := [], harness := (true, "4b14d6098e8a6c53ed5d483e0177900bfec618f4cdc641f83782d42792c5f336"), looks := true }, kinds := [], alts := [], laidByText := true, laidKinds := [.data], laidTests := true, laidLooks := .later }
def PoolStackUptoCardSaid : Prop := Claim7.holds Tryd.pinned (.plain (OpenSpec.upto poolStackSpec)) poolStackUptoCard
end Rows
end Go.Proofs.YtkpffnihnhlghaaDoor
