/-
  DERIVED. GIVEN WITH THE SEED: THE CARDS: each row of YtkndgdokpbbdpaaDoorRows.lean that lists a variable, with what it lists TIED to the program's text (the seventh form; the later family's looks); each row that meets fmt, with fmt's text TOLD by the authors' own Lean function (tested against real Go, not proved from fmt's source: count such statements apart). THE CARD IS WHAT COUNTS. Prove the row's statement (the work); the ties are given (YtkndgdokpbbdpaaDoorTie.lean); close each card by the builder's one call (the guide's Derived/Test/ToyasCard.lean, 'card_holds'). Laid BY PROGRAM, IN A SANDBOX (cutbox-door.mjs). By AI agents, Wed Nov 11 2026. No macro, syntax, notation, axiom, sorry.
-/
import Derived.Test.YtkndgdokpbbdpaaDoorRows
import GoSem.ClaimSeven
namespace Go.Proofs.YtkndgdokpbbdpaaDoor
namespace Rows

/-- THE TIED CARD OF 'intagliolaw03.ArenaPlays'. -/
def arenaPlaysCard : Claim7 := { stood := { row := arenaPlaysRow, standIns := [], harness := (true, "7dc8cbba7ad89bb11512a91e4ef4bd309b635c4f0e952794fd7cf91daebf9449"), looks := true }, kinds := [], alts := [], laidByText := true, laidKinds := [.handle], laidTests := true, laidLooks := .later }
def ArenaPlaysCardSaid : Prop := Claim7.holds Tryd.pinned (.plain (OpenSpec.ofChange arenaPlaysSpec)) arenaPlaysCard

/-- THE TIED CARD OF 'intagliolaw03.ArenaMakes'. -/
def arenaMakesCard : Claim7 := { stood := { row := arenaMakesRow, standIns := [], harness := (true, "7dc8cbba7ad89bb11512a91e4ef4bd309b635c4f0e952794fd7cf91daebf9449"), looks := true }, kinds := [], alts := [], laidByText := true, laidKinds := [.handle], laidTests := true, laidLooks := .later }
def ArenaMakesCardSaid : Prop := Claim7.holds Tryd.pinned (.plain (OpenSpec.ofChange arenaMakesSpec)) arenaMakesCard

/-- THE TIED CARD OF 'intagliolaw03.ArenaNil'. -/
def arenaNilCard : Claim7 := { stood := { row := arenaNilRow, standIns := [], harness := (true, "7dc8cbba7ad89bb11512a91e4ef4bd309b635c4f0e952794fd7cf91daebf9449"), looks := true }, kinds := [], alts := [], laidByText := true, laidKinds := [.handle], laidTests := true, laidLooks := .later }
def ArenaNilCardSaid : Prop := Claim7.holds Tryd.pinned (.plain (OpenSpec.ofChange arenaNilSpec)) arenaNilCard

/-- THE TIED CARD OF 'intagliolaw03.ArenaOwn'. -/
def arenaOwnCard : Claim7 := { stood := { row := arenaOwnRow, standIns := [], harness := (true, "7dc8cbba7ad89bb11512a91e4ef4bd309b635c4f0e952794fd7cf91daebf9449"), looks := true }, kinds := [], alts := [], laidByText := true, laidKinds := [.handle], laidTests := true, laidLooks := .later }
def ArenaOwnCardSaid : Prop := Claim7.holds Tryd.pinned (.plain (OpenSpec.ofChange arenaOwnSpec)) arenaOwnCard

/-- THE SECOND FORM's CARD OF 'intagliolaw03.ArenaPlays'. -/
def arenaPlaysUptoCard : Claim7 := { stood := { row := arenaPlaysUptoRow, standIns := [], harness := (true, "7dc8cbba7ad89bb11512a91e4ef4bd309b635c4f0e952794fd7cf91daebf9449"), looks := true }, kinds := [], alts := [], laidByText := true, laidKinds := [.handle], laidTests := true, laidLooks := .later }
def ArenaPlaysUptoCardSaid : Prop := Claim7.holds Tryd.pinned (.plain (OpenSpec.upto arenaPlaysSpec)) arenaPlaysUptoCard

/-- THE SECOND FORM's CARD OF 'intagliolaw03.ArenaMakes'. -/
def arenaMakesUptoCard : Claim7 := { stood := { row := arenaMakesUptoRow, standIns := [], harness := (true, "7dc8cbba7ad89bb11512a91e4ef4bd309b635c4f0e952794fd7cf91daebf9449"), looks := true }, kinds := [], alts := [], laidByText := true, laidKinds := [.handle], laidTests := true, laidLooks := .later }
def ArenaMakesUptoCardSaid : Prop := Claim7.holds Tryd.pinned (.plain (OpenSpec.upto arenaMakesSpec)) arenaMakesUptoCard

/-- THE SECOND FORM's CARD OF 'intagliolaw03.ArenaNil'. -/
def arenaNilUptoCard : Claim7 := { stood := { row := arenaNilUptoRow, standIns := [], harness := (true, "7dc8cbba7ad89bb11512a91e4ef4bd309b635c4f0e952794fd7cf91daebf9449"), looks := true }, kinds := [], alts := [], laidByText := true, laidKinds := [.handle], laidTests := true, laidLooks := .later }
def ArenaNilUptoCardSaid : Prop := Claim7.holds Tryd.pinned (.plain (OpenSpec.upto arenaNilSpec)) arenaNilUptoCard

/-- THE SECOND FORM's CARD OF 'intagliolaw03.ArenaOwn'. -/
def arenaOwnUptoCard : Claim7 := { stood := { row := arenaOwnUptoRow, standIns := [], harness := (true, "7dc8cbba7ad89bb11512a91e4ef4bd309b635c4f0e952794fd7cf91daebf9449"), looks := true }, kinds := [], alts := [], laidByText := true, laidKinds := [.handle], laidTests := true, laidLooks := .later }
def ArenaOwnUptoCardSaid : Prop := Claim7.holds Tryd.pinned (.plain (OpenSpec.upto arenaOwnSpec)) arenaOwnUptoCard
end Rows
end Go.Proofs.YtkndgdokpbbdpaaDoor
