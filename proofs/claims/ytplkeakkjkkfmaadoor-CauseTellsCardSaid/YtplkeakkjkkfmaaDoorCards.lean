/-
  DERIVED. GIVEN WITH THE SEED: THE CARDS: each row of YtplkeakkjkkfmaaDoorRows.lean that lists a variable, with what it lists TIED to the program's text (the seventh form; the later family's looks); each row that meets fmt, with fmt's text TOLD by the authors' own Lean function (tested against real Go, not proved from fmt's source: count such statements apart). THE CARD IS WHAT COUNTS. Prove the row's statement (the work); the ties are given (YtplkeakkjkkfmaaDoorTie.lean); close each card by the builder's one call (the guide's Derived/Test/ToyasCard.lean, 'card_holds'). Laid BY PROGRAM, IN A SANDBOX (cutbox-door.mjs). By AI agents, Wed Nov 11 2026. No macro, syntax, notation, axiom, sorry.
-/
import Derived.Test.YtplkeakkjkkfmaaDoorRows
import GoSem.ClaimSeven
namespace Go.Proofs.YtplkeakkjkkfmaaDoor
namespace Rows

/-- THE TIED CARD OF 'intagliolaw01.CauseTells'. -/
def causeTellsCard : Claim7 := { stood := { row := causeTellsRow, standIns := [], harness := (true, "0c6d266aeb8af1d6521bd810702bfc1f8cd56c955989910c26335f831b787416"), looks := true }, kinds := [], alts := [], laidByText := true, laidKinds := [.data, .data, .data, .handle], laidTests := true, laidLooks := .later }
def CauseTellsCardSaid : Prop := Claim7.holds Tryd.pinned (.plain (OpenSpec.ofChange causeTellsSpec)) causeTellsCard

/-- THE TIED CARD OF 'intagliolaw01.CauseChains'. -/
def causeChainsCard : Claim7 := { stood := { row := causeChainsRow, standIns := [], harness := (true, "0c6d266aeb8af1d6521bd810702bfc1f8cd56c955989910c26335f831b787416"), looks := true }, kinds := [], alts := [], laidByText := true, laidKinds := [.data, .data, .data, .handle], laidTests := true, laidLooks := .later }
def CauseChainsCardSaid : Prop := Claim7.holds Tryd.pinned (.plain (OpenSpec.ofChange causeChainsSpec)) causeChainsCard

/-- THE TIED CARD OF 'intagliolaw01.CauseTexts'. -/
def causeTextsCard : Claim7 := { stood := { row := causeTextsRow, standIns := [], harness := (true, "0c6d266aeb8af1d6521bd810702bfc1f8cd56c955989910c26335f831b787416"), looks := true }, kinds := [], alts := [], laidByText := true, laidKinds := [.data, .data, .data], laidTests := true, laidLooks := .later }
def CauseTextsCardSaid : Prop := Claim7.holds Tryd.pinned (.plain (OpenSpec.ofChange causeTextsSpec)) causeTextsCard

/-- THE TIED CARD OF 'intagliolaw01.CauseNone'. -/
def causeNoneCard : Claim7 := { stood := { row := causeNoneRow, standIns := [], harness := (true, "0c6d266aeb8af1d6521bd810702bfc1f8cd56c955989910c26335f831b787416"), looks := true }, kinds := [], alts := [], laidByText := true, laidKinds := [.data, .data, .data, .handle], laidTests := true, laidLooks := .later }
def CauseNoneCardSaid : Prop := Claim7.holds Tryd.pinned (.plain (OpenSpec.ofChange causeNoneSpec)) causeNoneCard

/-- THE TIED CARD OF 'intagliolaw01.CauseIs'. -/
def causeIsCard : Claim7 := { stood := { row := causeIsRow, standIns := [], harness := (true, "0c6d266aeb8af1d6521bd810702bfc1f8cd56c955989910c26335f831b787416"), looks := true }, kinds := [], alts := [], laidByText := true, laidKinds := [.data, .data, .data, .handle], laidTests := true, laidLooks := .later }
def CauseIsCardSaid : Prop := Claim7.holds Tryd.pinned (.plain (OpenSpec.ofChange causeIsSpec)) causeIsCard

/-- THE SECOND FORM's CARD OF 'intagliolaw01.CauseTells'. -/
def causeTellsUptoCard : Claim7 := { stood := { row := causeTellsUptoRow, standIns := [], harness := (true, "0c6d266aeb8af1d6521bd810702bfc1f8cd56c955989910c26335f831b787416"), looks := true }, kinds := [], alts := [], laidByText := true, laidKinds := [.data, .data, .data, .handle], laidTests := true, laidLooks := .later }
def CauseTellsUptoCardSaid : Prop := Claim7.holds Tryd.pinned (.plain (OpenSpec.upto causeTellsSpec)) causeTellsUptoCard

/-- THE SECOND FORM's CARD OF 'intagliolaw01.CauseChains'. -/
def causeChainsUptoCard : Claim7 := { stood := { row := causeChainsUptoRow, standIns := [], harness := (true, "0c6d266aeb8af1d6521bd810702bfc1f8cd56c955989910c26335f831b787416"), looks := true }, kinds := [], alts := [], laidByText := true, laidKinds := [.data, .data, .data, .handle], laidTests := true, laidLooks := .later }
def CauseChainsUptoCardSaid : Prop := Claim7.holds Tryd.pinned (.plain (OpenSpec.upto causeChainsSpec)) causeChainsUptoCard

/-- THE SECOND FORM's CARD OF 'intagliolaw01.CauseTexts'. -/
def causeTextsUptoCard : Claim7 := { stood := { row := causeTextsUptoRow, standIns := [], harness := (true, "0c6d266aeb8af1d6521bd810702bfc1f8cd56c955989910c26335f831b787416"), looks := true }, kinds := [], alts := [], laidByText := true, laidKinds := [.data, .data, .data], laidTests := true, laidLooks := .later }
def CauseTextsUptoCardSaid : Prop := Claim7.holds Tryd.pinned (.plain (OpenSpec.upto causeTextsSpec)) causeTextsUptoCard

/-- THE SECOND FORM's CARD OF 'intagliolaw01.CauseNone'. -/
def causeNoneUptoCard : Claim7 := { stood := { row := causeNoneUptoRow, standIns := [], harness := (true, "0c6d266aeb8af1d6521bd810702bfc1f8cd56c955989910c26335f831b787416"), looks := true }, kinds := [], alts := [], laidByText := true, laidKinds := [.data, .data, .data, .handle], laidTests := true, laidLooks := .later }
def CauseNoneUptoCardSaid : Prop := Claim7.holds Tryd.pinned (.plain (OpenSpec.upto causeNoneSpec)) causeNoneUptoCard

/-- THE SECOND FORM's CARD OF 'intagliolaw01.CauseIs'. -/
def causeIsUptoCard : Claim7 := { stood := { row := causeIsUptoRow, standIns := [], harness := (true, "0c6d266aeb8af1d6521bd810702bfc1f8cd56c955989910c26335f831b787416"), looks := true }, kinds := [], alts := [], laidByText := true, laidKinds := [.data, .data, .data, .handle], laidTests := true, laidLooks := .later }
def CauseIsUptoCardSaid : Prop := Claim7.holds Tryd.pinned (.plain (OpenSpec.upto causeIsSpec)) causeIsUptoCard
end Rows
end Go.Proofs.YtplkeakkjkkfmaaDoor
