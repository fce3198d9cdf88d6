/-
  DERIVED. GIVEN WITH THE SEED: THE CARDS: each row of YtknjokmoommdeaaGreatDoorRows.lean that lists a variable, with what it lists TIED to the program's text (the seventh form; the later family's looks); each row that meets fmt, with fmt's text TOLD by the authors' own Lean function (tested against real Go, not proved from fmt's source: count such statements apart). THE CARD IS WHAT COUNTS. Prove the row's statement (the work); the ties are given (YtknjokmoommdeaaGreatDoorTie.lean); close each card by the builder's one call (the guide's Derived/Test/ToyasCard.lean, 'card_holds'). Laid BY PROGRAM, IN A SANDBOX (cutbox-door.mjs). By AI agents, Wed Nov 11 2026. No macro, syntax, notation, axiom, sorry.
-/
import Derived.Test.YtknjokmoommdeaaGreatDoorRows
import GoSem.ClaimSeven
namespace Go.Proofs.YtknjokmoommdeaaGreatDoor
namespace Rows

/-- THE TIED CARD OF 'culvertlaw7.PrefixValids'. -/
def prefixValidsCard : Claim7 := { stood := { row := prefixValidsRow, standIns := [], harness := (true, "d1c867adf93fed9815182c29236d3dfce08f0f545139d9a87feefa128379d9e5"), looks := true }, kinds := [], alts := [], laidByText := true, laidKinds := [.data, .data, .data, .sentinel, .sentinel], laidTests := true, laidLooks := .later }
def PrefixValidsCardSaid : Prop := Claim7.holds Tryz.pinned (.plain (OpenSpec.ofChange prefixValidsSpec)) prefixValidsCard

/-- THE TIED CARD OF 'culvertlaw7.PrefixHolds'. -/
def prefixHoldsCard : Claim7 := { stood := { row := prefixHoldsRow, standIns := [], harness := (true, "d1c867adf93fed9815182c29236d3dfce08f0f545139d9a87feefa128379d9e5"), looks := true }, kinds := [], alts := [], laidByText := true, laidKinds := [.data, .data, .data, .sentinel, .sentinel], laidTests := true, laidLooks := .later }
def PrefixHoldsCardSaid : Prop := Claim7.holds Tryz.pinned (.plain (OpenSpec.ofChange prefixHoldsSpec)) prefixHoldsCard

/-- THE TIED CARD OF 'culvertlaw7.PrefixCompares'. -/
def prefixComparesCard : Claim7 := { stood := { row := prefixComparesRow, standIns := [], harness := (true, "d1c867adf93fed9815182c29236d3dfce08f0f545139d9a87feefa128379d9e5"), looks := true }, kinds := [], alts := [], laidByText := true, laidKinds := [.data, .data, .data, .sentinel, .sentinel], laidTests := true, laidLooks := .later }
def PrefixComparesCardSaid : Prop := Claim7.holds Tryz.pinned (.plain (OpenSpec.ofChange prefixComparesSpec)) prefixComparesCard

/-- THE TIED CARD OF 'culvertlaw7.PrefixBytes'. -/
def prefixBytesCard : Claim7 := { stood := { row := prefixBytesRow, standIns := [], harness := (true, "d1c867adf93fed9815182c29236d3dfce08f0f545139d9a87feefa128379d9e5"), looks := true }, kinds := [], alts := [], laidByText := true, laidKinds := [.data, .data, .data, .sentinel, .sentinel], laidTests := true, laidLooks := .later }
def PrefixBytesCardSaid : Prop := Claim7.holds Tryz.pinned (.plain (OpenSpec.ofChange prefixBytesSpec)) prefixBytesCard

/-- THE TIED CARD OF 'culvertlaw7.PrefixGets'. -/
def prefixGetsCard : Claim7 := { stood := { row := prefixGetsRow, standIns := [], harness := (true, "d1c867adf93fed9815182c29236d3dfce08f0f545139d9a87feefa128379d9e5"), looks := true }, kinds := [], alts := [], laidByText := true, laidKinds := [.data, .data, .data, .sentinel, .sentinel], laidTests := true, laidLooks := .later }
def PrefixGetsCardSaid : Prop := Claim7.holds Tryz.pinned (.plain (OpenSpec.ofChange prefixGetsSpec)) prefixGetsCard

/-- THE TIED CARD OF 'culvertlaw7.PrefixTexts'. -/
def prefixTextsCard : Claim7 := { stood := { row := prefixTextsRow, standIns := [], harness := (true, "d1c867adf93fed9815182c29236d3dfce08f0f545139d9a87feefa128379d9e5"), looks := true }, kinds := [], alts := [], laidByText := true, laidKinds := [.data, .data, .data, .sentinel, .sentinel], laidTests := true, laidLooks := .later }
def PrefixTextsCardSaid : Prop := Claim7.holds Tryz.pinned (.plain (OpenSpec.ofChange prefixTextsSpec)) prefixTextsCard

/-- THE SECOND FORM's CARD OF 'culvertlaw7.PrefixValids'. -/
def prefixValidsUptoCard : Claim7 := { stood := { row := prefixValidsUptoRow, standIns := [], harness := (true, "d1c867adf93fed9815182c29236d3dfce08f0f545139d9a87feefa128379d9e5"), looks := true }, kinds := [], alts := [], laidByText := true, laidKinds := [.data, .data, .data, .sentinel, .sentinel], laidTests := true, laidLooks := .later }
def PrefixValidsUptoCardSaid : Prop := Claim7.holds Tryz.pinned (.plain (OpenSpec.upto prefixValidsSpec)) prefixValidsUptoCard

/-- THE SECOND FORM's CARD OF 'culvertlaw7.PrefixHolds'. -/
def prefixHoldsUptoCard : Claim7 := { stood := { row := prefixHoldsUptoRow, standIns := [], harness := (true, "d1c867adf93fed9815182c29236d3dfce08f0f545139d9a87feefa128379d9e5"), looks := true }, kinds := [], alts := [], laidByText := true, laidKinds := [.data, .data, .data, .sentinel, .sentinel], laidTests := true, laidLooks := .later }
def PrefixHoldsUptoCardSaid : Prop := Claim7.holds Tryz.pinned (.plain (OpenSpec.upto prefixHoldsSpec)) prefixHoldsUptoCard

/-- THE SECOND FORM's CARD OF 'culvertlaw7.PrefixCompares'. -/
def prefixComparesUptoCard : Claim7 := { stood := { row := prefixComparesUptoRow, standIns := [], harness := (true, "d1c867adf93fed9815182c29236d3dfce08f0f545139d9a87feefa128379d9e5"), looks := true }, kinds := [], alts := [], laidByText := true, laidKinds := [.data, .data, .data, .sentinel, .sentinel], laidTests := true, laidLooks := .later }
def PrefixComparesUptoCardSaid : Prop := Claim7.holds Tryz.pinned (.plain (OpenSpec.upto prefixComparesSpec)) prefixComparesUptoCard

/-- THE SECOND FORM's CARD OF 'culvertlaw7.PrefixBytes'. -/
def prefixBytesUptoCard : Claim7 := { stood := { row := prefixBytesUptoRow, standIns := [], harness := (true, "d1c867adf93fed9815182c29236d3dfce08f0f545139d9a87feefa128379d9e5"), looks := true }, kinds := [], alts := [], laidByText := true, laidKinds := [.data, .data, .data, .sentinel, .sentinel], laidTests := true, laidLooks := .later }
def PrefixBytesUptoCardSaid : Prop := Claim7.holds Tryz.pinned (.plain (OpenSpec.upto prefixBytesSpec)) prefixBytesUptoCard

/-- THE SECOND FORM's CARD OF 'culvertlaw7.PrefixGets'. -/
def prefixGetsUptoCard : Claim7 := { stood := { row := prefixGetsUptoRow, standIns := [], harness := (true, "d1c867adf93fed9815182c29236d3dfce08f0f545139d9a87feefa128379d9e5"), looks := true }, kinds := [], alts := [], laidByText := true, laidKinds := [.data, .data, .data, .sentinel, .sentinel], laidTests := true, laidLooks := .later }
def PrefixGetsUptoCardSaid : Prop := Claim7.holds Tryz.pinned (.plain (OpenSpec.upto prefixGetsSpec)) prefixGetsUptoCard

/-- THE SECOND FORM's CARD OF 'culvertlaw7.PrefixTexts'. -/
def prefixTextsUptoCard : Claim7 := { stood := { row := prefixTextsUptoRow, standIns := [], harness := (true, "d1c867adf93fed9815182c29236d3dfce08f0f545139d9a87feefa128379d9e5"), looks := true }, kinds := [], alts := [], laidByText := true, laidKinds := [.data, .data, .data, .sentinel, .sentinel], laidTests := true, laidLooks := .later }
def PrefixTextsUptoCardSaid : Prop := Claim7.holds Tryz.pinned (.plain (OpenSpec.upto prefixTextsSpec)) prefixTextsUptoCard
end Rows
end Go.Proofs.YtknjokmoommdeaaGreatDoor
