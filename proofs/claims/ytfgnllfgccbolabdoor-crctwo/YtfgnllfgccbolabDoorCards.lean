/-
  DERIVED. GIVEN WITH THE SEED: THE CARDS: each row of YtfgnllfgccbolabDoorRows.lean that lists a variable, with what it lists TIED to the program's text (the seventh form; the later family's looks); each row that meets fmt, with fmt's text TOLD by the authors' own Lean function (tested against real Go, not proved from fmt's source: count such statements apart). THE CARD IS WHAT COUNTS. Prove the row's statement (the work); the ties are given (YtfgnllfgccbolabDoorTie.lean); close each card by the builder's one call (the guide's Derived/Test/ToyasCard.lean, 'card_holds'). Laid BY PROGRAM, IN A SANDBOX (cutbox-door.mjs). By AI agents, Wed Nov 11 2026. No macro, syntax, notation, axiom, sorry.
-/
import Derived.Test.YtfgnllfgccbolabDoorRows
import GoSem.ClaimSeven
namespace Go.Proofs.YtfgnllfgccbolabDoor
namespace Rows

/-- THE TIED CARD OF 'culvertlaw2.CrcOdd'. -/
def crcOddCard : Claim7 := { stood := { row := crcOddRow, standIns := [], harness := (true, "ddc1d2e3ac1868c9addbdeef8faddd75a84a7e4f7e920c92e0eda6069735a9fb"), looks := false }, kinds := [], alts := [], laidByText := true, laidKinds := [.data], laidTests := true, laidLooks := .later }
def CrcOddCardSaid : Prop := Claim7.holds Tryd.pinned (.plain (OpenSpec.ofChange crcOddSpec)) crcOddCard

/-- THE TIED CARD OF 'culvertlaw2.CrcTwo'. -/
def crcTwoCard : Claim7 := { stood := { row := crcTwoRow, standIns := [], harness := (true, "ddc1d2e3ac1868c9addbdeef8faddd75a84a7e4f7e920c92e0eda6069735a9fb"), looks := false }, kinds := [], alts := [], laidByText := true, laidKinds := [.data], laidTests := true, laidLooks := .later }
def CrcTwoCardSaid : Prop := Claim7.holds Tryd.pinned (.plain (OpenSpec.ofChange crcTwoSpec)) crcTwoCard

/-- THE TIED CARD OF 'culvertlaw2.CrcBehind'. -/
def crcBehindCard : Claim7 := { stood := { row := crcBehindRow, standIns := [], harness := (true, "ddc1d2e3ac1868c9addbdeef8faddd75a84a7e4f7e920c92e0eda6069735a9fb"), looks := false }, kinds := [], alts := [], laidByText := true, laidKinds := [.data], laidTests := true, laidLooks := .later }
def CrcBehindCardSaid : Prop := Claim7.holds Tryd.pinned (.plain (OpenSpec.ofChange crcBehindSpec)) crcBehindCard

/-- THE TIED CARD OF 'culvertlaw2.CrcRound'. -/
def crcRoundCard : Claim7 := { stood := { row := crcRoundRow, standIns := [], harness := (true, "ddc1d2e3ac1868c9addbdeef8faddd75a84a7e4f7e920c92e0eda6069735a9fb"), looks := false }, kinds := [], alts := [], laidByText := true, laidKinds := [.data], laidTests := true, laidLooks := .later }
def CrcRoundCardSaid : Prop := Claim7.holds Tryd.pinned (.plain (OpenSpec.ofChange crcRoundSpec)) crcRoundCard

/-- THE SECOND FORM's CARD OF 'culvertlaw2.CrcOdd'. -/
def crcOddUptoCard : Claim7 := { stood := { row := crcOddUptoRow, standIns := [], harness := (true, "ddc1d2e3ac1868c9addbdeef8faddd75a84a7e4f7e920c92e0eda6069735a9fb"), looks := false }, kinds := [], alts := [], laidByText := true, laidKinds := [.data], laidTests := true, laidLooks := .later }
def CrcOddUptoCardSaid : Prop := Claim7.holds Tryd.pinned (.plain (OpenSpec.upto crcOddSpec)) crcOddUptoCard

/-- THE SECOND FORM's CARD OF 'culvertlaw2.CrcTwo'. -/
def crcTwoUptoCard : Claim7 := { stood := { row := crcTwoUptoRow, standIns := [], harness := (true, "ddc1d2e3ac1868c9addbdeef8faddd75a84a7e4f7e920c92e0eda6069735a9fb"), looks := false }, kinds := [], alts := [], laidByText := true, laidKinds := [.data], laidTests := true, laidLooks := .later }
def CrcTwoUptoCardSaid : Prop := Claim7.holds Tryd.pinned (.plain (OpenSpec.upto crcTwoSpec)) crcTwoUptoCard

/-- THE SECOND FORM's CARD OF 'culvertlaw2.CrcBehind'. -/
def crcBehindUptoCard : Claim7 := { stood := { row := crcBehindUptoRow, standIns := [], harness := (true, "ddc1d2e3ac1868c9addbdeef8faddd75a84a7e4f7e920c92e0eda6069735a9fb"), looks := false }, kinds := [], alts := [], laidByText := true, laidKinds := [.data], laidTests := true, laidLooks := .later }
def CrcBehindUptoCardSaid : Prop := Claim7.holds Tryd.pinned (.plain (OpenSpec.upto crcBehindSpec)) crcBehindUptoCard

/-- THE SECOND FORM's CARD OF 'culvertlaw2.CrcRound'. -/
def crcRoundUptoCard : Claim7 := { stood := { row := crcRoundUptoRow, standIns := [], harness := (true, "ddc1d2e3ac1868c9addbdeef8faddd75a84a7e4f7e920c92e0eda6069735a9fb"), looks := false }, kinds := [], alts := [], laidByText := true, laidKinds := [.data], laidTests := true, laidLooks := .later }
def CrcRoundUptoCardSaid : Prop := Claim7.holds Tryd.pinned (.plain (OpenSpec.upto crcRoundSpec)) crcRoundUptoCard
end Rows
end Go.Proofs.YtfgnllfgccbolabDoor
