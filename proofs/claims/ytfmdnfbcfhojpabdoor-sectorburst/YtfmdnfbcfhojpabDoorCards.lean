/-
  DERIVED. GIVEN WITH THE SEED: THE CARDS: each row of YtfmdnfbcfhojpabDoorRows.lean that lists a variable, with what it lists TIED to the program's text (the seventh form; the later family's looks); each row that meets fmt, with fmt's text TOLD by the authors' own Lean function (tested against real Go, not proved from fmt's source: count such statements apart). THE CARD IS WHAT COUNTS. Prove the row's statement (the work); the ties are given (YtfmdnfbcfhojpabDoorTie.lean); close each card by the builder's one call (the guide's Derived/Test/ToyasCard.lean, 'card_holds'). Laid BY PROGRAM, IN A SANDBOX (cutbox-door.mjs). By AI agents, Wed Nov 11 2026. No macro, syntax, notation, axiom, sorry.
-/
import Derived.Test.YtfmdnfbcfhojpabDoorRows
import GoSem.ClaimSeven
namespace Go.Proofs.YtfmdnfbcfhojpabDoor
namespace Rows

/-- THE TIED CARD OF 'culvertlaw11.SectorTurned'. -/
def sectorTurnedCard : Claim7 := { stood := { row := sectorTurnedRow, standIns := [], harness := (true, "2b718507510a7f572db63d11f7f6311a8ade8e30e439860599bd018ee524a97a"), looks := false }, kinds := [], alts := [], laidByText := true, laidKinds := [.data], laidTests := true, laidLooks := .later }
def SectorTurnedCardSaid : Prop := Claim7.holds Tryd.pinned (.plain (OpenSpec.ofChange sectorTurnedSpec)) sectorTurnedCard

/-- THE TIED CARD OF 'culvertlaw11.SectorBurst'. -/
def sectorBurstCard : Claim7 := { stood := { row := sectorBurstRow, standIns := [], harness := (true, "2b718507510a7f572db63d11f7f6311a8ade8e30e439860599bd018ee524a97a"), looks := false }, kinds := [], alts := [], laidByText := true, laidKinds := [.data], laidTests := true, laidLooks := .later }
def SectorBurstCardSaid : Prop := Claim7.holds Tryd.pinned (.plain (OpenSpec.ofChange sectorBurstSpec)) sectorBurstCard

/-- THE SECOND FORM's CARD OF 'culvertlaw11.SectorTurned'. -/
def sectorTurnedUptoCard : Claim7 := { stood := { row := sectorTurnedUptoRow, standIns := [], harness := (true, "2b718507510a7f572db63d11f7f6311a8ade8e30e439860599bd018ee524a97a"), looks := false }, kinds := [], alts := [], laidByText := true, laidKinds := [.data], laidTests := true, laidLooks := .later }
def SectorTurnedUptoCardSaid : Prop := Claim7.holds Tryd.pinned (.plain (OpenSpec.upto sectorTurnedSpec)) sectorTurnedUptoCard

/-- THE SECOND FORM's CARD OF 'culvertlaw11.SectorBurst'. -/
def sectorBurstUptoCard : Claim7 := { stood := { row := sectorBurstUptoRow, standIns := [], harness := (true, "2b718507510a7f572db63d11f7f6311a8ade8e30e439860599bd018ee524a97a"), looks := false }, kinds := [], alts := [], laidByText := true, laidKinds := [.data], laidTests := true, laidLooks := .later }
def SectorBurstUptoCardSaid : Prop := Claim7.holds Tryd.pinned (.plain (OpenSpec.upto sectorBurstSpec)) sectorBurstUptoCard
end Rows
end Go.Proofs.YtfmdnfbcfhojpabDoor
