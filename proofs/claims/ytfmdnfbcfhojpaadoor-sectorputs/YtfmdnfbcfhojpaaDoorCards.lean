/-
  DERIVED. GIVEN WITH THE SEED: THE CARDS: each row of YtfmdnfbcfhojpaaDoorRows.lean that lists a variable, with what it lists TIED to the program's text (the seventh form; the later family's looks); each row that meets fmt, with fmt's text TOLD by the authors' own Lean function (tested against real Go, not proved from fmt's source: count such statements apart). THE CARD IS WHAT COUNTS. Prove the row's statement (the work); the ties are given (YtfmdnfbcfhojpaaDoorTie.lean); close each card by the builder's one call (the guide's Derived/Test/ToyasCard.lean, 'card_holds'). Laid BY PROGRAM, IN A SANDBOX (cutbox-door.mjs). By AI agents, Wed Nov 11 2026. No macro, syntax, notation, axiom, sorry.
-/
import Derived.Test.YtfmdnfbcfhojpaaDoorRows
import GoSem.ClaimSeven
namespace Go.Proofs.YtfmdnfbcfhojpaaDoor
namespace Rows

/-- THE TIED CARD OF 'culvertlaw11.SectorPuts'. -/
def sectorPutsCard : Claim7 := { stood := { row := sectorPutsRow, standIns := [], harness := (true, "9ed7f65e9b7199923d990b375fe22a9259ce07fb535d9438d273868c91452a34"), looks := false }, kinds := [], alts := [], laidByText := true, laidKinds := [.data], laidTests := true, laidLooks := .later }
def SectorPutsCardSaid : Prop := Claim7.holds Tryd.pinned (.plain (OpenSpec.ofChange sectorPutsSpec)) sectorPutsCard

/-- THE TIED CARD OF 'culvertlaw11.SectorGets'. -/
def sectorGetsCard : Claim7 := { stood := { row := sectorGetsRow, standIns := [], harness := (true, "9ed7f65e9b7199923d990b375fe22a9259ce07fb535d9438d273868c91452a34"), looks := false }, kinds := [], alts := [], laidByText := true, laidKinds := [.data], laidTests := true, laidLooks := .later }
def SectorGetsCardSaid : Prop := Claim7.holds Tryd.pinned (.plain (OpenSpec.ofChange sectorGetsSpec)) sectorGetsCard

/-- THE TIED CARD OF 'culvertlaw11.SectorRights'. -/
def sectorRightsCard : Claim7 := { stood := { row := sectorRightsRow, standIns := [], harness := (true, "9ed7f65e9b7199923d990b375fe22a9259ce07fb535d9438d273868c91452a34"), looks := false }, kinds := [], alts := [], laidByText := true, laidKinds := [.data], laidTests := true, laidLooks := .later }
def SectorRightsCardSaid : Prop := Claim7.holds Tryd.pinned (.plain (OpenSpec.ofChange sectorRightsSpec)) sectorRightsCard

/-- THE TIED CARD OF 'culvertlaw11.SectorBack'. -/
def sectorBackCard : Claim7 := { stood := { row := sectorBackRow, standIns := [], harness := (true, "9ed7f65e9b7199923d990b375fe22a9259ce07fb535d9438d273868c91452a34"), looks := false }, kinds := [], alts := [], laidByText := true, laidKinds := [.data], laidTests := true, laidLooks := .later }
def SectorBackCardSaid : Prop := Claim7.holds Tryd.pinned (.plain (OpenSpec.ofChange sectorBackSpec)) sectorBackCard

/-- THE TIED CARD OF 'culvertlaw11.SectorOneForm'. -/
def sectorOneFormCard : Claim7 := { stood := { row := sectorOneFormRow, standIns := [], harness := (true, "9ed7f65e9b7199923d990b375fe22a9259ce07fb535d9438d273868c91452a34"), looks := false }, kinds := [], alts := [], laidByText := true, laidKinds := [.data], laidTests := true, laidLooks := .later }
def SectorOneFormCardSaid : Prop := Claim7.holds Tryd.pinned (.plain (OpenSpec.ofChange sectorOneFormSpec)) sectorOneFormCard

/-- THE TIED CARD OF 'culvertlaw11.SectorUnlike'. -/
def sectorUnlikeCard : Claim7 := { stood := { row := sectorUnlikeRow, standIns := [], harness := (true, "9ed7f65e9b7199923d990b375fe22a9259ce07fb535d9438d273868c91452a34"), looks := false }, kinds := [], alts := [], laidByText := true, laidKinds := [.data], laidTests := true, laidLooks := .later }
def SectorUnlikeCardSaid : Prop := Claim7.holds Tryd.pinned (.plain (OpenSpec.ofChange sectorUnlikeSpec)) sectorUnlikeCard

/-- THE SECOND FORM's CARD OF 'culvertlaw11.SectorPuts'. -/
def sectorPutsUptoCard : Claim7 := { stood := { row := sectorPutsUptoRow, standIns := [], harness := (true, "9ed7f65e9b7199923d990b375fe22a9259ce07fb535d9438d273868c91452a34"), looks := false }, kinds := [], alts := [], laidByText := true, laidKinds := [.data], laidTests := true, laidLooks := .later }
def SectorPutsUptoCardSaid : Prop := Claim7.holds Tryd.pinned (.plain (OpenSpec.upto sectorPutsSpec)) sectorPutsUptoCard

/-- THE SECOND FORM's CARD OF 'culvertlaw11.SectorGets'. -/
def sectorGetsUptoCard : Claim7 := { stood := { row := sectorGetsUptoRow, standIns := [], harness := (true, "9ed7f65e9b7199923d990b375fe22a9259ce07fb535d9438d273868c91452a34"), looks := false }, kinds := [], alts := [], laidByText := true, laidKinds := [.data], laidTests := true, laidLooks := .later }
def SectorGetsUptoCardSaid : Prop := Claim7.holds Tryd.pinned (.plain (OpenSpec.upto sectorGetsSpec)) sectorGetsUptoCard

/-- THE SECOND FORM's CARD OF 'culvertlaw11.SectorRights'. -/
def sectorRightsUptoCard : Claim7 := { stood := { row := sectorRightsUptoRow, standIns := [], harness := (true, "9ed7f65e9b7199923d990b375fe22a9259ce07fb535d9438d273868c91452a34"), looks := false }, kinds := [], alts := [], laidByText := true, laidKinds := [.data], laidTests := true, laidLooks := .later }
def SectorRightsUptoCardSaid : Prop := Claim7.holds Tryd.pinned (.plain (OpenSpec.upto sectorRightsSpec)) sectorRightsUptoCard

/-- THE SECOND FORM's CARD OF 'culvertlaw11.SectorBack'. -/
def sectorBackUptoCard : Claim7 := { stood := { row := sectorBackUptoRow, standIns := [], harness := (true, "9ed7f65e9b7199923d990b375fe22a9259ce07fb535d9438d273868c91452a34"), looks := false }, kinds := [], alts := [], laidByText := true, laidKinds := [.data], laidTests := true, laidLooks := .later }
def SectorBackUptoCardSaid : Prop := Claim7.holds Tryd.pinned (.plain (OpenSpec.upto sectorBackSpec)) sectorBackUptoCard

/-- THE SECOND FORM's CARD OF 'culvertlaw11.SectorOneForm'. -/
def sectorOneFormUptoCard : Claim7 := { stood := { row := sectorOneFormUptoRow, standIns := [], harness := (true, "9ed7f65e9b7199923d990b375fe22a9259ce07fb535d9438d273868c91452a34"), looks := false }, kinds := [], alts := [], laidByText := true, laidKinds := [.data], laidTests := true, laidLooks := .later }
def SectorOneFormUptoCardSaid : Prop := Claim7.holds Tryd.pinned (.plain (OpenSpec.upto sectorOneFormSpec)) sectorOneFormUptoCard

/-- THE SECOND FORM's CARD OF 'culvertlaw11.SectorUnlike'. -/
def sectorUnlikeUptoCard : Claim7 := { stood := { row := sectorUnlikeUptoRow, standIns := [], harness := (true, "9ed7f65e9b7199923d990b375fe22a9259ce07fb535d9438d273868c91452a34"), looks := false }, kinds := [], alts := [], laidByText := true, laidKinds := [.data], laidTests := true, laidLooks := .later }
def SectorUnlikeUptoCardSaid : Prop := Claim7.holds Tryd.pinned (.plain (OpenSpec.upto sectorUnlikeSpec)) sectorUnlikeUptoCard
end Rows
end Go.Proofs.YtfmdnfbcfhojpaaDoor
