/-
  DERIVED. GIVEN WITH THE SEED: THE CARDS: each row of YtkeogggeefnoeaaGreatDoorRows.lean that lists a variable, with what it lists TIED to the program's text (the seventh form; the later family's looks); each row that meets fmt, with fmt's text TOLD by the authors' own Lean function (tested against real Go, not proved from fmt's source: count such statements apart). THE CARD IS WHAT COUNTS. Prove the row's statement (the work); the ties are given (YtkeogggeefnoeaaGreatDoorTie.lean); close each card by the builder's one call (the guide's Derived/Test/ToyasCard.lean, 'card_holds'). Laid BY PROGRAM, IN A SANDBOX (cutbox-door.mjs). By AI agents, Wed Nov 11 2026. No macro, syntax, notation, axiom, sorry.
-/
import Derived.Test.YtkeogggeefnoeaaGreatDoorRows
import GoSem.ClaimSeven
namespace Go.Proofs.YtkeogggeefnoeaaGreatDoor
namespace Rows

/-- THE TIED CARD OF 'culvertlaw22.ScriptRound'. -/
def scriptRoundCard : Claim7 := { stood := { row := scriptRoundRow, standIns := [], harness := (true, "ba8ad6136fcf9a3a5fd7e564b3c2765921970bbbe695b585413b06227d856205"), looks := true }, kinds := [], alts := [], laidByText := true, laidKinds := [.data, .data, .data, .sentinel, .sentinel, .data, .data, .data], laidTests := true, laidLooks := .later }
def ScriptRoundCardSaid : Prop := Claim7.holds Tryz.pinned (.plain (OpenSpec.ofChange scriptRoundSpec)) scriptRoundCard

/-- THE TIED CARD OF 'culvertlaw22.ScriptCanon'. -/
def scriptCanonCard : Claim7 := { stood := { row := scriptCanonRow, standIns := [], harness := (true, "ba8ad6136fcf9a3a5fd7e564b3c2765921970bbbe695b585413b06227d856205"), looks := true }, kinds := [], alts := [], laidByText := true, laidKinds := [.data, .data, .data, .sentinel, .sentinel, .data, .data, .data], laidTests := true, laidLooks := .later }
def ScriptCanonCardSaid : Prop := Claim7.holds Tryz.pinned (.plain (OpenSpec.ofChange scriptCanonSpec)) scriptCanonCard

/-- THE TIED CARD OF 'culvertlaw22.ScriptNoise'. -/
def scriptNoiseCard : Claim7 := { stood := { row := scriptNoiseRow, standIns := [], harness := (true, "ba8ad6136fcf9a3a5fd7e564b3c2765921970bbbe695b585413b06227d856205"), looks := true }, kinds := [], alts := [], laidByText := true, laidKinds := [.data, .data, .data, .sentinel, .sentinel, .data, .data, .data], laidTests := true, laidLooks := .later }
def ScriptNoiseCardSaid : Prop := Claim7.holds Tryz.pinned (.plain (OpenSpec.ofChange scriptNoiseSpec)) scriptNoiseCard

/-- THE TIED CARD OF 'culvertlaw22.ScriptFault'. -/
def scriptFaultCard : Claim7 := { stood := { row := scriptFaultRow, standIns := [], harness := (true, "ba8ad6136fcf9a3a5fd7e564b3c2765921970bbbe695b585413b06227d856205"), looks := true }, kinds := [], alts := [], laidByText := true, laidKinds := [.data, .data, .data, .sentinel, .sentinel, .data, .data, .data], laidTests := true, laidLooks := .later }
def ScriptFaultCardSaid : Prop := Claim7.holds Tryz.pinned (.plain (OpenSpec.ofChange scriptFaultSpec)) scriptFaultCard

/-- THE SECOND FORM's CARD OF 'culvertlaw22.ScriptRound'. -/
def scriptRoundUptoCard : Claim7 := { stood := { row := scriptRoundUptoRow, standIns := [], harness := (true, "ba8ad6136fcf9a3a5fd7e564b3c2765921970bbbe695b585413b06227d856205"), looks := true }, kinds := [], alts := [], laidByText := true, laidKinds := [.data, .data, .data, .sentinel, .sentinel, .data, .data, .data], laidTests := true, laidLooks := .later }
def ScriptRoundUptoCardSaid : Prop := Claim7.holds Tryz.pinned (.plain (OpenSpec.upto scriptRoundSpec)) scriptRoundUptoCard

/-- THE SECOND FORM's CARD OF 'culvertlaw22.ScriptCanon'. -/
def scriptCanonUptoCard : Claim7 := { stood := { row := scriptCanonUptoRow, standIns := [], harness := (true, "ba8ad6136fcf9a3a5fd7e564b3c2765921970bbbe695b585413b06227d856205"), looks := true }, kinds := [], alts := [], laidByText := true, laidKinds := [.data, .data, .data, .sentinel, .sentinel, .data, .data, .data], laidTests := true, laidLooks := .later }
def ScriptCanonUptoCardSaid : Prop := Claim7.holds Tryz.pinned (.plain (OpenSpec.upto scriptCanonSpec)) scriptCanonUptoCard

/-- THE SECOND FORM's CARD OF 'culvertlaw22.ScriptNoise'. -/
def scriptNoiseUptoCard : Claim7 := { stood := { row := scriptNoiseUptoRow, standIns := [], harness := (true, "ba8ad6136fcf9a3a5fd7e564b3c2765921970bbbe695b585413b06227d856205"), looks := true }, kinds := [], alts := [], laidByText := true, laidKinds := [.data, .data, .data, .sentinel, .sentinel, .data, .data, .data], laidTests := true, laidLooks := .later }
def ScriptNoiseUptoCardSaid : Prop := Claim7.holds Tryz.pinned (.plain (OpenSpec.upto scriptNoiseSpec)) scriptNoiseUptoCard

/-- THE SECOND FORM's CARD OF 'culvertlaw22.ScriptFault'. -/
def scriptFaultUptoCard : Claim7 := { stood := { row := scriptFaultUptoRow, standIns := [], harness := (true, "ba8ad6136fcf9a3a5fd7e564b3c2765921970bbbe695b585413b06227d856205"), looks := true }, kinds := [], alts := [], laidByText := true, laidKinds := [.data, .data, .data, .sentinel, .sentinel, .data, .data, .data], laidTests := true, laidLooks := .later }
def ScriptFaultUptoCardSaid : Prop := Claim7.holds Tryz.pinned (.plain (OpenSpec.upto scriptFaultSpec)) scriptFaultUptoCard
end Rows
end Go.Proofs.YtkeogggeefnoeaaGreatDoor
