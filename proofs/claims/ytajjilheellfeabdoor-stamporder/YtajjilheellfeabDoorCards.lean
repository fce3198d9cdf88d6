/-
  DERIVED. GIVEN WITH THE SEED: THE CARDS: each row of YtajjilheellfeabDoorRows.lean that lists a variable, with what it lists TIED to the program's text (the seventh form; the later family's looks); each row that meets fmt, with fmt's text TOLD by the authors' own Lean function (tested against real Go, not proved from fmt's source: count such statements apart). THE CARD IS WHAT COUNTS. Prove the row's statement (the work); the ties are given (YtajjilheellfeabDoorTie.lean); close each card by the builder's one call (the guide's Derived/Test/ToyasCard.lean, 'card_holds'). Laid BY PROGRAM, IN A SANDBOX (cutbox-door.mjs). By AI agents, Wed Nov 11 2026. No macro, syntax, notation, axiom, sorry.
-/
import Derived.Test.YtajjilheellfeabDoorRows
import GoSem.ClaimSeven
namespace Go.Proofs.YtajjilheellfeabDoor
namespace Rows

/-- THE TIED CARD OF 'culvertlaw6.StampOrder'. -/
def stampOrderCard : Claim7 := { stood := { row := stampOrderRow, standIns := [], harness := (true, "c9469350620e2587295caeda17e9dd032b16074ae0e1cbd9dfc2f9417c986f1e"), looks := false }, kinds := [], alts := [], laidByText := true, laidKinds := [.data, .data, .data], laidTests := true, laidLooks := .later }
def StampOrderCardSaid : Prop := Claim7.holds Tryd.pinned (.plain (OpenSpec.ofChange stampOrderSpec)) stampOrderCard

/-- THE TIED CARD OF 'culvertlaw6.StampSteps'. -/
def stampStepsCard : Claim7 := { stood := { row := stampStepsRow, standIns := [], harness := (true, "c9469350620e2587295caeda17e9dd032b16074ae0e1cbd9dfc2f9417c986f1e"), looks := false }, kinds := [], alts := [], laidByText := true, laidKinds := [.data, .data, .data], laidTests := true, laidLooks := .later }
def StampStepsCardSaid : Prop := Claim7.holds Tryd.pinned (.plain (OpenSpec.ofChange stampStepsSpec)) stampStepsCard

/-- THE TIED CARD OF 'culvertlaw6.StampOneForm'. -/
def stampOneFormCard : Claim7 := { stood := { row := stampOneFormRow, standIns := [], harness := (true, "c9469350620e2587295caeda17e9dd032b16074ae0e1cbd9dfc2f9417c986f1e"), looks := false }, kinds := [], alts := [], laidByText := true, laidKinds := [.data, .data, .data], laidTests := true, laidLooks := .later }
def StampOneFormCardSaid : Prop := Claim7.holds Tryd.pinned (.plain (OpenSpec.ofChange stampOneFormSpec)) stampOneFormCard

/-- THE TIED CARD OF 'culvertlaw6.StampPlace'. -/
def stampPlaceCard : Claim7 := { stood := { row := stampPlaceRow, standIns := [], harness := (true, "c9469350620e2587295caeda17e9dd032b16074ae0e1cbd9dfc2f9417c986f1e"), looks := false }, kinds := [], alts := [], laidByText := true, laidKinds := [.data, .data, .data], laidTests := true, laidLooks := .later }
def StampPlaceCardSaid : Prop := Claim7.holds Tryd.pinned (.plain (OpenSpec.ofChange stampPlaceSpec)) stampPlaceCard

/-- THE SECOND FORM's CARD OF 'culvertlaw6.StampOrder'. -/
def stampOrderUptoCard : Claim7 := { stood := { row := stampOrderUptoRow, standIns := [], harness := (true, "c9469350620e2587295caeda17e9dd032b16074ae0e1cbd9dfc2f9417c986f1e"), looks := false }, kinds := [], alts := [], laidByText := true, laidKinds := [.data, .data, .data], laidTests := true, laidLooks := .later }
def StampOrderUptoCardSaid : Prop := Claim7.holds Tryd.pinned (.plain (OpenSpec.upto stampOrderSpec)) stampOrderUptoCard

/-- THE SECOND FORM's CARD OF 'culvertlaw6.StampSteps'. -/
def stampStepsUptoCard : Claim7 := { stood := { row := stampStepsUptoRow, standIns := [], harness := (true, "c9469350620e2587295caeda17e9dd032b16074ae0e1cbd9dfc2f9417c986f1e"), looks := false }, kinds := [], alts := [], laidByText := true, laidKinds := [.data, .data, .data], laidTests := true, laidLooks := .later }
def StampStepsUptoCardSaid : Prop := Claim7.holds Tryd.pinned (.plain (OpenSpec.upto stampStepsSpec)) stampStepsUptoCard

/-- THE SECOND FORM's CARD OF 'culvertlaw6.StampOneForm'. -/
def stampOneFormUptoCard : Claim7 := { stood := { row := stampOneFormUptoRow, standIns := [], harness := (true, "c9469350620e2587295caeda17e9dd032b16074ae0e1cbd9dfc2f9417c986f1e"), looks := false }, kinds := [], alts := [], laidByText := true, laidKinds := [.data, .data, .data], laidTests := true, laidLooks := .later }
def StampOneFormUptoCardSaid : Prop := Claim7.holds Tryd.pinned (.plain (OpenSpec.upto stampOneFormSpec)) stampOneFormUptoCard

/-- THE SECOND FORM's CARD OF 'culvertlaw6.StampPlace'. -/
def stampPlaceUptoCard : Claim7 := { stood := { row := stampPlaceUptoRow, standIns := [], harness := (true, "c9469350620e2587295caeda17e9dd032b16074ae0e1cbd9dfc2f9417c986f1e"), looks := false }, kinds := [], alts := [], laidByText := true, laidKinds := [.data, .data, .data], laidTests := true, laidLooks := .later }
def StampPlaceUptoCardSaid : Prop := Claim7.holds Tryd.pinned (.plain (OpenSpec.upto stampPlaceSpec)) stampPlaceUptoCard
end Rows
end Go.Proofs.YtajjilheellfeabDoor
