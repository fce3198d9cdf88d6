/-
  DERIVED. GIVEN WITH THE SEED: THE CARDS: each row of YtjajcbjodokfnaaGreatDoorRows.lean that lists a variable, with what it lists TIED to the program's text (the seventh form; the later family's looks); each row that meets fmt, with fmt's text TOLD by the authors' own Lean function (tested against real Go, not proved from fmt's source: count such statements apart). THE CARD IS WHAT COUNTS. Prove the row's statement (the work); the ties are given (YtjajcbjodokfnaaGreatDoorTie.lean); close each card by the builder's one call (the guide's Derived/Test/ToyasCard.lean, 'card_holds'). Laid BY PROGRAM, IN A SANDBOX (cutbox-door.mjs). By AI agents, Wed Nov 11 2026. No macro, syntax, notation, axiom, sorry.
-/
import Derived.Test.YtjajcbjodokfnaaGreatDoorRows
import GoSem.ClaimSeven
namespace Go.Proofs.YtjajcbjodokfnaaGreatDoor
namespace Rows

/-- THE TIED CARD OF 'culvertlaw12.WalNeeds'. -/
def walNeedsCard : Claim7 := { stood := { row := walNeedsRow, standIns := [], harness := (true, "688c46ad80b2eb979a97354c31e11d4301ed8810c46e28f0718f999711c1bd99"), looks := false }, kinds := [], alts := [], laidByText := true, laidKinds := [.data], laidTests := true, laidLooks := .later }
def WalNeedsCardSaid : Prop := Claim7.holds Tryz.pinned (.plain (OpenSpec.ofChange walNeedsSpec)) walNeedsCard

/-- THE TIED CARD OF 'culvertlaw12.WalPlays'. -/
def walPlaysCard : Claim7 := { stood := { row := walPlaysRow, standIns := [], harness := (true, "688c46ad80b2eb979a97354c31e11d4301ed8810c46e28f0718f999711c1bd99"), looks := false }, kinds := [], alts := [], laidByText := true, laidKinds := [.data], laidTests := true, laidLooks := .later }
def WalPlaysCardSaid : Prop := Claim7.holds Tryz.pinned (.plain (OpenSpec.ofChange walPlaysSpec)) walPlaysCard

/-- THE TIED CARD OF 'culvertlaw12.WalOpens'. -/
def walOpensCard : Claim7 := { stood := { row := walOpensRow, standIns := [], harness := (true, "688c46ad80b2eb979a97354c31e11d4301ed8810c46e28f0718f999711c1bd99"), looks := false }, kinds := [], alts := [], laidByText := true, laidKinds := [.data], laidTests := true, laidLooks := .later }
def WalOpensCardSaid : Prop := Claim7.holds Tryz.pinned (.plain (OpenSpec.ofChange walOpensSpec)) walOpensCard

/-- THE TIED CARD OF 'culvertlaw12.WalGreat'. -/
def walGreatCard : Claim7 := { stood := { row := walGreatRow, standIns := [], harness := (true, "688c46ad80b2eb979a97354c31e11d4301ed8810c46e28f0718f999711c1bd99"), looks := false }, kinds := [], alts := [], laidByText := true, laidKinds := [.data], laidTests := true, laidLooks := .later }
def WalGreatCardSaid : Prop := Claim7.holds Tryz.pinned (.plain (OpenSpec.ofChange walGreatSpec)) walGreatCard

/-- THE TIED CARD OF 'culvertlaw12.WalBeside'. -/
def walBesideCard : Claim7 := { stood := { row := walBesideRow, standIns := [], harness := (true, "688c46ad80b2eb979a97354c31e11d4301ed8810c46e28f0718f999711c1bd99"), looks := false }, kinds := [], alts := [], laidByText := true, laidKinds := [.data], laidTests := true, laidLooks := .later }
def WalBesideCardSaid : Prop := Claim7.holds Tryz.pinned (.plain (OpenSpec.ofChange walBesideSpec)) walBesideCard

/-- THE TIED CARD OF 'culvertlaw12.WalWhole'. -/
def walWholeCard : Claim7 := { stood := { row := walWholeRow, standIns := [], harness := (true, "688c46ad80b2eb979a97354c31e11d4301ed8810c46e28f0718f999711c1bd99"), looks := false }, kinds := [], alts := [], laidByText := true, laidKinds := [.data], laidTests := true, laidLooks := .later }
def WalWholeCardSaid : Prop := Claim7.holds Tryz.pinned (.plain (OpenSpec.ofChange walWholeSpec)) walWholeCard

/-- THE SECOND FORM's CARD OF 'culvertlaw12.WalNeeds'. -/
def walNeedsUptoCard : Claim7 := { stood := { row := walNeedsUptoRow, standIns := [], harness := (true, "688c46ad80b2eb979a97354c31e11d4301ed8810c46e28f0718f999711c1bd99"), looks := false }, kinds := [], alts := [], laidByText := true, laidKinds := [.data], laidTests := true, laidLooks := .later }
def WalNeedsUptoCardSaid : Prop := Claim7.holds Tryz.pinned (.plain (OpenSpec.upto walNeedsSpec)) walNeedsUptoCard

/-- THE SECOND FORM's CARD OF 'culvertlaw12.WalPlays'. -/
def walPlaysUptoCard : Claim7 := { stood := { row := walPlaysUptoRow, standIns := [], harness := (true, "688c46ad80b2eb979a97354c31e11d4301ed8810c46e28f0718f999711c1bd99"), looks := false }, kinds := [], alts := [], laidByText := true, laidKinds := [.data], laidTests := true, laidLooks := .later }
def WalPlaysUptoCardSaid : Prop := Claim7.holds Tryz.pinned (.plain (OpenSpec.upto walPlaysSpec)) walPlaysUptoCard

/-- THE SECOND FORM's CARD OF 'culvertlaw12.WalOpens'. -/
def walOpensUptoCard : Claim7 := { stood := { row := walOpensUptoRow, standIns := [], harness := (true, "688c46ad80b2eb979a97354c31e11d4301ed8810c46e28f0718f999711c1bd99"), looks := false }, kinds := [], alts := [], laidByText := true, laidKinds := [.data], laidTests := true, laidLooks := .later }
def WalOpensUptoCardSaid : Prop := Claim7.holds Tryz.pinned (.plain (OpenSpec.upto walOpensSpec)) walOpensUptoCard

/-- THE SECOND FORM's CARD OF 'culvertlaw12.WalGreat'. -/
def walGreatUptoCard : Claim7 := { stood := { row := walGreatUptoRow, standIns := [], harness := (true, "688c46ad80b2eb979a97354c31e11d4301ed8810c46e28f0718f999711c1bd99"), looks := false }, kinds := [], alts := [], laidByText := true, laidKinds := [.data], laidTests := true, laidLooks := .later }
def WalGreatUptoCardSaid : Prop := Claim7.holds Tryz.pinned (.plain (OpenSpec.upto walGreatSpec)) walGreatUptoCard

/-- THE SECOND FORM's CARD OF 'culvertlaw12.WalBeside'. -/
def walBesideUptoCard : Claim7 := { stood := { row := walBesideUptoRow, standIns := [], harness := (true, "688c46ad80b2eb979a97354c31e11d4301ed8810c46e28f0718f999711c1bd99"), looks := false }, kinds := [], alts := [], laidByText := true, laidKinds := [.data], laidTests := true, laidLooks := .later }
def WalBesideUptoCardSaid : Prop := Claim7.holds Tryz.pinned (.plain (OpenSpec.upto walBesideSpec)) walBesideUptoCard

/-- THE SECOND FORM's CARD OF 'culvertlaw12.WalWhole'. -/
def walWholeUptoCard : Claim7 := { stood := { row := walWholeUptoRow, standIns := [], harness := (true, "688c46ad80b2eb979a97354c31e11d4301ed8810c46e28f0718f999711c1bd99"), looks := false }, kinds := [], alts := [], laidByText := true, laidKinds := [.data], laidTests := true, laidLooks := .later }
def WalWholeUptoCardSaid : Prop := Claim7.holds Tryz.pinned (.plain (OpenSpec.upto walWholeSpec)) walWholeUptoCard
end Rows
end Go.Proofs.YtjajcbjodokfnaaGreatDoor
