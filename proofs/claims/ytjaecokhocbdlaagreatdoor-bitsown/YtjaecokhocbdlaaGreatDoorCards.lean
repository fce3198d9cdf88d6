/-
  DERIVED. GIVEN WITH THE SEED: THE CARDS: each row of YtjaecokhocbdlaaGreatDoorRows.lean that lists a variable, with what it lists TIED to the program's text (the seventh form; the later family's looks); each row that meets fmt, with fmt's text TOLD by the authors' own Lean function (tested against real Go, not proved from fmt's source: count such statements apart). THE CARD IS WHAT COUNTS. Prove the row's statement (the work); the ties are given (YtjaecokhocbdlaaGreatDoorTie.lean); close each card by the builder's one call (the guide's Derived/Test/ToyasCard.lean, 'card_holds'). Laid BY PROGRAM, IN A SANDBOX (cutbox-door.mjs). By AI agents, Wed Nov 11 2026. No macro, syntax, notation, axiom, sorry.
-/
import Derived.Test.YtjaecokhocbdlaaGreatDoorRows
import GoSem.ClaimSeven
namespace Go.Proofs.YtjaecokhocbdlaaGreatDoor
namespace Rows

/-- THE TIED CARD OF 'culvertlaw1.BitsOwn'. -/
def bitsOwnCard : Claim7 := { stood := { row := bitsOwnRow, standIns := [], harness := (true, "46b261595861db7eff312bb42cbf0f38a66711e32e01a2534c640cbc111596a9"), looks := false }, kinds := [], alts := [], laidByText := true, laidKinds := [.data, .data, .data], laidTests := true, laidLooks := .later }
def BitsOwnCardSaid : Prop := Claim7.holds Tryz.pinned (.plain (OpenSpec.ofChange bitsOwnSpec)) bitsOwnCard

/-- THE SECOND FORM's CARD OF 'culvertlaw1.BitsOwn'. -/
def bitsOwnUptoCard : Claim7 := { stood := { row := bitsOwnUptoRow, standIns := [], harness := (true, "46b261595861db7eff312bb42cbf0f38a66711e32e01a2534c640cbc111596a9"), looks := false }, kinds := [], alts := [], laidByText := true, laidKinds := [.data, .data, .data], laidTests := true, laidLooks := .later }
def BitsOwnUptoCardSaid : Prop := Claim7.holds Tryz.pinned (.plain (OpenSpec.upto bitsOwnSpec)) bitsOwnUptoCard
end Rows
end Go.Proofs.YtjaecokhocbdlaaGreatDoor
