/-
  DERIVED. GIVEN WITH THE SEED: THE CARDS: each row of YtajjilheellfeaaDoorRows.lean that lists a variable, with what it lists TIED to the program's text (the seventh form; the later family's looks); each row that meets fmt, with fmt's text TOLD by the authors' own Lean function (tested against real Go, not proved from fmt's source: count such statements apart). THE CARD IS WHAT COUNTS. Prove the row's statement (the work); the ties are given (YtajjilheellfeaaDoorTie.lean); close each card by the builder's one call (the guide's Derived/Test/ToyasCard.lean, 'card_holds'). Laid BY PROGRAM, IN A SANDBOX (cutbox-door.mjs). By AI agents, Wed Nov 11 2026. No macro, syntax, notation, axiom, sorry.
-/
import Derived.Test.YtajjilheellfeaaDoorRows
import GoSem.ClaimSeven
namespace Go.Proofs.YtajjilheellfeaaDoor
namespace Rows

/-- THE TIED CARD OF 'culvertlaw6.StampValids'. -/
def stampValidsCard : Claim7 := { stood := { row := stampValidsRow, standIns := [], harness := (true, "d5f8292f8862d15f1488f79d909fb118636c5581210c62242b784d0d11b23dd9"), looks := false }, kinds := [], alts := [], laidByText := true, laidKinds := [.data, .data, .data], laidTests := true, laidLooks := .later }
def StampValidsCardSaid : Prop := Claim7.holds Tryd.pinned (.plain (OpenSpec.ofChange stampValidsSpec)) stampValidsCard

/-- THE TIED CARD OF 'culvertlaw6.StampLess'. -/
def stampLessCard : Claim7 := { stood := { row := stampLessRow, standIns := [], harness := (true, "d5f8292f8862d15f1488f79d909fb118636c5581210c62242b784d0d11b23dd9"), looks := false }, kinds := [], alts := [], laidByText := true, laidKinds := [.data, .data, .data], laidTests := true, laidLooks := .later }
def StampLessCardSaid : Prop := Claim7.holds Tryd.pinned (.plain (OpenSpec.ofChange stampLessSpec)) stampLessCard

/-- THE TIED CARD OF 'culvertlaw6.StampNexts'. -/
def stampNextsCard : Claim7 := { stood := { row := stampNextsRow, standIns := [], harness := (true, "d5f8292f8862d15f1488f79d909fb118636c5581210c62242b784d0d11b23dd9"), looks := false }, kinds := [], alts := [], laidByText := true, laidKinds := [.data, .data, .data], laidTests := true, laidLooks := .later }
def StampNextsCardSaid : Prop := Claim7.holds Tryd.pinned (.plain (OpenSpec.ofChange stampNextsSpec)) stampNextsCard

/-- THE TIED CARD OF 'culvertlaw6.StampPuts'. -/
def stampPutsCard : Claim7 := { stood := { row := stampPutsRow, standIns := [], harness := (true, "d5f8292f8862d15f1488f79d909fb118636c5581210c62242b784d0d11b23dd9"), looks := false }, kinds := [], alts := [], laidByText := true, laidKinds := [.data, .data, .data], laidTests := true, laidLooks := .later }
def StampPutsCardSaid : Prop := Claim7.holds Tryd.pinned (.plain (OpenSpec.ofChange stampPutsSpec)) stampPutsCard

/-- THE TIED CARD OF 'culvertlaw6.StampGets'. -/
def stampGetsCard : Claim7 := { stood := { row := stampGetsRow, standIns := [], harness := (true, "d5f8292f8862d15f1488f79d909fb118636c5581210c62242b784d0d11b23dd9"), looks := false }, kinds := [], alts := [], laidByText := true, laidKinds := [.data, .data, .data], laidTests := true, laidLooks := .later }
def StampGetsCardSaid : Prop := Claim7.holds Tryd.pinned (.plain (OpenSpec.ofChange stampGetsSpec)) stampGetsCard

/-- THE TIED CARD OF 'culvertlaw6.StampParses'. -/
def stampParsesCard : Claim7 := { stood := { row := stampParsesRow, standIns := [], harness := (true, "d5f8292f8862d15f1488f79d909fb118636c5581210c62242b784d0d11b23dd9"), looks := false }, kinds := [], alts := [], laidByText := true, laidKinds := [.data, .data, .data], laidTests := true, laidLooks := .later }
def StampParsesCardSaid : Prop := Claim7.holds Tryd.pinned (.plain (OpenSpec.ofChange stampParsesSpec)) stampParsesCard

/-- THE SECOND FORM's CARD OF 'culvertlaw6.StampValids'. -/
def stampValidsUptoCard : Claim7 := { stood := { row := stampValidsUptoRow, standIns := [], harness := (true, "d5f8292f8862d15f1488f79d909fb118636c5581210c62242b784d0d11b23dd9"), looks := false }, kinds := [], alts := [], laidByText := true, laidKinds := [.data, .data, .data], laidTests := true, laidLooks := .later }
def StampValidsUptoCardSaid : Prop := Claim7.holds Tryd.pinned (.plain (OpenSpec.upto stampValidsSpec)) stampValidsUptoCard

/-- THE SECOND FORM's CARD OF 'culvertlaw6.StampLess'. -/
def stampLessUptoCard : Claim7 := { stood := { row := stampLessUptoRow, standIns := [], harness := (true, "d5f8292f8862d15f1488f79d909fb118636c5581210c62242b784d0d11b23dd9"), looks := false }, kinds := [], alts := [], laidByText := true, laidKinds := [.data, .data, .data], laidTests := true, laidLooks := .later }
def StampLessUptoCardSaid : Prop := Claim7.holds Tryd.pinned (.plain (OpenSpec.upto stampLessSpec)) stampLessUptoCard

/-- THE SECOND FORM's CARD OF 'culvertlaw6.StampNexts'. -/
def stampNextsUptoCard : Claim7 := { stood := { row := stampNextsUptoRow, standIns := [], harness := (true, "d5f8292f8862d15f1488f79d909fb118636c5581210c62242b784d0d11b23dd9"), looks := false }, kinds := [], alts := [], laidByText := true, laidKinds := [.data, .data, .data], laidTests := true, laidLooks := .later }
def StampNextsUptoCardSaid : Prop := Claim7.holds Tryd.pinned (.plain (OpenSpec.upto stampNextsSpec)) stampNextsUptoCard

/-- THE SECOND FORM's CARD OF 'culvertlaw6.StampPuts'. -/
def stampPutsUptoCard : Claim7 := { stood := { row := stampPutsUptoRow, standIns := [], harness := (true, "d5f8292f8862d15f1488f79d909fb118636c5581210c62242b784d0d11b23dd9"), looks := false }, kinds := [], alts := [], laidByText := true, laidKinds := [.data, .data, .data], laidTests := true, laidLooks := .later }
def StampPutsUptoCardSaid : Prop := Claim7.holds Tryd.pinned (.plain (OpenSpec.upto stampPutsSpec)) stampPutsUptoCard

/-- THE SECOND FORM's CARD OF 'culvertlaw6.StampGets'. -/
def stampGetsUptoCard : Claim7 := { stood := { row := stampGetsUptoRow, standIns := [], harness := (true, "d5f8292f8862d15f1488f79d909fb118636c5581210c62242b784d0d11b23dd9"), looks := false }, kinds := [], alts := [], laidByText := true, laidKinds := [.data, .data, .data], laidTests := true, laidLooks := .later }
def StampGetsUptoCardSaid : Prop := Claim7.holds Tryd.pinned (.plain (OpenSpec.upto stampGetsSpec)) stampGetsUptoCard

/-- THE SECOND FORM's CARD OF 'culvertlaw6.StampParses'. -/
def stampParsesUptoCard : Claim7 := { stood := { row := stampParsesUptoRow, standIns := [], harness := (true, "d5f8292f8862d15f1488f79d909fb118636c5581210c62242b784d0d11b23dd9"), looks := false }, kinds := [], alts := [], laidByText := true, laidKinds := [.data, .data, .data], laidTests := true, laidLooks := .later }
def StampParsesUptoCardSaid : Prop := Claim7.holds Tryd.pinned (.plain (OpenSpec.upto stampParsesSpec)) stampParsesUptoCard
end Rows
end Go.Proofs.YtajjilheellfeaaDoor
