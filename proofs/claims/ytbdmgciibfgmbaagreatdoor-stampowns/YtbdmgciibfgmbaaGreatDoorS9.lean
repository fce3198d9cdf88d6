import Derived.Test.YtbdmgciibfgmbaaGreatDoorS8
namespace Go.Proofs.YtbdmgciibfgmbaaGreatDoor
open Go.RowKit
set_option linter.unusedVariables false
set_option maxRecDepth 100000

theorem sme_self (s n : Int) : sme s n s n = true := decide_eq_true ⟨rfl, rfl⟩
end Go.Proofs.YtbdmgciibfgmbaaGreatDoor
