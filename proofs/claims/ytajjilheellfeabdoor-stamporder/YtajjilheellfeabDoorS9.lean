import Derived.Test.YtajjilheellfeabDoorS8
namespace Go.Proofs.YtajjilheellfeabDoor
open Go.RowKit
set_option linter.unusedVariables false

theorem sme_self (s n : Int) : sme s n s n = true := decide_eq_true ⟨rfl, rfl⟩
end Go.Proofs.YtajjilheellfeabDoor
