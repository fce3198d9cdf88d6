import Derived.Test.YtknjokmoommdeabDoorQ2
import Derived.Test.YtknjokmoommdeabDoorP21
namespace Go.Proofs.YtknjokmoommdeabDoor
open Go.RowKit
set_option linter.unusedVariables false

end Go.Proofs.YtknjokmoommdeabDoor
