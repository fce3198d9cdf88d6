import Derived.Test.YtfmdnfbcfhojpabDoorBClone
namespace Go.Proofs.YtfmdnfbcfhojpabDoor
set_option maxRecDepth 100000
open Go.RowKit
set_option linter.unusedVariables false

end Go.Proofs.YtfmdnfbcfhojpabDoor
