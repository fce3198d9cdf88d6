import Derived.Test.YtejokaehdfcjlaaGreatDoorBClone
namespace Go.Proofs.YtejokaehdfcjlaaGreatDoor
set_option maxRecDepth 100000
open Go.RowKit
set_option linter.unusedVariables false

end Go.Proofs.YtejokaehdfcjlaaGreatDoor
