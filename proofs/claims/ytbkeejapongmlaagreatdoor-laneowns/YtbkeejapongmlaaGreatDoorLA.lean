import Derived.Test.YtbkeejapongmlaaGreatDoorLP
namespace Go.Proofs.YtbkeejapongmlaaGreatDoor
set_option maxRecDepth 100000
open Go.RowKit
set_option linter.unusedVariables false

end Go.Proofs.YtbkeejapongmlaaGreatDoor
