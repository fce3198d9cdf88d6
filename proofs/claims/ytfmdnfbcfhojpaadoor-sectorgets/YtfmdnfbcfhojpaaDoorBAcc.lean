import Derived.Test.YtfmdnfbcfhojpaaDoorBClone
namespace Go.Proofs.YtfmdnfbcfhojpaaDoor
set_option maxRecDepth 100000
open Go.RowKit
set_option linter.unusedVariables false

end Go.Proofs.YtfmdnfbcfhojpaaDoor
