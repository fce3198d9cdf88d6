import Derived.Test.YtmbopaemnlikkaaLP
namespace Go.Proofs.Ytmbopaemnlikkaa
set_option maxRecDepth 100000
open Go.RowKit
set_option linter.unusedVariables false

end Go.Proofs.Ytmbopaemnlikkaa
