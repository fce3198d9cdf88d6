import Derived.Test.YtlepbncaicpmjaaRJ
namespace Go.Proofs.Ytlepbncaicpmjaa
set_option maxRecDepth 100000
open Go.RowKit
set_option linter.unusedVariables false

end Go.Proofs.Ytlepbncaicpmjaa
namespace Go.Proofs.Ytlepbncaicpmjaa
set_option maxRecDepth 100000
open Go.RowKit
set_option linter.unusedVariables false

theorem sizerw : (Try.prog.info? 38).map (·.size) = some 2 := by kernel_rfl
end Go.Proofs.Ytlepbncaicpmjaa
