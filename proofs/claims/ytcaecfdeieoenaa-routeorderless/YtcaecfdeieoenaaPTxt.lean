import Derived.Test.YtcaecfdeieoenaaPMath
import Derived.WideShapes
import Derived.Laws.ResultCell
import Derived.Laws.Bits64b
import Derived.Test.YtcaecfdeieoenaaABytes
namespace Go.Proofs.Ytcaecfdeieoenaa
open Go.RowKit
set_option linter.unusedVariables false
/-- The numbers of an int. -/
def InI (x : Int) : Prop := -9223372036854775808 ≤ x ∧ x ≤ 9223372036854775807
end Go.Proofs.Ytcaecfdeieoenaa
