import Derived.Test.YtaplgdkefhcbhaaFirst
import Derived.Test.YtaplgdkefhcbhaaRefE
namespace Go.Proofs.Ytaplgdkefhcbhaa
open Go.RowKit
set_option linter.unusedVariables false

set_option maxHeartbeats 1000000 in
theorem fieldMul8s_ (a b : Nat) (w : World) (ha : a < 256) (hb : b < 256) :
    Calls Try.prog 3 #[.int .u8 a, .int .u8 b] w fun e w' => e = .returned (.bool true) ∧ Below w.heap.size w w' := by
  have k1 := fun w => mul8_ a b w ha hb
  have k2 := fun w => refMul8_ a b w ha hb
  generalize mul8 a b = m at *
  go_enter Try.func3, Try.ntmps3
  go_wp2_with fail
  refine (k1 _).mono ?_
  rintro e w1 ⟨rfl, rfl⟩
  go_wp2_with fail
  refine (k2 _).mono ?_
  rintro e w2 ⟨rfl, rfl⟩
  go_wp2_with fail
  refine (first_ _).mono ?_
  rintro e w3 ⟨rfl, B⟩
  clear k1 k2
  go_wp2_with fail
  go_ret
  exact ⟨rfl, B⟩
end Go.Proofs.Ytaplgdkefhcbhaa
