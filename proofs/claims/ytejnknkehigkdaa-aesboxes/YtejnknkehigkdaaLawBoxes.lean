import Derived.Test.YtejnknkehigkdaaFirst
import Derived.Test.YtejnknkehigkdaaRefS
namespace Go.Proofs.Ytejnknkehigkdaa
open Go.RowKit
set_option linter.unusedVariables false

set_option maxHeartbeats 1000000 in
theorem aesBoxes_ (x : Nat) (w : World) (hx : x < 256) :
    Calls Try.prog 3 #[.int .u8 x] w fun e w' => e = .returned (.bool true) ∧ Below w.heap.size w w' := by
  have k1 := fun w => sbox_ x w hx
  have k2 := fun w => refSBox_ x w hx
  generalize sbx x = m at *
  go_enter Try.func3, Try.ntmps3
  go_wp2_with fail
  refine (k1 _).mono ?_
  rintro e w1 ⟨rfl, B0⟩
  have S0 := B0.size
  go_wp2_with fail
  refine (k2 _).mono ?_
  rintro e w2 ⟨rfl, rfl⟩
  go_wp2_with fail
  refine (first_ _).mono ?_
  rintro e w3 ⟨rfl, g⟩
  have B0 := bel_bel B0 S0 g
  clear k1 k2 g S0
  go_wp2_with fail
  go_ret
  exact ⟨rfl, B0⟩
end Go.Proofs.Ytejnknkehigkdaa
