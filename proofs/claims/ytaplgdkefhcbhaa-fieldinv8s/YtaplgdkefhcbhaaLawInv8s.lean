import Derived.Test.YtaplgdkefhcbhaaFirst
import Derived.Test.YtaplgdkefhcbhaaRefE
namespace Go.Proofs.Ytaplgdkefhcbhaa
open Go.RowKit
set_option linter.unusedVariables false

set_option maxHeartbeats 1000000 in
theorem fieldInv8s_ (a : Nat) (w : World) (ha : a < 256) :
    Calls Try.prog 4 #[.int .u8 a] w fun e w' => e = .returned (.bool true) ∧ Below w.heap.size w w' := by
  obtain ⟨hi, h1, _⟩ := inv8_ok a ha
  have k1 := fun w => inv8_ a w ha
  have k2 := fun w => refInv8_ a w ha
  have k3 := fun w => mul8_ a (inv8 a) w ha hi
  by_cases h0 : a = 0
  · subst h0
    rw [zero_mul8] at k3
    rw [inv8_zero] at k1 k2 k3
    clear hi h1
    go_enter Try.func4, Try.ntmps4
    go_wp2_with fail
    refine (k1 _).mono ?_
    rintro e w1 ⟨rfl, rfl⟩
    go_wp2_with fail
    refine (k2 _).mono ?_
    rintro e w2 ⟨rfl, rfl⟩
    go_wp2_with fail
    refine (k3 _).mono ?_
    rintro e w3 ⟨rfl, rfl⟩
    go_wp2_with fail
    refine (first_ _).mono ?_
    rintro e w4 ⟨rfl, B⟩
    clear k1 k2 k3
    go_wp2_with fail
    go_ret
    exact ⟨rfl, B⟩
  · rw [h1 h0] at k3
    clear h1 h0 hi
    generalize inv8 a = x at *
    go_enter Try.func4, Try.ntmps4
    go_wp2_with fail
    refine (k1 _).mono ?_
    rintro e w1 ⟨rfl, rfl⟩
    go_wp2_with fail
    refine (k2 _).mono ?_
    rintro e w2 ⟨rfl, rfl⟩
    go_wp2_with fail
    refine (k3 _).mono ?_
    rintro e w3 ⟨rfl, rfl⟩
    go_wp2_with fail
    refine (first_ _).mono ?_
    rintro e w4 ⟨rfl, B⟩
    clear k1 k2 k3
    go_wp2_with fail
    go_ret
    exact ⟨rfl, B⟩
end Go.Proofs.Ytaplgdkefhcbhaa
