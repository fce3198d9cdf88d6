import Derived.Test.YtaplgdkefhcbhabFirst
namespace Go.Proofs.Ytaplgdkefhcbhab
open Go.RowKit
set_option linter.unusedVariables false

set_option maxHeartbeats 1000000 in
theorem fieldInverse_ (a b : Nat) (w : World) (ha : a < 256) (hb : b < 256) :
    Calls Try.prog 4 #[.int .u8 a, .int .u8 b] w fun e w' => e = .returned (.bool true) ∧ Below w.heap.size w w' := by
  obtain ⟨hi, _, h2⟩ := inv8_ok a ha
  have k1 := fun w => inv8_ a w ha
  have k2 := fun w => inv8_ b w hb
  have k3 := fun w => inv8_ (inv8 a) w hi
  rw [h2] at k3
  have HI := hid (inv8_inj ha hb)
  clear h2 hi
  generalize inv8 a = x at *
  generalize inv8 b = y at *
  go_enter Try.func4, Try.ntmps4
  go_wp2_with fail
  refine (first_ w).mono ?_
  rintro e w1 ⟨rfl, B⟩
  go_wp2_with fail
  refine (k1 _).mono ?_
  rintro e w2 ⟨rfl, rfl⟩
  go_wp2_with fail
  refine (k2 _).mono ?_
  rintro e w3 ⟨rfl, rfl⟩
  go_wp2_with fail
  refine (k3 _).mono ?_
  rintro e w4 ⟨rfl, rfl⟩
  clear k1 k2 k3
  by_cases h : a = b
  · have e1 : ((a : Int) == (b : Int)) = true := by rw [h]; simp
    have e2 : ((x : Int) == (y : Int)) = true := by rw [HI.out.2 h]; simp
    clear h
    go_wp2_with fail
    go_ret
    exact ⟨rfl, B⟩
  · have e1 : ((a : Int) == (b : Int)) = false := by
      have : ¬ (a : Int) = (b : Int) := by omega
      simpa using this
    have e2 : ((x : Int) == (y : Int)) = false := by
      have : ¬ x = y := fun e => h (HI.out.1 e)
      have : ¬ (x : Int) = (y : Int) := by omega
      simpa using this
    clear h
    go_wp2_with fail
    go_ret
    exact ⟨rfl, B⟩
end Go.Proofs.Ytaplgdkefhcbhab
