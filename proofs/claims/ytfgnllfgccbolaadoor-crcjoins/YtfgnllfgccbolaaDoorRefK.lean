import Derived.Test.YtfgnllfgccbolaaDoorRefJ
namespace Go.Proofs.YtfgnllfgccbolaaDoor
open Go.RowKit
set_option linter.unusedVariables false

set_option maxHeartbeats 1000000 in
theorem refJoin_neg (a b : Nat) (n : Int) (w : World) (hn : n < 0) :
    Calls Tryd.prog 17 #[.int .u32 a, .int .u32 b, .int .i64 n] w fun e w' => e = .returned (.int .u32 0) ∧ Below w.heap.size w w' := by
  go_enter Tryd.func17, Tryd.ntmps17
  go_wp2_with fail
  go_ret
  exact ⟨rfl, Below.refl _ _⟩

theorem ref_steps (n a : Nat) (ha : a < 4294967296) : stps (n % 2147483647 * 8 % 2147483647) a = stps (8 * n) a := by
  rw [← stps_mod (8 * n) ha]
  congr 1
  rw [Nat.mod_mul_mod, Nat.mul_comm]

set_option maxHeartbeats 1000000 in
theorem refJoin_ (a b n : Nat) (w : World) (ha : a < 4294967296) (hb : b < 4294967296) (hn : n < 9223372036854775808) :
    Calls Tryd.prog 17 #[.int .u32 a, .int .u32 b, .int .i64 n] w fun e w' => e = .returned (.int .u32 (stps (8 * n) a ^^^ b : Nat)) ∧ Below w.heap.size w w' := by
  have h0 : ¬ (n : Int) < 0 := by omega
  go_enter Tryd.func17, Tryd.ntmps17
  go_wp2_with fail
  rw [show (n : Int) % 2147483647 * 8 % 2147483647 = ((n % 2147483647 * 8 % 2147483647 : Nat) : Int) from by omega]
  refine (refSteps_ a (n % 2147483647 * 8 % 2147483647) _ ha (by omega)).mono ?_
  rintro e w1 ⟨rfl, b1⟩
  rw [ref_steps n a ha]
  have ex := u32_xor_nat (stps (8 * n) a) b (stps_lt _ ha) hb
  generalize ((n % 2147483647 * 8 % 2147483647 : Nat) : Int) = junk
  go_wp2_with fail
  go_ret
  exact ⟨rfl, b1⟩
end Go.Proofs.YtfgnllfgccbolaaDoor
