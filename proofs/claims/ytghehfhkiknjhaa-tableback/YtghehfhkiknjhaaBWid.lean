import Derived.Test.YtghehfhkiknjhaaBMath
import Derived.WalkKit
import Derived.WalkSpells
import Derived.WalkLawsBesides
namespace Go.Proofs.Ytghehfhkiknjhaa
set_option maxRecDepth 100000
open Go.RowKit

set_option maxHeartbeats 400000 in
theorem width8 (w : World) : Calls Try.prog 79 #[] w fun e w' => e = .returned (.int .i64 1) ∧ w' = w := by
  go_enter Try.func79, Try.ntmps79
  go_wp2
  go_loop [1, 2] (fun n r => ∃ k : Nat, k ≤ 1 ∧ n = .int .i64 (1 - k) ∧ r = .int .u64 (ones k)) (fun n _ => 1 - (intOf n).toNat)
  case atStart => exact ⟨1, by omega, rfl, congrArg (Value.int .u64) (by decide +kernel)⟩
  case round =>
    obtain ⟨k, hk, rfl, rfl⟩ := hrel
    cases k with
    | zero =>
      have h := ones_no
      go_wp2
      go_ret
      exact ⟨rfl, rfl⟩
    | succ k =>
      have h := ones_ne k
      go_wp2
      go_round
      case rel => exact ⟨k, by omega, by go_num, by rw [ones_shift]⟩
      case measure => simp [intOf]; omega

set_option maxHeartbeats 400000 in
theorem width16 (w : World) : Calls Try.prog 80 #[] w fun e w' => e = .returned (.int .i64 2) ∧ w' = w := by
  go_enter Try.func80, Try.ntmps80
  go_wp2
  go_loop [1, 2] (fun n r => ∃ k : Nat, k ≤ 2 ∧ n = .int .i64 (2 - k) ∧ r = .int .u64 (ones k)) (fun n _ => 2 - (intOf n).toNat)
  case atStart => exact ⟨2, by omega, rfl, congrArg (Value.int .u64) (by decide +kernel)⟩
  case round =>
    obtain ⟨k, hk, rfl, rfl⟩ := hrel
    cases k with
    | zero =>
      have h := ones_no
      go_wp2
      go_ret
      exact ⟨rfl, rfl⟩
    | succ k =>
      have h := ones_ne k
      go_wp2
      go_round
      case rel => exact ⟨k, by omega, by go_num, by rw [ones_shift]⟩
      case measure => simp [intOf]; omega


end Go.Proofs.Ytghehfhkiknjhaa
