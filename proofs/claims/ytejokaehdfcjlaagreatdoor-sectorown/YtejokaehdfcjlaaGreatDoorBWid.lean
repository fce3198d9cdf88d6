import Derived.Test.YtejokaehdfcjlaaGreatDoorBMath
import Derived.WalkKit
import Derived.WalkSpells
import Derived.WalkLawsBesides
namespace Go.Proofs.YtejokaehdfcjlaaGreatDoor
set_option maxRecDepth 100000
open Go.RowKit

set_option maxHeartbeats 400000 in
theorem width16 (w : World) : Calls Tryz.prog 97 #[] w fun e w' => e = .returned (.int .i64 2) ∧ w' = w := by
  go_enter Tryz.func97, Tryz.ntmps97
  go_wp2
  go_loop [1, 2] (fun n r => ∃ k : Nat, k ≤ 2 ∧ n = .int .i64 (2 - k) ∧ r = .int .u64 (ones k)) (fun n _ => 2 - (intOf n).toNat)
  case atStart => exact ⟨2, by omega, rfl, congrArg (Value.int .u64) (by decide +kernel)⟩
  case round =>
    obtain ⟨k, hk, rfl, rfl⟩ := hrel
    cases k with
    | zero =>
      have h := ones_no
      go_wp2
      go_ret
      exact ⟨rfl, rfl⟩
    | succ k =>
      have h := ones_ne k
      go_wp2
      go_round
      case rel => exact ⟨k, by omega, by go_num, by rw [ones_shift]⟩
      case measure => simp [intOf]; omega

set_option maxHeartbeats 400000 in
theorem width32 (w : World) : Calls Tryz.prog 96 #[] w fun e w' => e = .returned (.int .i64 4) ∧ w' = w := by
  go_enter Tryz.func96, Tryz.ntmps96
  go_wp2
  go_loop [1, 2] (fun n r => ∃ k : Nat, k ≤ 4 ∧ n = .int .i64 (4 - k) ∧ r = .int .u64 (ones k)) (fun n _ => 4 - (intOf n).toNat)
  case atStart => exact ⟨4, by omega, rfl, congrArg (Value.int .u64) (by decide +kernel)⟩
  case round =>
    obtain ⟨k, hk, rfl, rfl⟩ := hrel
    cases k with
    | zero =>
      have h := ones_no
      go_wp2
      go_ret
      exact ⟨rfl, rfl⟩
    | succ k =>
      have h := ones_ne k
      go_wp2
      go_round
      case rel => exact ⟨k, by omega, by go_num, by rw [ones_shift]⟩
      case measure => simp [intOf]; omega

set_option maxHeartbeats 400000 in
theorem width64 (w : World) : Calls Tryz.prog 95 #[] w fun e w' => e = .returned (.int .i64 8) ∧ w' = w := by
  go_enter Tryz.func95, Tryz.ntmps95
  go_wp2
  go_loop [1, 2] (fun n r => ∃ k : Nat, k ≤ 8 ∧ n = .int .i64 (8 - k) ∧ r = .int .u64 (ones k)) (fun n _ => 8 - (intOf n).toNat)
  case atStart => exact ⟨8, by omega, rfl, congrArg (Value.int .u64) (by decide +kernel)⟩
  case round =>
    obtain ⟨k, hk, rfl, rfl⟩ := hrel
    cases k with
    | zero =>
      have h := ones_no
      go_wp2
      go_ret
      exact ⟨rfl, rfl⟩
    | succ k =>
      have h := ones_ne k
      go_wp2
      go_round
      case rel => exact ⟨k, by omega, by go_num, by rw [ones_shift]⟩
      case measure => simp [intOf]; omega


end Go.Proofs.YtejokaehdfcjlaaGreatDoor
