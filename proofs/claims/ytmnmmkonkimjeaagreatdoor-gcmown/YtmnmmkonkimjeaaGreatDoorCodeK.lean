import Derived.Test.YtmnmmkonkimjeaaGreatDoorCBlk
namespace Go.Proofs.YtmnmmkonkimjeaaGreatDoor
open Go.RowKit
set_option linter.unusedVariables false
set_option maxRecDepth 100000

theorem underW : Tryz.prog.underlying 133 = some (.array 60 132) := by kernel_rfl
theorem sizeW : (Tryz.prog.info? 133).map (·.size) = some 240 := by kernel_rfl
theorem zeroW : (Tryz.prog.info? 133).map (·.zero) = some (some (.agg (rw8 240 fun _ => 0))) := by kernel_rfl
theorem zerok : (Tryz.prog.info? 128).map (·.zero) = some (some (.agg (rw8 240 fun _ => 0))) := by kernel_rfl
set_option maxRecDepth 100000 in
set_option maxHeartbeats 1000000 in
theorem roundKeys_ (f : Nat → Nat) (w : World) :
    Calls Tryz.prog 111 #[.agg (rw8 240 f)] w fun e w' => e = .returned (.agg (rw8 240 f)) ∧ Below w.heap.size w w' := by
  obtain ⟨A0, A1, A2, B0⟩ := rnew3 w 133 240 f 128 240 (fun _ => 0) 128 240 (fun _ => 0)
  go_enter Tryz.func111, Tryz.ntmps111
  go_wp2_with (refine wpList_al rfl _ rfl 240 (by exact zerok) ?_)
  generalize ((w.alloc (.cells (rw8 240 f) 133)).alloc (.cells (rw8 240 fun _ => 0) 128)).alloc (.cells (rw8 240 fun _ => 0) 128) = w1 at *
  go_loopw [5] (fun i wr => ∃ j : Nat, j ≤ 15 ∧ i = .int .i64 j ∧ Rw wr w.heap.size 133 240 f ∧ Rw wr (w.heap.size + 1) 128 240 (fun _ => 0) ∧ Rw wr (w.heap.size + 1 + 1) 128 240 (mix (16 * j) f fun _ => 0) ∧ Below w.heap.size w wr) (fun i _ => 15 - (intOf i).toNat)
  case atStart => exact ⟨0, by omega, rfl, A0, A1, by rw [Nat.mul_zero, mix0]; exact A2, B0⟩
  case round =>
    obtain ⟨j, hj, rfl, a0, a1, a2, b0⟩ := hrel
    clear A0 A1 A2 B0
    by_cases hlt : j < 15
    · have sr := run_arr 205 4 132 underws
      have sc := fun w' => run_cut4 133 60 132 4 underW sizew w.heap.size j (16 * j) (by omega) (by omega) w'
      have k1 := fun w => joinColumns_ (from8 (16 * j) f) w
      have s0 := b0.size
      go_wp2_with (refine wpList_ldm rfl _ _ rfl w.heap.size (16 * j) rfl _ _ 16 f (by with_reducible exact a0) (by omega) _ (by exact underws) rfl (by exact sizews) ?_)
      refine (k1 _).mono ?_
      rintro e w2 ⟨rfl, g⟩
      have a0 := a0.kept g
      have a1 := a1.kept g
      have a2 := a2.kept g
      have b0 := bel_bel b0 s0 g
      clear g k1 s0 sc sr
      go_wp2_with (refine wpList_stm rfl rfl _ _ _ rfl (w.heap.size + 1 + 1) (j * 16) rfl 16 (from8 (16 * j) f) rfl _ _ _ (by with_reducible exact a2) (by omega) (by exact size16) ?_; rw [Nat.mul_comm j 16])
      have A0 := a0.omid (g' := w.heap.size + 1 + 1) (by omega) (16 * j) (rw8 16 (from8 (16 * j) f)).toList
      have A1 := a1.omid (g' := w.heap.size + 1 + 1) (by omega) (16 * j) (rw8 16 (from8 (16 * j) f)).toList
      have A2 := a2.stepm
      have B3 : Below w.heap.size w (w2.setCells (w.heap.size + 1 + 1) (16 * j) (rw8 16 (from8 (16 * j) f)).toList) := bel_cells (by omega) _ _ _ b0
      clear a0 a1 a2 b0
      generalize w2.setCells (w.heap.size + 1 + 1) (16 * j) (rw8 16 (from8 (16 * j) f)).toList = w3 at *
      go_roundw
      case rel => exact ⟨j + 1, by omega, by go_num, A0, A1, A2, B3⟩
      case measure => simp [intOf]; omega
    · obtain rfl : j = 15 := by omega
      have a2 := a2.full
      go_wp2_with (first | (refine wpList_ldw rfl _ _ rfl _ rfl _ _ 240 _ (by with_reducible exact a2) (by omega) _ (by exact underk) rfl (by exact sizek) ?_) | (refine wpList_stm rfl rfl _ _ _ rfl (w.heap.size + 1) 0 rfl 240 f rfl _ _ _ (by with_reducible exact a1) (by omega) (by exact sizek) ?_))
      refine bodyPost_ret (v := .agg (rw8 240 f)) ?_ rfl ⟨rfl, bel_cells (by omega) _ _ _ b0⟩
      exact results_rw rfl _ _ (w.heap.size + 1) 240 f _ rfl (a1.whole _) underk rfl sizek
end Go.Proofs.YtmnmmkonkimjeaaGreatDoor
