import Derived.Test.YtgjamfnhkeoedaaCBase
namespace Go.Proofs.Ytgjamfnhkeoedaa
open Go.RowKit
set_option linter.unusedVariables false

theorem underw : Try.prog.underlying 77 = some (.array 4 5) := by kernel_rfl
theorem sizew : (Try.prog.info? 77).map (·.size) = some 4 := by kernel_rfl
theorem zerow : (Try.prog.info? 77).map (·.zero) = some (some (.agg (rw8 4 fun _ => 0))) := by kernel_rfl
theorem zeroa : (Try.prog.info? 44).map (·.zero) = some (some (.agg (rw8 16 fun _ => 0))) := by kernel_rfl
/-- Each byte's substitution. -/
def sb (f : Nat → Nat) : Nat → Nat := fun i => sbx (f i)
theorem sb_lt {n : Nat} {f : Nat → Nat} (h : ∀ i, i < n → f i < 256) : ∀ i, i < n → sb f i < 256 := fun i hi => sbx_lt (h i hi)
set_option maxHeartbeats 1000000 in
theorem ofWord_ (g : Nat) (f : Nat → Nat) (w : World) (hc : Bx w g) (hf : ∀ i, i < 4 → f i < 256) :
    Calls Try.prog 53 #[.pointer (some ⟨g, 0, none⟩), .agg (rw8 4 f)] w fun e w' => e = .returned (.agg (rw8 4 (sb f))) ∧ Below w.heap.size w w' := by
  have hgl := hc.lt
  obtain ⟨A0, A1, B0⟩ := rnew2 w 77 4 f 77 4 (fun _ => 0)
  go_enter Try.func53, Try.ntmps53
  go_wp2_with (first | (refine wpList_al rfl _ rfl 4 (by exact zerow) ?_) | (refine wpList_ldw rfl _ _ rfl _ rfl _ _ 4 _ (by exact A0) (by omega) _ (by exact underw) rfl (by exact sizew) ?_))
  generalize (w.alloc (.cells (rw8 4 f) 77)).alloc (.cells (rw8 4 fun _ => 0) 77) = w1 at *
  go_loopw [8] (fun i wr => ∃ j : Nat, j ≤ 4 ∧ i = .int .i64 j ∧ Rw wr w.heap.size 77 4 (mix j (sb f) f) ∧ Rw wr (w.heap.size + 1) 77 4 (fun _ => 0) ∧ Below w.heap.size w wr) (fun i _ => 4 - (intOf i).toNat)
  case atStart => exact ⟨0, by omega, rfl, by rw [mix0]; exact A0, A1, B0⟩
  case round =>
    obtain ⟨j, hj, rfl, a0, a1, b0⟩ := hrel
    clear A0 A1 B0
    by_cases hlt : j < 4
    · have c0 := a0.byte j hlt
      have f0 := a0.fz j
      have hx := hf j hlt
      have cb := (hc.keep b0 hgl).box _ hx
      have ix := fun w => run_idx8 77 4 f j w underw hlt
      have A0 := a0.step
      have A1 := a1.other (g' := w.heap.size) (by omega) j (.int .u8 (sb f j : Nat))
      have B3 : Below w.heap.size w (wr.setCell ⟨w.heap.size, j, none⟩ (.int .u8 (sb f j : Nat))) := b0.setCell (Nat.le_refl _) _
      rw [show sb f j = sbx (f j) from rfl] at A0 A1 B3
      clear a0 a1 b0
      generalize mix j (sb f) f j = o at *
      generalize sbx (f j) = y at *
      generalize f j = x at *
      generalize rw8 4 f = F at *
      go_wp2_with fail
      go_roundw
      case rel => exact ⟨j + 1, by omega, by go_num, A0, A1, B3⟩
      case measure => simp [intOf]; omega
    · obtain rfl : j = 4 := by omega
      have a0 := a0.full
      go_wp2_with (first | (refine wpList_ldw rfl _ _ rfl _ rfl _ _ 4 _ (by exact a0) (by omega) _ (by exact underw) rfl (by exact sizew) ?_) | (refine wpList_stm rfl rfl _ _ _ rfl (w.heap.size + 1) 0 rfl 4 (sb f) rfl _ _ _ (by exact a1) (by omega) (by exact sizew) ?_))
      refine bodyPost_ret (v := .agg (rw8 4 (sb f))) ?_ rfl ⟨rfl, bel_cells (by omega) _ _ _ b0⟩
      exact results_rw rfl _ _ (w.heap.size + 1) 4 (sb f) _ rfl (a1.whole _) underw rfl sizew
set_option maxHeartbeats 1000000 in
theorem ofBlock_ (g : Nat) (f : Nat → Nat) (w : World) (hc : Bx w g) (hf : ∀ i, i < 16 → f i < 256) :
    Calls Try.prog 42 #[.pointer (some ⟨g, 0, none⟩), .agg (rw8 16 f)] w fun e w' => e = .returned (.agg (rw8 16 (sb f))) ∧ Below w.heap.size w w' := by
  have hgl := hc.lt
  obtain ⟨A0, A1, B0⟩ := rnew2 w 44 16 f 44 16 (fun _ => 0)
  go_enter Try.func42, Try.ntmps42
  go_wp2_with (first | (refine wpList_al rfl _ rfl 16 (by exact zeroa) ?_) | (refine wpList_ldw rfl _ _ rfl _ rfl _ _ 16 _ (by exact A0) (by omega) _ (by exact under16) rfl (by exact size16) ?_))
  generalize (w.alloc (.cells (rw8 16 f) 44)).alloc (.cells (rw8 16 fun _ => 0) 44) = w1 at *
  go_loopw [8] (fun i wr => ∃ j : Nat, j ≤ 16 ∧ i = .int .i64 j ∧ Rw wr w.heap.size 44 16 (mix j (sb f) f) ∧ Rw wr (w.heap.size + 1) 44 16 (fun _ => 0) ∧ Below w.heap.size w wr) (fun i _ => 16 - (intOf i).toNat)
  case atStart => exact ⟨0, by omega, rfl, by rw [mix0]; exact A0, A1, B0⟩
  case round =>
    obtain ⟨j, hj, rfl, a0, a1, b0⟩ := hrel
    clear A0 A1 B0
    by_cases hlt : j < 16
    · have c0 := a0.byte j hlt
      have f0 := a0.fz j
      have hx := hf j hlt
      have cb := (hc.keep b0 hgl).box _ hx
      have ix := fun w => run_idx8 44 16 f j w under16 hlt
      have A0 := a0.step
      have A1 := a1.other (g' := w.heap.size) (by omega) j (.int .u8 (sb f j : Nat))
      have B3 : Below w.heap.size w (wr.setCell ⟨w.heap.size, j, none⟩ (.int .u8 (sb f j : Nat))) := b0.setCell (Nat.le_refl _) _
      rw [show sb f j = sbx (f j) from rfl] at A0 A1 B3
      clear a0 a1 b0
      generalize mix j (sb f) f j = o at *
      generalize sbx (f j) = y at *
      generalize f j = x at *
      generalize rw8 16 f = F at *
      go_wp2_with fail
      go_roundw
      case rel => exact ⟨j + 1, by omega, by go_num, A0, A1, B3⟩
      case measure => simp [intOf]; omega
    · obtain rfl : j = 16 := by omega
      have a0 := a0.full
      go_wp2_with (first | (refine wpList_ldw rfl _ _ rfl _ rfl _ _ 16 _ (by exact a0) (by omega) _ (by exact under16) rfl (by exact size16) ?_) | (refine wpList_stm rfl rfl _ _ _ rfl (w.heap.size + 1) 0 rfl 16 (sb f) rfl _ _ _ (by exact a1) (by omega) (by exact size16) ?_))
      refine bodyPost_ret (v := .agg (rw8 16 (sb f))) ?_ rfl ⟨rfl, bel_cells (by omega) _ _ _ b0⟩
      exact results_rw rfl _ _ (w.heap.size + 1) 16 (sb f) _ rfl (a1.whole _) under16 rfl size16
def xr (f g : Nat → Nat) : Nat → Nat := fun i => f i ^^^ g i
theorem xr_lt {n : Nat} {f g : Nat → Nat} (h : ∀ i, i < n → f i < 256) (h' : ∀ i, i < n → g i < 256) : ∀ i, i < n → xr f g i < 256 := fun i hi => xor_lt8 (h i hi) (h' i hi)
set_option maxHeartbeats 1000000 in
theorem xorWords_ (f v : Nat → Nat) (w : World) (hf : ∀ i, i < 4 → f i < 256) (hv : ∀ i, i < 4 → v i < 256) :
    Calls Try.prog 55 #[.agg (rw8 4 f), .agg (rw8 4 v)] w fun e w' => e = .returned (.agg (rw8 4 (xr f v))) ∧ Below w.heap.size w w' := by
  obtain ⟨A0, A1, A2, B0⟩ := rnew3 w 77 4 f 77 4 v 77 4 (fun _ => 0)
  go_enter Try.func55, Try.ntmps55
  go_wp2_with (first | (refine wpList_al rfl _ rfl 4 (by exact zerow) ?_) | (refine wpList_ldw rfl _ _ rfl _ rfl _ _ 4 _ (by exact A1) (by omega) _ (by exact underw) rfl (by exact sizew) ?_))
  generalize ((w.alloc (.cells (rw8 4 f) 77)).alloc (.cells (rw8 4 v) 77)).alloc (.cells (rw8 4 fun _ => 0) 77) = w1 at *
  go_loopw [8] (fun i wr => ∃ j : Nat, j ≤ 4 ∧ i = .int .i64 j ∧ Rw wr w.heap.size 77 4 (mix j (xr f v) f) ∧ Rw wr (w.heap.size + 1 + 1) 77 4 (fun _ => 0) ∧ Below w.heap.size w wr) (fun i _ => 4 - (intOf i).toNat)
  case atStart => exact ⟨0, by omega, rfl, by rw [mix0]; exact A0, A2, B0⟩
  case round =>
    obtain ⟨j, hj, rfl, a0, a2, b0⟩ := hrel
    clear A0 A1 A2 B0
    by_cases hlt : j < 4
    · have c0 := a0.byte j hlt
      rw [mix_at] at c0
      have f0 := a0.fz j
      have ix := fun w => run_idx8 77 4 v j w underw hlt
      have HX : Hid (bits .xor .u8 (f j : Int) (v j : Int) = ((xr f v j : Nat) : Int)) := u8x (hf j hlt) (hv j hlt)
      have A0 := a0.step
      have A2 := a2.other (g' := w.heap.size) (by omega) j (.int .u8 (xr f v j : Nat))
      have B3 : Below w.heap.size w (wr.setCell ⟨w.heap.size, j, none⟩ (.int .u8 (xr f v j : Nat))) := b0.setCell (Nat.le_refl _) _
      rw [← HX.out] at A0 A2 B3
      clear a0 a2 b0 HX
      generalize f j = x at *
      generalize v j = y at *
      generalize rw8 4 v = V at *
      go_wp2_with fail
      go_roundw
      case rel => exact ⟨j + 1, by omega, by go_num, A0, A2, B3⟩
      case measure => simp [intOf]; omega
    · obtain rfl : j = 4 := by omega
      have a0 := a0.full
      go_wp2_with (first | (refine wpList_ldw rfl _ _ rfl _ rfl _ _ 4 _ (by exact a0) (by omega) _ (by exact underw) rfl (by exact sizew) ?_) | (refine wpList_stm rfl rfl _ _ _ rfl (w.heap.size + 1 + 1) 0 rfl 4 (xr f v) rfl _ _ _ (by exact a2) (by omega) (by exact sizew) ?_))
      refine bodyPost_ret (v := .agg (rw8 4 (xr f v))) ?_ rfl ⟨rfl, bel_cells (by omega) _ _ _ b0⟩
      exact results_rw rfl _ _ (w.heap.size + 1 + 1) 4 (xr f v) _ rfl (a2.whole _) underw rfl sizew
set_option maxHeartbeats 1000000 in
theorem xor16_ (f v : Nat → Nat) (w : World) (hf : ∀ i, i < 16 → f i < 256) (hv : ∀ i, i < 16 → v i < 256) :
    Calls Try.prog 26 #[.agg (rw8 16 f), .agg (rw8 16 v)] w fun e w' => e = .returned (.agg (rw8 16 (xr f v))) ∧ Below w.heap.size w w' := by
  obtain ⟨A0, A1, A2, B0⟩ := rnew3 w 44 16 f 44 16 v 44 16 (fun _ => 0)
  go_enter Try.func26, Try.ntmps26
  go_wp2_with (refine wpList_al rfl _ rfl 16 (by exact zeroa) ?_)
  generalize ((w.alloc (.cells (rw8 16 f) 44)).alloc (.cells (rw8 16 v) 44)).alloc (.cells (rw8 16 fun _ => 0) 44) = w1 at *
  go_loopw [6] (fun i wr => ∃ j : Nat, j ≤ 16 ∧ i = .int .i64 j ∧ Rw wr w.heap.size 44 16 (mix j (xr f v) f) ∧ Rw wr (w.heap.size + 1) 44 16 v ∧ Rw wr (w.heap.size + 1 + 1) 44 16 (fun _ => 0) ∧ Below w.heap.size w wr) (fun i _ => 16 - (intOf i).toNat)
  case atStart => exact ⟨0, by omega, rfl, by rw [mix0]; exact A0, A1, A2, B0⟩
  case round =>
    obtain ⟨j, hj, rfl, a0, a1, a2, b0⟩ := hrel
    clear A0 A1 A2 B0
    by_cases hlt : j < 16
    · have c0 := a0.byte j hlt
      rw [mix_at] at c0
      have c1 := a1.byte j hlt
      have f0 := a0.fz j
      have HX : Hid (bits .xor .u8 (f j : Int) (v j : Int) = ((xr f v j : Nat) : Int)) := u8x (hf j hlt) (hv j hlt)
      have A0 := a0.step
      have A1 := a1.other (g' := w.heap.size) (by omega) j (.int .u8 (xr f v j : Nat))
      have A2 := a2.other (g' := w.heap.size) (by omega) j (.int .u8 (xr f v j : Nat))
      have B3 : Below w.heap.size w (wr.setCell ⟨w.heap.size, j, none⟩ (.int .u8 (xr f v j : Nat))) := b0.setCell (Nat.le_refl _) _
      clear a0 a1 a2 b0
      generalize f j = x at *
      generalize v j = y at *
      go_wp2_with fail
      go_region
      rw [HX.out]
      clear c0 c1 f0 HX
      go_wp2_with fail
      go_roundw
      case rel => exact ⟨j + 1, by omega, by go_num, A0, A1, A2, bel_drawn B3 1⟩
      case measure => simp [intOf]; omega
    · obtain rfl : j = 16 := by omega
      have a0 := a0.full
      go_wp2_with (first | (refine wpList_ldw rfl _ _ rfl _ rfl _ _ 16 _ (by exact a0) (by omega) _ (by exact under16) rfl (by exact size16) ?_) | (refine wpList_stm rfl rfl _ _ _ rfl (w.heap.size + 1 + 1) 0 rfl 16 (xr f v) rfl _ _ _ (by exact a2) (by omega) (by exact size16) ?_))
      refine bodyPost_ret (v := .agg (rw8 16 (xr f v))) ?_ rfl ⟨rfl, bel_cells (by omega) _ _ _ b0⟩
      exact results_rw rfl _ _ (w.heap.size + 1 + 1) 16 (xr f v) _ rfl (a2.whole _) under16 rfl size16
/-- The rows turned. -/
def tr (f : Nat → Nat) : Nat → Nat := fun i => f ((i + 4 * (i % 4)) % 16)
theorem tr_sb (f : Nat → Nat) : ∀ i, i < 16 → tr (sb f) i = tn f i := fun i hi => by
  unfold tr sb tn
  rw [show (i + 4 * (i % 4)) % 16 = 4 * ((i / 4 + i % 4) % 4) + i % 4 from by omega]
set_option maxHeartbeats 1000000 in
theorem turnRows_ (f : Nat → Nat) (w : World) :
    Calls Try.prog 41 #[.agg (rw8 16 f)] w fun e w' => e = .returned (.agg (rw8 16 (tr f))) ∧ Below w.heap.size w w' := by
  obtain ⟨A0, A1, A2, B0⟩ := rnew3 w 44 16 f 44 16 (fun _ => 0) 44 16 (fun _ => 0)
  go_enter Try.func41, Try.ntmps41
  go_wp2_with (refine wpList_al rfl _ rfl 16 (by exact zeroa) ?_)
  generalize ((w.alloc (.cells (rw8 16 f) 44)).alloc (.cells (rw8 16 fun _ => 0) 44)).alloc (.cells (rw8 16 fun _ => 0) 44) = w1 at *
  go_loopw [6] (fun i wr => ∃ j : Nat, j ≤ 16 ∧ i = .int .i64 j ∧ Rw wr w.heap.size 44 16 f ∧ Rw wr (w.heap.size + 1) 44 16 (fun _ => 0) ∧ Rw wr (w.heap.size + 1 + 1) 44 16 (mix j (tr f) fun _ => 0) ∧ Below w.heap.size w wr) (fun i _ => 16 - (intOf i).toNat)
  case atStart => exact ⟨0, by omega, rfl, A0, A1, by rw [mix0]; exact A2, B0⟩
  case round =>
    obtain ⟨j, hj, rfl, a0, a1, a2, b0⟩ := hrel
    clear A0 A1 A2 B0
    by_cases hlt : j < 16
    · have c0 := a0.byte ((j + 4 * (j % 4)) % 16) (by omega)
      have c2 := a2.byte j hlt
      have f0 := a2.fz j
      have A0 := a0.other (g' := w.heap.size + 1 + 1) (by omega) j (.int .u8 (tr f j : Nat))
      have A1 := a1.other (g' := w.heap.size + 1 + 1) (by omega) j (.int .u8 (tr f j : Nat))
      have A2 := a2.step
      have B3 : Below w.heap.size w (wr.setCell ⟨w.heap.size + 1 + 1, j, none⟩ (.int .u8 (tr f j : Nat))) := b0.setCell (by show _ ≤ w.heap.size + 1 + 1; omega) _
      rw [show f ((j + 4 * (j % 4)) % 16) = tr f j from rfl] at c0
      clear a0 a1 a2 b0
      generalize tr f j = x at *
      generalize mix j (tr f) (fun _ => 0) j = o at *
      go_wp2_with fail
      go_roundw
      case rel => exact ⟨j + 1, by omega, by go_num, A0, A1, A2, B3⟩
      case measure => simp [intOf]; omega
    · obtain rfl : j = 16 := by omega
      have a2 := a2.full
      go_wp2_with (first | (refine wpList_ldw rfl _ _ rfl _ rfl _ _ 16 _ (by exact a2) (by omega) _ (by exact under16) rfl (by exact size16) ?_) | (refine wpList_stm rfl rfl _ _ _ rfl (w.heap.size + 1) 0 rfl 16 (tr f) rfl _ _ _ (by exact a1) (by omega) (by exact size16) ?_))
      refine bodyPost_ret (v := .agg (rw8 16 (tr f))) ?_ rfl ⟨rfl, bel_cells (by omega) _ _ _ b0⟩
      exact results_rw rfl _ _ (w.heap.size + 1) 16 (tr f) _ rfl (a1.whole _) under16 rfl size16
end Go.Proofs.Ytgjamfnhkeoedaa
