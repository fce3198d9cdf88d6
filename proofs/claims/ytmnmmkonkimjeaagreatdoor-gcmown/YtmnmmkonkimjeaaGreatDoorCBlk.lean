import Derived.Test.YtmnmmkonkimjeaaGreatDoorCBase
import Derived.Deep.RegionLaw
import Derived.Deep.RegionHeld
namespace Go.Proofs.YtmnmmkonkimjeaaGreatDoor
open Go.RowKit
set_option linter.unusedVariables false
set_option maxRecDepth 100000

theorem underw : Tryz.prog.underlying 132 = some (.array 4 5) := by kernel_rfl
theorem sizew : (Tryz.prog.info? 132).map (·.size) = some 4 := by kernel_rfl
theorem zerow : (Tryz.prog.info? 132).map (·.zero) = some (some (.agg (rw8 4 fun _ => 0))) := by kernel_rfl
theorem zeroa : (Tryz.prog.info? 63).map (·.zero) = some (some (.agg (rw8 16 fun _ => 0))) := by kernel_rfl
/-- Each byte's substitution. -/
def sb (f : Nat → Nat) : Nat → Nat := fun i => sbx (f i)
theorem sb_lt {n : Nat} {f : Nat → Nat} (h : ∀ i, i < n → f i < 256) : ∀ i, i < n → sb f i < 256 := fun i hi => sbx_lt (h i hi)
set_option maxHeartbeats 1000000 in
theorem ofWord_ (g : Nat) (f : Nat → Nat) (w : World) (hc : Bx w g) (hf : ∀ i, i < 4 → f i < 256) :
    Calls Tryz.prog 163 #[.pointer (some ⟨g, 0, none⟩), .agg (rw8 4 f)] w fun e w' => e = .returned (.agg (rw8 4 (sb f))) ∧ Below w.heap.size w w' := by
  have hgl := hc.lt
  obtain ⟨A0, A1, B0⟩ := rnew2 w 132 4 f 132 4 (fun _ => 0)
  go_enter Tryz.func163, Tryz.ntmps163
  go_wp2_with (first | (refine wpList_al rfl _ rfl 4 (by exact zerow) ?_) | (refine wpList_ldw rfl _ _ rfl _ rfl _ _ 4 _ (by exact A0) (by omega) _ (by exact underw) rfl (by exact sizew) ?_))
  generalize (w.alloc (.cells (rw8 4 f) 132)).alloc (.cells (rw8 4 fun _ => 0) 132) = w1 at *
  go_loopw [8] (fun i wr => ∃ j : Nat, j ≤ 4 ∧ i = .int .i64 j ∧ Rw wr w.heap.size 132 4 (mix j (sb f) f) ∧ Rw wr (w.heap.size + 1) 132 4 (fun _ => 0) ∧ Below w.heap.size w wr) (fun i _ => 4 - (intOf i).toNat)
  case atStart => exact ⟨0, by omega, rfl, by rw [mix0]; exact A0, A1, B0⟩
  case round =>
    obtain ⟨j, hj, rfl, a0, a1, b0⟩ := hrel
    clear A0 A1 B0
    by_cases hlt : j < 4
    · have c0 := a0.byte j hlt
      have f0 := a0.fz j
      have hx := hf j hlt
      have cb := (hc.keep b0 hgl).box _ hx
      have ix := fun w => run_idx8 132 4 f j w underw hlt
      have A0 := a0.step
      have A1 := a1.other (g' := w.heap.size) (by omega) j (.int .u8 (sb f j : Nat))
      have B3 : Below w.heap.size w (wr.setCell ⟨w.heap.size, j, none⟩ (.int .u8 (sb f j : Nat))) := b0.setCell (Nat.le_refl _) _
      rw [show sb f j = sbx (f j) from rfl] at A0 A1 B3
      clear a0 a1 b0
      generalize mix j (sb f) f j = o at *
      generalize sbx (f j) = y at *
      generalize f j = x at *
      generalize rw8 4 f = F at *
      go_wp2_with fail
      go_roundw
      case rel => exact ⟨j + 1, by omega, by go_num, A0, A1, B3⟩
      case measure => simp [intOf]; omega
    · obtain rfl : j = 4 := by omega
      have a0 := a0.full
      go_wp2_with (first | (refine wpList_ldw rfl _ _ rfl _ rfl _ _ 4 _ (by exact a0) (by omega) _ (by exact underw) rfl (by exact sizew) ?_) | (refine wpList_stm rfl rfl _ _ _ rfl (w.heap.size + 1) 0 rfl 4 (sb f) rfl _ _ _ (by exact a1) (by omega) (by exact sizew) ?_))
      refine bodyPost_ret (v := .agg (rw8 4 (sb f))) ?_ rfl ⟨rfl, bel_cells (by omega) _ _ _ b0⟩
      exact results_rw rfl _ _ (w.heap.size + 1) 4 (sb f) _ rfl (a1.whole _) underw rfl sizew
set_option maxHeartbeats 1000000 in
theorem ofBlock_ (g : Nat) (f : Nat → Nat) (w : World) (hc : Bx w g) (hf : ∀ i, i < 16 → f i < 256) :
    Calls Tryz.prog 115 #[.pointer (some ⟨g, 0, none⟩), .agg (rw8 16 f)] w fun e w' => e = .returned (.agg (rw8 16 (sb f))) ∧ Below w.heap.size w w' := by
  have hgl := hc.lt
  obtain ⟨A0, A1, B0⟩ := rnew2 w 63 16 f 63 16 (fun _ => 0)
  go_enter Tryz.func115, Tryz.ntmps115
  go_wp2_with (first | (refine wpList_al rfl _ rfl 16 (by exact zeroa) ?_) | (refine wpList_ldw rfl _ _ rfl _ rfl _ _ 16 _ (by exact A0) (by omega) _ (by exact under16) rfl (by exact size16) ?_))
  generalize (w.alloc (.cells (rw8 16 f) 63)).alloc (.cells (rw8 16 fun _ => 0) 63) = w1 at *
  go_loopw [8] (fun i wr => ∃ j : Nat, j ≤ 16 ∧ i = .int .i64 j ∧ Rw wr w.heap.size 63 16 (mix j (sb f) f) ∧ Rw wr (w.heap.size + 1) 63 16 (fun _ => 0) ∧ Below w.heap.size w wr) (fun i _ => 16 - (intOf i).toNat)
  case atStart => exact ⟨0, by omega, rfl, by rw [mix0]; exact A0, A1, B0⟩
  case round =>
    obtain ⟨j, hj, rfl, a0, a1, b0⟩ := hrel
    clear A0 A1 B0
    by_cases hlt : j < 16
    · have c0 := a0.byte j hlt
      have f0 := a0.fz j
      have hx := hf j hlt
      have cb := (hc.keep b0 hgl).box _ hx
      have ix := fun w => run_idx8 63 16 f j w under16 hlt
      have A0 := a0.step
      have A1 := a1.other (g' := w.heap.size) (by omega) j (.int .u8 (sb f j : Nat))
      have B3 : Below w.heap.size w (wr.setCell ⟨w.heap.size, j, none⟩ (.int .u8 (sb f j : Nat))) := b0.setCell (Nat.le_refl _) _
      rw [show sb f j = sbx (f j) from rfl] at A0 A1 B3
      clear a0 a1 b0
      generalize mix j (sb f) f j = o at *
      generalize sbx (f j) = y at *
      generalize f j = x at *
      generalize rw8 16 f = F at *
      go_wp2_with fail
      go_roundw
      case rel => exact ⟨j + 1, by omega, by go_num, A0, A1, B3⟩
      case measure => simp [intOf]; omega
    · obtain rfl : j = 16 := by omega
      have a0 := a0.full
      go_wp2_with (first | (refine wpList_ldw rfl _ _ rfl _ rfl _ _ 16 _ (by exact a0) (by omega) _ (by exact under16) rfl (by exact size16) ?_) | (refine wpList_stm rfl rfl _ _ _ rfl (w.heap.size + 1) 0 rfl 16 (sb f) rfl _ _ _ (by exact a1) (by omega) (by exact size16) ?_))
      refine bodyPost_ret (v := .agg (rw8 16 (sb f))) ?_ rfl ⟨rfl, bel_cells (by omega) _ _ _ b0⟩
      exact results_rw rfl _ _ (w.heap.size + 1) 16 (sb f) _ rfl (a1.whole _) under16 rfl size16
def xr (f g : Nat → Nat) : Nat → Nat := fun i => f i ^^^ g i
theorem xr_lt {n : Nat} {f g : Nat → Nat} (h : ∀ i, i < n → f i < 256) (h' : ∀ i, i < n → g i < 256) : ∀ i, i < n → xr f g i < 256 := fun i hi => xor_lt8 (h i hi) (h' i hi)
set_option maxHeartbeats 1000000 in
theorem xorWords_ (f v : Nat → Nat) (w : World) (hf : ∀ i, i < 4 → f i < 256) (hv : ∀ i, i < 4 → v i < 256) :
    Calls Tryz.prog 165 #[.agg (rw8 4 f), .agg (rw8 4 v)] w fun e w' => e = .returned (.agg (rw8 4 (xr f v))) ∧ Below w.heap.size w w' := by
  obtain ⟨A0, A1, A2, B0⟩ := rnew3 w 132 4 f 132 4 v 132 4 (fun _ => 0)
  go_enter Tryz.func165, Tryz.ntmps165
  go_wp2_with (first | (refine wpList_al rfl _ rfl 4 (by exact zerow) ?_) | (refine wpList_ldw rfl _ _ rfl _ rfl _ _ 4 _ (by exact A1) (by omega) _ (by exact underw) rfl (by exact sizew) ?_))
  generalize ((w.alloc (.cells (rw8 4 f) 132)).alloc (.cells (rw8 4 v) 132)).alloc (.cells (rw8 4 fun _ => 0) 132) = w1 at *
  go_loopw [8] (fun i wr => ∃ j : Nat, j ≤ 4 ∧ i = .int .i64 j ∧ Rw wr w.heap.size 132 4 (mix j (xr f v) f) ∧ Rw wr (w.heap.size + 1 + 1) 132 4 (fun _ => 0) ∧ Below w.heap.size w wr) (fun i _ => 4 - (intOf i).toNat)
  case atStart => exact ⟨0, by omega, rfl, by rw [mix0]; exact A0, A2, B0⟩
  case round =>
    obtain ⟨j, hj, rfl, a0, a2, b0⟩ := hrel
    clear A0 A1 A2 B0
    by_cases hlt : j < 4
    · have c0 := a0.byte j hlt
      rw [mix_at] at c0
      have f0 := a0.fz j
      have ix := fun w => run_idx8 132 4 v j w underw hlt
      have HX : Hid (bits .xor .u8 (f j : Int) (v j : Int) = ((xr f v j : Nat) : Int)) := u8x (hf j hlt) (hv j hlt)
      have A0 := a0.step
      have A2 := a2.other (g' := w.heap.size) (by omega) j (.int .u8 (xr f v j : Nat))
      have B3 : Below w.heap.size w (wr.setCell ⟨w.heap.size, j, none⟩ (.int .u8 (xr f v j : Nat))) := b0.setCell (Nat.le_refl _) _
      rw [← HX.out] at A0 A2 B3
      clear a0 a2 b0 HX
      generalize f j = x at *
      generalize v j = y at *
      generalize rw8 4 v = V at *
      go_wp2_with fail
      go_roundw
      case rel => exact ⟨j + 1, by omega, by go_num, A0, A2, B3⟩
      case measure => simp [intOf]; omega
    · obtain rfl : j = 4 := by omega
      have a0 := a0.full
      go_wp2_with (first | (refine wpList_ldw rfl _ _ rfl _ rfl _ _ 4 _ (by exact a0) (by omega) _ (by exact underw) rfl (by exact sizew) ?_) | (refine wpList_stm rfl rfl _ _ _ rfl (w.heap.size + 1 + 1) 0 rfl 4 (xr f v) rfl _ _ _ (by exact a2) (by omega) (by exact sizew) ?_))
      refine bodyPost_ret (v := .agg (rw8 4 (xr f v))) ?_ rfl ⟨rfl, bel_cells (by omega) _ _ _ b0⟩
      exact results_rw rfl _ _ (w.heap.size + 1 + 1) 4 (xr f v) _ rfl (a2.whole _) underw rfl sizew
set_option maxHeartbeats 1000000 in
theorem xor16_ (f v : Nat → Nat) (w : World) (hf : ∀ i, i < 16 → f i < 256) (hv : ∀ i, i < 16 → v i < 256) :
    Calls Tryz.prog 45 #[.agg (rw8 16 f), .agg (rw8 16 v)] w fun e w' => e = .returned (.agg (rw8 16 (xr f v))) ∧ Below w.heap.size w w' := by
  obtain ⟨A0, A1, A2, B0⟩ := rnew3 w 63 16 f 63 16 v 63 16 (fun _ => 0)
  go_enter Tryz.func45, Tryz.ntmps45
  go_wp2_with (refine wpList_al rfl _ rfl 16 (by exact zeroa) ?_)
  generalize ((w.alloc (.cells (rw8 16 f) 63)).alloc (.cells (rw8 16 v) 63)).alloc (.cells (rw8 16 fun _ => 0) 63) = w1 at *
  go_loopw [6] (fun i wr => ∃ j : Nat, j ≤ 16 ∧ i = .int .i64 j ∧ Rw wr w.heap.size 63 16 (mix j (xr f v) f) ∧ Rw wr (w.heap.size + 1) 63 16 v ∧ Rw wr (w.heap.size + 1 + 1) 63 16 (fun _ => 0) ∧ Below w.heap.size w wr) (fun i _ => 16 - (intOf i).toNat)
  case atStart => exact ⟨0, by omega, rfl, by rw [mix0]; exact A0, A1, A2, B0⟩
  case round =>
    obtain ⟨j, hj, rfl, a0, a1, a2, b0⟩ := hrel
    clear A0 A1 A2 B0
    by_cases hlt : j < 16
    · have c0 := a0.byte j hlt
      rw [mix_at] at c0
      have c1 := a1.byte j hlt
      have f0 := a0.fz j
      have HX : Hid (bits .xor .u8 (f j : Int) (v j : Int) = ((xr f v j : Nat) : Int)) := u8x (hf j hlt) (hv j hlt)
      have A0 := a0.step
      have A1 := a1.other (g' := w.heap.size) (by omega) j (.int .u8 (xr f v j : Nat))
      have A2 := a2.other (g' := w.heap.size) (by omega) j (.int .u8 (xr f v j : Nat))
      have B3 : Below w.heap.size w (wr.setCell ⟨w.heap.size, j, none⟩ (.int .u8 (xr f v j : Nat))) := b0.setCell (Nat.le_refl _) _
      clear a0 a1 a2 b0
      generalize f j = x at *
      generalize v j = y at *
      go_wp2_with fail
      go_region
      rw [HX.out]
      clear c0 c1 f0 HX
      go_wp2_with fail
      go_roundw
      case rel => exact ⟨j + 1, by omega, by go_num, A0, A1, A2, bel_drawn B3 1⟩
      case measure => simp [intOf]; omega
    · obtain rfl : j = 16 := by omega
      have a0 := a0.full
      go_wp2_with (first | (refine wpList_ldw rfl _ _ rfl _ rfl _ _ 16 _ (by exact a0) (by omega) _ (by exact under16) rfl (by exact size16) ?_) | (refine wpList_stm rfl rfl _ _ _ rfl (w.heap.size + 1 + 1) 0 rfl 16 (xr f v) rfl _ _ _ (by exact a2) (by omega) (by exact size16) ?_))
      refine bodyPost_ret (v := .agg (rw8 16 (xr f v))) ?_ rfl ⟨rfl, bel_cells (by omega) _ _ _ b0⟩
      exact results_rw rfl _ _ (w.heap.size + 1 + 1) 16 (xr f v) _ rfl (a2.whole _) under16 rfl size16
/-- The rows turned. -/
def tr (f : Nat → Nat) : Nat → Nat := fun i => f ((i + 4 * (i % 4)) % 16)
theorem tr_sb (f : Nat → Nat) : ∀ i, i < 16 → tr (sb f) i = tn f i := fun i hi => by
  unfold tr sb tn
  rw [show (i + 4 * (i % 4)) % 16 = 4 * ((i / 4 + i % 4) % 4) + i % 4 from by omega]
set_option maxHeartbeats 1000000 in
theorem turnRows_ (f : Nat → Nat) (w : World) :
    Calls Tryz.prog 114 #[.agg (rw8 16 f)] w fun e w' => e = .returned (.agg (rw8 16 (tr f))) ∧ Below w.heap.size w w' := by
  obtain ⟨A0, A1, A2, B0⟩ := rnew3 w 63 16 f 63 16 (fun _ => 0) 63 16 (fun _ => 0)
  go_enter Tryz.func114, Tryz.ntmps114
  go_wp2_with (refine wpList_al rfl _ rfl 16 (by exact zeroa) ?_)
  generalize ((w.alloc (.cells (rw8 16 f) 63)).alloc (.cells (rw8 16 fun _ => 0) 63)).alloc (.cells (rw8 16 fun _ => 0) 63) = w1 at *
  go_loopw [6] (fun i wr => ∃ j : Nat, j ≤ 16 ∧ i = .int .i64 j ∧ Rw wr w.heap.size 63 16 f ∧ Rw wr (w.heap.size + 1) 63 16 (fun _ => 0) ∧ Rw wr (w.heap.size + 1 + 1) 63 16 (mix j (tr f) fun _ => 0) ∧ Below w.heap.size w wr) (fun i _ => 16 - (intOf i).toNat)
  case atStart => exact ⟨0, by omega, rfl, A0, A1, by rw [mix0]; exact A2, B0⟩
  case round =>
    obtain ⟨j, hj, rfl, a0, a1, a2, b0⟩ := hrel
    clear A0 A1 A2 B0
    by_cases hlt : j < 16
    · have c0 := a0.byte ((j + 4 * (j % 4)) % 16) (by omega)
      have c2 := a2.byte j hlt
      have f0 := a2.fz j
      have A0 := a0.other (g' := w.heap.size + 1 + 1) (by omega) j (.int .u8 (tr f j : Nat))
      have A1 := a1.other (g' := w.heap.size + 1 + 1) (by omega) j (.int .u8 (tr f j : Nat))
      have A2 := a2.step
      have B3 : Below w.heap.size w (wr.setCell ⟨w.heap.size + 1 + 1, j, none⟩ (.int .u8 (tr f j : Nat))) := b0.setCell (by show _ ≤ w.heap.size + 1 + 1; omega) _
      rw [show f ((j + 4 * (j % 4)) % 16) = tr f j from rfl] at c0
      clear a0 a1 a2 b0
      generalize tr f j = x at *
      generalize mix j (tr f) (fun _ => 0) j = o at *
      go_wp2_with fail
      go_roundw
      case rel => exact ⟨j + 1, by omega, by go_num, A0, A1, A2, B3⟩
      case measure => simp [intOf]; omega
    · obtain rfl : j = 16 := by omega
      have a2 := a2.full
      go_wp2_with (first | (refine wpList_ldw rfl _ _ rfl _ rfl _ _ 16 _ (by exact a2) (by omega) _ (by exact under16) rfl (by exact size16) ?_) | (refine wpList_stm rfl rfl _ _ _ rfl (w.heap.size + 1) 0 rfl 16 (tr f) rfl _ _ _ (by exact a1) (by omega) (by exact size16) ?_))
      refine bodyPost_ret (v := .agg (rw8 16 (tr f))) ?_ rfl ⟨rfl, bel_cells (by omega) _ _ _ b0⟩
      exact results_rw rfl _ _ (w.heap.size + 1) 16 (tr f) _ rfl (a1.whole _) under16 rfl size16
end Go.Proofs.YtmnmmkonkimjeaaGreatDoor
namespace Go.Proofs.YtmnmmkonkimjeaaGreatDoor
open Go.RowKit
set_option linter.unusedVariables false
set_option maxRecDepth 100000

theorem xor_self8 (a b : Nat) : a ^^^ b ^^^ a = b := by rw [Nat.xor_comm a b, Nat.xor_assoc, Nat.xor_self, Nat.xor_zero]
def al (f : Nat → Nat) : Nat := f 0 ^^^ f 1 ^^^ f 2 ^^^ f 3
/-- A column mixed. -/
def mc (f : Nat → Nat) : Nat → Nat := fun i => mul8 2 (f i ^^^ f ((i + 1) % 4)) ^^^ al f ^^^ f i
theorem al_lt {f : Nat → Nat} (h : ∀ i, i < 4 → f i < 256) : al f < 256 := xor_lt8 (xor_lt8 (xor_lt8 (h 0 (by omega)) (h 1 (by omega))) (h 2 (by omega))) (h 3 (by omega))
theorem mc_lt {f : Nat → Nat} (h : ∀ i, i < 4 → f i < 256) : ∀ i, i < 4 → mc f i < 256 := fun i hi => xor_lt8 (xor_lt8 (mul8_lt (by omega)) (al_lt h)) (h i hi)
set_option maxHeartbeats 1000000 in
theorem mixColumn_ (f : Nat → Nat) (w : World) (hf : ∀ i, i < 4 → f i < 256) :
    Calls Tryz.prog 167 #[.agg (rw8 4 f)] w fun e w' => e = .returned (.agg (rw8 4 (mc f))) ∧ Below w.heap.size w w' := by
  obtain ⟨A0, A1, B0⟩ := rnew2 w 132 4 f 132 4 (fun _ => 0)
  have c0 := A0.byte 0 (by omega)
  have c1 := A0.byte 1 (by omega)
  have c2 := A0.byte 2 (by omega)
  have c3 := A0.byte 3 (by omega)
  have x1 := u8x (hf 0 (by omega)) (hf 1 (by omega))
  have x2 := u8x (xor_lt8 (hf 0 (by omega)) (hf 1 (by omega))) (hf 2 (by omega))
  have x3 := u8x (xor_lt8 (xor_lt8 (hf 0 (by omega)) (hf 1 (by omega))) (hf 2 (by omega))) (hf 3 (by omega))
  have la := al_lt hf
  rw [show f 0 ^^^ f 1 ^^^ f 2 ^^^ f 3 = al f from rfl] at x3
  go_enter Tryz.func167, Tryz.ntmps167
  go_wp2_with (first | (refine wpList_al rfl _ rfl 4 (by exact zerow) ?_) | (refine wpList_ldw rfl _ _ rfl _ rfl _ _ 4 _ (by exact A0.alloc _) (by omega) _ (by exact underw) rfl (by exact sizew) ?_))
  have A2 := Rw.new ((w.alloc (.cells (rw8 4 f) 132)).alloc (.cells (rw8 4 fun _ => 0) 132)) 132 4 (fun _ => 0)
  rw [show ((w.alloc (.cells (rw8 4 f) 132)).alloc (.cells (rw8 4 fun _ => 0) 132)).heap.size = w.heap.size + 1 + 1 from by simp] at A2
  have A0 := A0.alloc (.cells (rw8 4 fun _ => 0) 132)
  have A1 := A1.alloc (.cells (rw8 4 fun _ => 0) 132)
  have B0 := B0.alloc (by simp; omega) (.cells (rw8 4 fun _ => 0) 132)
  generalize ((w.alloc (.cells (rw8 4 f) 132)).alloc (.cells (rw8 4 fun _ => 0) 132)).alloc (.cells (rw8 4 fun _ => 0) 132) = w1 at *
  clear c0 c1 c2 c3 x1 x2 x3
  go_loopw [20] (fun i wr => ∃ j : Nat, j ≤ 4 ∧ i = .int .i64 j ∧ Rw wr w.heap.size 132 4 f ∧ Rw wr (w.heap.size + 1) 132 4 (fun _ => 0) ∧ Rw wr (w.heap.size + 1 + 1) 132 4 (mix j (mc f) fun _ => 0) ∧ Below w.heap.size w wr) (fun i _ => 4 - (intOf i).toNat)
  case atStart => exact ⟨0, by omega, rfl, A0, A1, by rw [mix0]; exact A2, B0⟩
  case round =>
    obtain ⟨j, hj, rfl, a0, a1, a2, b0⟩ := hrel
    clear A0 A1 A2 B0
    by_cases hlt : j < 4
    · have c0 := a0.byte ((j + 1) % 4) (by omega)
      have c2 := a2.byte j hlt
      have f2 := a2.fz j
      have ix := fun w => run_idx8 132 4 f j w underw hlt
      have lx := hf j hlt
      have ly := hf ((j + 1) % 4) (by omega)
      have x1 := u8x lx ly
      have lm : mul8 2 (f j ^^^ f ((j + 1) % 4)) < 256 := mul8_lt (by omega)
      have x2 := u8x lm la
      have HX : Hid (bits .xor .u8 ((mul8 2 (f j ^^^ f ((j + 1) % 4)) ^^^ al f : Nat) : Int) (f j : Int) = ((mc f j : Nat) : Int)) := u8x (xor_lt8 lm la) lx
      have k1 := fun w => mul8_ 2 (f j ^^^ f ((j + 1) % 4)) w (by omega) (xor_lt8 lx ly)
      have A0 := a0.other (g' := w.heap.size + 1 + 1) (by omega) j (.int .u8 (mc f j : Nat))
      have A1 := a1.other (g' := w.heap.size + 1 + 1) (by omega) j (.int .u8 (mc f j : Nat))
      have A2 := a2.step
      have B3 : Below w.heap.size w (wr.setCell ⟨w.heap.size + 1 + 1, j, none⟩ (.int .u8 (mc f j : Nat))) := b0.setCell (by show _ ≤ w.heap.size + 1 + 1; omega) _
      rw [← HX.out] at A0 A1 A2 B3
      clear a0 a1 a2 b0 HX lx ly lm
      generalize mix j (mc f) (fun _ => 0) j = o at *
      generalize mul8 2 (f j ^^^ f ((j + 1) % 4)) = m at *
      generalize f j ^^^ f ((j + 1) % 4) = z at *
      generalize f ((j + 1) % 4) = y at *
      generalize f j = x at *
      generalize m ^^^ al f = q at *
      generalize rw8 4 f = F at *
      generalize al f = al at *
      go_wp2_with fail
      refine (k1 _).mono ?_
      rintro e w3 ⟨rfl, rfl⟩
      clear k1
      go_wp2_with fail
      go_roundw
      case rel => exact ⟨j + 1, by omega, by go_num, A0, A1, A2, B3⟩
      case measure => simp [intOf]; omega
    · obtain rfl : j = 4 := by omega
      have a2 := a2.full
      go_wp2_with (first | (refine wpList_ldw rfl _ _ rfl _ rfl _ _ 4 _ (by with_reducible exact a2) (by omega) _ (by exact underw) rfl (by exact sizew) ?_) | (refine wpList_stm rfl rfl _ _ _ rfl (w.heap.size + 1) 0 rfl 4 (mc f) rfl _ _ _ (by with_reducible exact a1) (by omega) (by exact sizew) ?_))
      refine bodyPost_ret (v := .agg (rw8 4 (mc f))) ?_ rfl ⟨rfl, bel_cells (by omega) _ _ _ b0⟩
      exact results_rw rfl _ _ (w.heap.size + 1) 4 (mc f) _ rfl (a1.whole _) underw rfl sizew
theorem underws : Tryz.prog.underlying 205 = some (.array 4 132) := by kernel_rfl
theorem sizews : (Tryz.prog.info? 205).map (·.size) = some 16 := by kernel_rfl
theorem zerows : (Tryz.prog.info? 205).map (·.zero) = some (some (.agg (rw8 16 fun _ => 0))) := by kernel_rfl
set_option maxHeartbeats 1000000 in
theorem splitColumns_ (f : Nat → Nat) (w : World) :
    Calls Tryz.prog 166 #[.agg (rw8 16 f)] w fun e w' => e = .returned (.agg (rw8 16 f)) ∧ Below w.heap.size w w' := by
  obtain ⟨A0, A1, A2, B0⟩ := rnew3 w 63 16 f 205 16 (fun _ => 0) 205 16 (fun _ => 0)
  go_enter Tryz.func166, Tryz.ntmps166
  go_wp2_with (refine wpList_al rfl _ rfl 16 (by exact zerows) ?_)
  generalize ((w.alloc (.cells (rw8 16 f) 63)).alloc (.cells (rw8 16 fun _ => 0) 205)).alloc (.cells (rw8 16 fun _ => 0) 205) = w1 at *
  go_loopw [5] (fun i wr => ∃ j : Nat, j ≤ 4 ∧ i = .int .i64 j ∧ Rw wr w.heap.size 63 16 f ∧ Rw wr (w.heap.size + 1) 205 16 (fun _ => 0) ∧ Rw wr (w.heap.size + 1 + 1) 205 16 (mix (4 * j) f fun _ => 0) ∧ Below w.heap.size w wr) (fun i _ => 4 - (intOf i).toNat)
  case atStart => exact ⟨0, by omega, rfl, A0, A1, by rw [Nat.mul_zero, mix0]; exact A2, B0⟩
  case round =>
    obtain ⟨j, hj, rfl, a0, a1, a2, b0⟩ := hrel
    clear A0 A1 A2 B0
    by_cases hlt : j < 4
    · have sr := run_arr 132 4 5 underw
      have sc := fun w' => run_cut4 63 16 5 1 under16 size1 w.heap.size j (4 * j) (by omega) (by omega) w'
      have A0 := a0.omid (g' := w.heap.size + 1 + 1) (by omega) (4 * j) (rw8 4 (from8 (4 * j) f)).toList
      have A1 := a1.omid (g' := w.heap.size + 1 + 1) (by omega) (4 * j) (rw8 4 (from8 (4 * j) f)).toList
      have A2 := a2.stepm
      have B3 : Below w.heap.size w (wr.setCells (w.heap.size + 1 + 1) (4 * j) (rw8 4 (from8 (4 * j) f)).toList) := bel_cells (by omega) _ _ _ b0
      go_wp2_with (first | (refine wpList_ldm rfl _ _ rfl w.heap.size (4 * j) rfl _ _ 4 f (by with_reducible exact a0) (by omega) _ (by exact underw) rfl (by exact sizew) ?_) | (refine wpList_stm rfl rfl _ _ _ rfl (w.heap.size + 1 + 1) (j * 4) rfl 4 (from8 (4 * j) f) rfl _ _ _ (by with_reducible exact a2) (by omega) (by exact sizew) ?_; rw [Nat.mul_comm j 4]))
      go_roundw
      case rel => exact ⟨j + 1, by omega, by go_num, A0, A1, A2, B3⟩
      case measure => simp [intOf]; omega
    · obtain rfl : j = 4 := by omega
      have a2 := a2.full
      go_wp2_with (first | (refine wpList_ldw rfl _ _ rfl _ rfl _ _ 16 _ (by with_reducible exact a2) (by omega) _ (by exact underws) rfl (by exact sizews) ?_) | (refine wpList_stm rfl rfl _ _ _ rfl (w.heap.size + 1) 0 rfl 16 f rfl _ _ _ (by with_reducible exact a1) (by omega) (by exact sizews) ?_))
      refine bodyPost_ret (v := .agg (rw8 16 f)) ?_ rfl ⟨rfl, bel_cells (by omega) _ _ _ b0⟩
      exact results_rw rfl _ _ (w.heap.size + 1) 16 f _ rfl (a1.whole _) underws rfl sizews
end Go.Proofs.YtmnmmkonkimjeaaGreatDoor
namespace Go.Proofs.YtmnmmkonkimjeaaGreatDoor
open Go.RowKit
set_option linter.unusedVariables false
set_option maxRecDepth 100000

theorem undersl : Tryz.prog.underlying 22 = some (.slice 5) := by kernel_rfl
theorem run_all4 (g : Nat) (w : World) : (Instr.sliceAt 132 (.pointer (some ⟨g, 0, none⟩)) none none none).run Tryz.prog w = .ok (.slice (some ⟨g, 0, none⟩) 4 4) w := by
  simp only [Instr.sliceAt, Sem.run_bind, run_underlying underw, Result.andThen_ok, Instr.sureAddr, Sem.run_pure, Instr.sliceBounds, run_sizeOf size1, Addr.add_mid]
  rfl
set_option maxHeartbeats 400000 in
theorem joinColumns_ (f : Nat → Nat) (w : World) :
    Calls Tryz.prog 162 #[.agg (rw8 16 f)] w fun e w' => e = .returned (.agg (rw8 16 f)) ∧ Below w.heap.size w w' := by
  obtain ⟨A0, A1, A2, B0⟩ := rnew3 w 205 16 f 63 16 (fun _ => 0) 63 16 (fun _ => 0)
  go_enter Tryz.func162, Tryz.ntmps162
  go_wp2_with (first | (refine wpList_al rfl _ rfl 16 (by exact zeroa) ?_) | (refine wpList_ldw rfl _ _ rfl _ rfl _ _ 16 _ (by with_reducible exact A0) (by omega) _ (by exact underws) rfl (by exact sizews) ?_))
  generalize ((w.alloc (.cells (rw8 16 f) 205)).alloc (.cells (rw8 16 fun _ => 0) 63)).alloc (.cells (rw8 16 fun _ => 0) 63) = w1 at *
  go_loopw [7] (fun i wr => ∃ j : Nat, j ≤ 4 ∧ i = .int .i64 j ∧ Rw wr (w.heap.size + 1) 63 16 (fun _ => 0) ∧ Rw wr (w.heap.size + 1 + 1) 63 16 (mix (4 * j) f fun _ => 0) ∧ Below w.heap.size w wr) (fun i _ => 4 - (intOf i).toNat)
  case atStart => exact ⟨0, by omega, rfl, A1, by rw [Nat.mul_zero, mix0]; exact A2, B0⟩
  case round =>
    obtain ⟨j, hj, rfl, a1, a2, b0⟩ := hrel
    clear A0 A1 A2 B0
    by_cases hlt : j < 4
    · have ix := fun w => run_idxm 205 4 132 4 16 f j w underws rfl _ _ underw sizew hlt
      have sl := fun w' => run_cutl 63 16 5 under16 size1 (w.heap.size + 1 + 1) j (by omega) w'
      have sa := run_all4
      have hs := b0.size
      have l2 := a2.lt
      have AN := Rw.new wr 132 4 (fun _ => 0)
      go_wp2_with (first | (refine wpList_al rfl _ rfl 4 (by exact zerow) ?_) | (refine wpList_stm rfl rfl _ _ _ rfl wr.heap.size 0 rfl 4 (from8 (4 * j) f) rfl _ _ _ (by with_reducible exact AN) (by omega) (by exact sizew) ?_))
      have a1 := (a1.alloc (.cells (rw8 4 fun _ => 0) 132)).omid (g' := wr.heap.size) (by omega) 0 (rw8 4 (from8 (4 * j) f)).toList
      have a2 := (a2.alloc (.cells (rw8 4 fun _ => 0) 132)).omid (g' := wr.heap.size) (by omega) 0 (rw8 4 (from8 (4 * j) f)).toList
      have a3 := AN.whole (from8 (4 * j) f)
      have b0 : Below w.heap.size w ((wr.alloc (.cells (rw8 4 fun _ => 0) 132)).setCells wr.heap.size 0 (rw8 4 (from8 (4 * j) f)).toList) := bel_cells (by omega) _ _ _ (b0.alloc (by omega) _)
      generalize wr.heap.size = gc at *
      generalize (wr.alloc (.cells (rw8 4 fun _ => 0) 132)).setCells gc 0 (rw8 4 (from8 (4 * j) f)).toList = w2 at *
      have a1 := a1.drew
      have a2 := a2.drew
      have a3 := a3.drew
      have b0 := bel_drawn b0 1
      rw [show w2.drewN 1 = w2.drew from rfl] at b0
      have ew : IntKind.i64.wrap (4 * (j : Int)) = 4 * (j : Int) := by rw [IntKind.wrap_i64]; omega
      clear AN l2
      go_region_law (refine step_cp rfl _ _ _ _ rfl _ undersl size1 _ _ _ _ _ _ _ rfl rfl (by omega) _ _ _ (by with_reducible exact a2) (by omega) _ _ (by with_reducible exact a3) ?_)
      have A1 := a1.omid (g' := w.heap.size + 1 + 1) (by omega) (4 * j) (rw8 4 (from8 (4 * j) f)).toList
      have A2 := a2.stepm
      have B3 := bel_cells (B := w.heap.size) (g := w.heap.size + 1 + 1) (by omega) (rw8 4 (from8 (4 * j) f)).toList (4 * j) _ b0
      clear a1 a2 a3 b0
      generalize w2.drew.setCells (w.heap.size + 1 + 1) (4 * j) (rw8 4 (from8 (4 * j) f)).toList = w3 at *
      go_wp2_with fail
      go_roundw
      case rel => exact ⟨j + 1, by omega, by go_num, A1, A2, B3⟩
      case measure => simp [intOf]; omega
    · obtain rfl : j = 4 := by omega
      have a2 := a2.full
      go_wp2_with (first | (refine wpList_ldw rfl _ _ rfl _ rfl _ _ 16 _ (by with_reducible exact a2) (by omega) _ (by exact under16) rfl (by exact size16) ?_) | (refine wpList_stm rfl rfl _ _ _ rfl (w.heap.size + 1) 0 rfl 16 f rfl _ _ _ (by with_reducible exact a1) (by omega) (by exact size16) ?_))
      refine bodyPost_ret (v := .agg (rw8 16 f)) ?_ rfl ⟨rfl, bel_cells (by omega) _ _ _ b0⟩
      exact results_rw rfl _ _ (w.heap.size + 1) 16 f _ rfl (a1.whole _) under16 rfl size16
/-- The columns mixed. -/
def mxc (f : Nat → Nat) : Nat → Nat := fun i => mc (from8 (4 * (i / 4)) f) (i % 4)
theorem mxc_part (f : Nat → Nat) (j : Nat) : rw8 4 (from8 (4 * j) (mxc f)) = rw8 4 (mc (from8 (4 * j) f)) := rw8_ext fun i hi => by
  unfold from8 mxc
  rw [show (4 * j + i) / 4 = j from by omega, show (4 * j + i) % 4 = i from by omega]
  rfl
theorem xc (a b : Nat) : a ^^^ (a ^^^ b) = b := by rw [← Nat.xor_assoc, Nat.xor_self, Nat.zero_xor]
theorem xlc (a b c : Nat) : a ^^^ (b ^^^ c) = b ^^^ (a ^^^ c) := by rw [← Nat.xor_assoc, Nat.xor_comm a b, Nat.xor_assoc]
theorem mc_at (a b c d m n : Nat) (p : Nat) (h : p ^^^ a = b ^^^ c ^^^ d) : m ^^^ n ^^^ p ^^^ a = m ^^^ n ^^^ b ^^^ c ^^^ d := by
  rw [Nat.xor_assoc _ p a, h]
  simp only [Nat.xor_assoc]
theorem mc_col (f : Nat → Nat) (c r : Nat) (hr : r < 4) : mc (from8 (4 * c) f) r = mul8 2 (f (4 * c + r)) ^^^ mul8 2 (f (4 * c + (r + 1) % 4)) ^^^ f (4 * c + (r + 1) % 4) ^^^ f (4 * c + (r + 2) % 4) ^^^ f (4 * c + (r + 3) % 4) := by
  unfold mc
  rw [mul8_xor]
  refine mc_at _ _ _ _ _ _ _ ?_
  unfold al from8
  obtain rfl | rfl | rfl | rfl : r = 0 ∨ r = 1 ∨ r = 2 ∨ r = 3 := by omega
  all_goals
    simp only [Nat.reduceAdd, Nat.reduceMod]
    generalize f (4 * c + 0) = x0
    generalize f (4 * c + 1) = x1
    generalize f (4 * c + 2) = x2
    generalize f (4 * c + 3) = x3
    simp only [Nat.xor_comm, xlc, xc, Nat.xor_self, Nat.xor_zero]
theorem mxc_mx (f : Nat → Nat) : ∀ i, i < 16 → mxc f i = mx f i := fun i hi => by
  have := mc_col f (i / 4) (i % 4) (by omega)
  rw [show 4 * (i / 4) + i % 4 = i from by omega] at this
  exact this
theorem from8_lt {f : Nat → Nat} (hf : ∀ i, i < 16 → f i < 256) {j : Nat} (hj : j < 4) : ∀ i, i < 4 → from8 (4 * j) f i < 256 := fun i hi => hf _ (by omega)
set_option maxHeartbeats 1000000 in
theorem mixColumns_ (f : Nat → Nat) (w : World) (hf : ∀ i, i < 16 → f i < 256) :
    Calls Tryz.prog 116 #[.agg (rw8 16 f)] w fun e w' => e = .returned (.agg (rw8 16 (mx f))) ∧ Below w.heap.size w w' := by
  have k1 := fun w => splitColumns_ f w
  have HM : Hid (rw8 16 (mxc f) = rw8 16 (mx f)) := rw8_ext (mxc_mx f)
  have HF := hid hf
  clear hf
  obtain ⟨A0, A1, B0⟩ := rnew2 w 63 16 f 63 16 (fun _ => 0)
  go_enter Tryz.func116, Tryz.ntmps116
  go_wp2_with (first | (refine wpList_al rfl _ rfl 16 (by exact zeroa) ?_) | (refine wpList_ldw rfl _ _ rfl _ rfl _ _ 16 _ (by with_reducible exact A0) (by omega) _ (by exact under16) rfl (by exact size16) ?_))
  generalize (w.alloc (.cells (rw8 16 f) 63)).alloc (.cells (rw8 16 fun _ => 0) 63) = w1 at *
  have S0 := B0.size
  have l1 := A1.lt
  refine (k1 _).mono ?_
  rintro e w2 ⟨rfl, g⟩
  have sg := g.size
  have AN := Rw.new w2 205 16 (fun _ => 0)
  have A1 := ((A1.kept g).alloc (.cells (rw8 16 fun _ => 0) 205)).omid (g' := w2.heap.size) (by omega) 0 (rw8 16 f).toList
  have A2 := AN.whole f
  have B0 := bel_bel B0 S0 g
  have S0 := B0.size
  have B0 : Below w.heap.size w ((w2.alloc (.cells (rw8 16 fun _ => 0) 205)).setCells w2.heap.size 0 (rw8 16 f).toList) := bel_cells (by omega) _ _ _ (B0.alloc (by omega) _)
  clear k1 g A0
  go_wp2_with (first | (refine wpList_al rfl _ rfl 16 (by exact zerows) ?_) | (refine wpList_stm rfl rfl _ _ _ rfl w2.heap.size 0 rfl 16 f rfl _ _ _ (by with_reducible exact AN) (by omega) (by exact sizews) ?_) | (refine wpList_ldw rfl _ _ rfl _ rfl _ _ 16 _ (by with_reducible exact A2) (by omega) _ (by exact underws) rfl (by exact sizews) ?_))
  have hgc : w.heap.size + 1 < w2.heap.size := by omega
  clear AN sg l1 S0
  generalize w2.heap.size = gc at *
  generalize (w2.alloc (.cells (rw8 16 fun _ => 0) 205)).setCells gc 0 (rw8 16 f).toList = w3 at *
  go_loopw [9] (fun i wr => ∃ j : Nat, j ≤ 4 ∧ i = .int .i64 j ∧ Rw wr (w.heap.size + 1) 63 16 (fun _ => 0) ∧ Rw wr gc 205 16 (mix (4 * j) (mxc f) f) ∧ Below w.heap.size w wr) (fun i _ => 4 - (intOf i).toNat)
  case atStart => exact ⟨0, by omega, rfl, A1, by rw [Nat.mul_zero, mix0]; exact A2, B0⟩
  case round =>
    obtain ⟨j, hj, rfl, a1, a2, b0⟩ := hrel
    clear A1 A2 B0
    by_cases hlt : j < 4
    · have ix := fun w => run_idxm 205 4 132 4 16 f j w underws rfl _ _ underw sizew hlt
      have k2 := fun w => mixColumn_ (from8 (4 * j) f) w (from8_lt HF.out hlt)
      have HP := hid (mxc_part f j)
      have hs := b0.size
      have l2 := a2.lt
      have AN := Rw.new wr 132 4 (fun _ => 0)
      have a3 := AN.whole (from8 (4 * j) f)
      go_wp2_with (first | (refine wpList_al rfl _ rfl 4 (by exact zerow) ?_) | (refine wpList_stm rfl rfl _ _ _ rfl wr.heap.size 0 rfl 4 (from8 (4 * j) f) rfl _ _ _ (by with_reducible exact AN) (by omega) (by exact sizew) ?_) | (refine wpList_ldw rfl _ _ rfl _ rfl _ _ 4 _ (by with_reducible exact a3) (by omega) _ (by exact underw) rfl (by exact sizew) ?_))
      have a1 := (a1.alloc (.cells (rw8 4 fun _ => 0) 132)).omid (g' := wr.heap.size) (by omega) 0 (rw8 4 (from8 (4 * j) f)).toList
      have a2 := (a2.alloc (.cells (rw8 4 fun _ => 0) 132)).omid (g' := wr.heap.size) (by omega) 0 (rw8 4 (from8 (4 * j) f)).toList
      have b0 : Below w.heap.size w ((wr.alloc (.cells (rw8 4 fun _ => 0) 132)).setCells wr.heap.size 0 (rw8 4 (from8 (4 * j) f)).toList) := bel_cells (by omega) _ _ _ (b0.alloc (by omega) _)
      generalize wr.heap.size = gw at *
      generalize (wr.alloc (.cells (rw8 4 fun _ => 0) 132)).setCells gw 0 (rw8 4 (from8 (4 * j) f)).toList = w4 at *
      have s0 := b0.size
      clear AN a3 hs l2
      refine (k2 _).mono ?_
      rintro e w5 ⟨rfl, g⟩
      have a1 := a1.kept g
      have a2 := a2.kept g
      have b0 := bel_bel b0 s0 g
      clear g k2 s0
      go_wp2_with (refine wpList_stm rfl rfl _ _ _ rfl gc (j * 4) rfl 4 (mc (from8 (4 * j) f)) rfl _ _ _ (by with_reducible exact a2) (by omega) (by exact sizew) ?_; rw [Nat.mul_comm j 4])
      have A1 := a1.omid (g' := gc) (by omega) (4 * j) (rw8 4 (mc (from8 (4 * j) f))).toList
      have A2 := a2.stepm
      rw [HP.out] at A2
      have B3 := bel_cells (B := w.heap.size) (g := gc) (by omega) (rw8 4 (mc (from8 (4 * j) f))).toList (4 * j) _ b0
      clear a1 a2 b0 HP
      generalize w5.setCells gc (4 * j) (rw8 4 (mc (from8 (4 * j) f))).toList = w6 at *
      go_roundw
      case rel => exact ⟨j + 1, by omega, by go_num, A1, A2, B3⟩
      case measure => simp [intOf]; omega
    · obtain rfl : j = 4 := by omega
      have a2 := a2.full
      have k3 := fun w => joinColumns_ (mxc f) w
      have s0 := b0.size
      go_wp2_with (refine wpList_ldw rfl _ _ rfl _ rfl _ _ 16 _ (by with_reducible exact a2) (by omega) _ (by exact underws) rfl (by exact sizews) ?_)
      refine (k3 _).mono ?_
      rintro e w7 ⟨rfl, g⟩
      have a1 := a1.kept g
      have b0 := bel_bel b0 s0 g
      clear g k3 s0
      go_wp2_with (refine wpList_stm rfl rfl _ _ _ rfl (w.heap.size + 1) 0 rfl 16 (mxc f) rfl _ _ _ (by with_reducible exact a1) (by omega) (by exact size16) ?_)
      refine bodyPost_ret (v := .agg (rw8 16 (mxc f))) ?_ rfl ⟨by rw [HM.out], bel_cells (by omega) _ _ _ b0⟩
      exact results_rw rfl _ _ (w.heap.size + 1) 16 (mxc f) _ rfl (a1.whole _) under16 rfl size16
end Go.Proofs.YtmnmmkonkimjeaaGreatDoor
namespace Go.Proofs.YtmnmmkonkimjeaaGreatDoor
open Go.RowKit
set_option linter.unusedVariables false
set_option maxRecDepth 100000

/-- The code's cipher at block g, with these round keys. -/
def Cp (w : World) (g : Nat) (k : Nat → Nat) : Prop := ∃ F, Rw w g 130 496 F ∧ (∀ x, x < 256 → F x = sbx x) ∧ ∀ j, j < 240 → F (256 + j) = k j
theorem Cp.lt {w : World} {g : Nat} {k : Nat → Nat} (h : Cp w g k) : g < w.heap.size := by obtain ⟨F, h, _⟩ := h; exact h.lt
theorem Cp.same {w w' : World} {g : Nat} {k : Nat → Nat} (h : Cp w g k) (he : w'.heap[g]? = w.heap[g]?) : Cp w' g k := by
  obtain ⟨F, h, r⟩ := h
  refine ⟨F, ?_, r⟩
  unfold Rw at *
  rw [he]; exact h
theorem Cp.keep {w w' : World} {g B : Nat} {k : Nat → Nat} (h : Cp w g k) (hb : Below B w w') (hB : g < B) : Cp w' g k := h.same (hb.block g hB)
theorem Cp.bx {w : World} {g : Nat} {k : Nat → Nat} (h : Cp w g k) : Bx w g := by
  refine ⟨h.lt, fun x hx => ?_⟩
  obtain ⟨F, h, hb, _⟩ := h
  rw [h.byte x (by omega), hb x hx]
theorem Cp.range {w : World} {g : Nat} {k : Nat → Nat} (h : Cp w g k) (o : Nat) (ho : o + 16 ≤ 240) : w.rangeAt g (256 + o) (rw8 16 (from8 o k)).toList := by
  obtain ⟨F, h, _, hk⟩ := h
  have := h.range (256 + o) 16 (by omega)
  rw [rw8_ext (g := from8 o k) (fun i hi => by unfold from8; rw [Nat.add_assoc]; exact hk _ (by omega))] at this
  exact this
theorem yields_rng {ops : Array Oper} {S : World → Prop} {o : Oper} {a : Act} (hw : Region.wanted o (yielded ops a.tmps) = true) (ty : TypeId) (x : Operand) (ho : o.op = .load ty x) (g off m : Nat) (v : Nat → Nat) (hx : a.eval x = .pointer (some ⟨g, off, none⟩))
    (hS : ∀ w, S w → w.rangeAt g off (rw8 m v).toList) (d : TypeDesc) (hu : Tryz.prog.underlying ty = some d) (hd : d.isRow = true) (hi : (Tryz.prog.info? ty).map (·.size) = some m) : YieldsIf Tryz.prog ops S o (.agg (rw8 m v)) a := by
  have := yieldsIf_load_mid (P := Tryz.prog) (ops := ops) (S := S) hw ty x ho g off hx (rw8 m v).toList d hS hu hd (by rw [rw8_len]; exact hi)
  have e : (rw8 m v).toList.toArray = rw8 m v := by simp
  rw [e] at this
  exact this
theorem Rw.rng0 {w : World} {g t n : Nat} {f : Nat → Nat} (h : Rw w g t n f) : w.rangeAt g 0 (rw8 n f).toList := by
  have := h.range 0 n (by omega)
  rw [from8_zero] at this
  exact this
/-- What yields its value in every world that meets S may be taken first. -/
theorem take_to {ops : Array Oper} {Q : Exit → Act → World → Prop} {md : Region.Mode} {S : World → Prop} {oi : Oper} {fuel : Nat} {listed : Array Bool} {a : Act} {w : World} (i d : Nat) (v : Value) (hi : ops[i]? = some oi) (hd : oi.dst = some d)
    (hs : Region.noSelect ops = true) (hf : Region.free md ops listed i = true) (hr : (Region.ready md ops listed).contains i = true)
    (hQ : ∀ c a w, Q (.panic c) (a.put oi.dst v) w → Q (.panic c) a w) (hy : YieldsIf Tryz.prog ops S oi v a) (hS : S w)
    (h : wpAnyH Tryz.prog md ops Q S fuel (listed.setIfInBounds i true) ⟨a.tmps.setIfInBounds d v, a.defers⟩ w) : wpAnyH Tryz.prog md ops Q S (fuel + 1) listed a w :=
  wpAnyH_take hi hs hf hr hQ hy hS (by rw [hd]; exact h)
theorem wp_ldw {o : Oper} {a : Act} {w : World} {K : Act → World → Prop} {Q : Exit → Act → World → Prop} (dst : Option Tmp) (hdst : o.dst = dst) (ty : TypeId) (x : Operand) (ho : o.op = .load ty x) (g : Nat) (hx : a.eval x = .pointer (some ⟨g, 0, none⟩)) (t n : Nat) (f : Nat → Nat) (hr : Rw w g t n f) (d : TypeDesc)
    (hu : Tryz.prog.underlying ty = some d) (hd : d.isRow = true) (hi : (Tryz.prog.info? ty).map (·.size) = some n) (h : K (a.put dst (.agg (rw8 n f))) w) : o.wp Tryz.prog a w K Q := by
  subst hdst
  have e : (rw8 n (from8 0 f)).toList.toArray = rw8 n f := by rw [from8_zero]
  refine wp_load_mid ty x ho g 0 hx (rw8 n (from8 0 f)).toList d (hr.range 0 n (by omega)) hu hd (by rw [rw8_len]; exact hi) ?_
  rw [e]
  exact h
theorem wp_stm {o : Oper} {a : Act} {w : World} {K : Act → World → Prop} {Q : Exit → Act → World → Prop} (hdst : o.dst = none) (ty : TypeId) (x y : Operand) (ho : o.op = .store ty x y) (g off : Nat) (hx : a.eval x = .pointer (some ⟨g, off, none⟩)) (m : Nat) (v : Nat → Nat) (hy : a.eval y = .agg (rw8 m v))
    (t n : Nat) (f : Nat → Nat) (hr : Rw w g t n f) (hm : off + m ≤ n) (hi : (Tryz.prog.info? ty).map (·.size) = some m) (h : K a (w.setCells g off (rw8 m v).toList)) : o.wp Tryz.prog a w K Q := by
  refine wp_store_mid ty x y ho g off (rw8 m v) hx hy (by rw [rw8_size]; exact hr.there off m hm) (by rw [rw8_size]; exact hi) (rw8_one m v) ?_
  rw [hdst]
  exact h
theorem wp_al {o : Oper} {a : Act} {w : World} {K : Act → World → Prop} {Q : Exit → Act → World → Prop} (dst : Option Tmp) (hdst : o.dst = dst) (t : TypeId) (ho : o.op = .alloc t) (n : Nat) (hz : (Tryz.prog.info? t).map (·.zero) = some (some (.agg (rw8 n fun _ => 0))))
    (h : K (a.put dst (.pointer (some ⟨w.heap.size, 0, none⟩))) (w.alloc (.cells (rw8 n fun _ => 0) t))) : o.wp Tryz.prog a w K Q := by
  subst hdst
  unfold Oper.wp
  rw [run_al t ho n hz]
  exact h
theorem bel_drew1 {B : Nat} {a b : World} (h : Below B a b) : Below B a b.drew := h.trans ⟨rfl, rfl, rfl, Nat.le_refl _, fun _ _ => rfl⟩
theorem Cp.drew {w : World} {g : Nat} {k : Nat → Nat} (h : Cp w g k) : Cp w.drew g k := h
theorem Cp.kept {w w' : World} {g : Nat} {k : Nat → Nat} (h : Cp w g k) (hb : Below w.heap.size w w') : Cp w' g k := h.keep hb h.lt
theorem Cp.omid {w : World} {g g' : Nat} {k : Nat → Nat} (h : Cp w g k) (hn : g ≠ g') (o : Nat) (vs : List Value) : Cp (w.setCells g' o vs) g k := h.same (heap_setCells_other g' g hn _ _ _)
theorem Cp.alloc {w : World} {g : Nat} {k : Nat → Nat} (h : Cp w g k) (o : Obj) : Cp (w.alloc o) g k := h.same (Below.heap_alloc _ _ _ h.lt)
theorem underk : Tryz.prog.underlying 128 = some (.array 15 63) := by kernel_rfl
theorem sizek : (Tryz.prog.info? 128).map (·.size) = some 240 := by kernel_rfl
/-- Which of the round keys. -/
theorem run_key (g r : Nat) (hr : r < 15) (x : Int) (hx : x = r) (w : World) : (Instr.indexAt 128 (.pointer (some ⟨g, 256, none⟩)) (.int .i64 x)).run Tryz.prog w = .ok (.pointer (some ⟨g, 256 + 16 * r, none⟩)) w := by
  subst hx
  have h1 : (0 : Int) ≤ (r : Int) ∧ (r : Int) < ((15 : Nat) : Int) := by omega
  simp only [Instr.indexAt, Sem.run_bind, asIntOf, Sem.run_pure, run_underlying underk, Result.andThen_ok, Instr.sureAddr, if_pos h1, run_sizeOf size16, Addr.add_mid, Int.toNat_natCast]
  rw [Nat.mul_comm r 16]
end Go.Proofs.YtmnmmkonkimjeaaGreatDoor
