import Derived.Test.YtnjfckijpbgagaaCPiece
import Derived.Deep.RegionLaw
namespace Go.Proofs.Ytnjfckijpbgagaa
set_option maxRecDepth 100000
open Go.RowKit
set_option linter.unusedVariables false

theorem underw : Try.prog.underlying 148 = some (.array 4 5) := by kernel_rfl
theorem sizew : (Try.prog.info? 148).map (·.size) = some 4 := by kernel_rfl
theorem zerow : (Try.prog.info? 148).map (·.zero) = some (some (.agg (rw8 4 fun _ => 0))) := by kernel_rfl
theorem zeroa : (Try.prog.info? 96).map (·.zero) = some (some (.agg (rw8 16 fun _ => 0))) := by kernel_rfl
/-- Each byte's substitution. -/
def sb (f : Nat → Nat) : Nat → Nat := fun i => sbx (f i)
theorem sb_lt {n : Nat} {f : Nat → Nat} (h : ∀ i, i < n → f i < 256) : ∀ i, i < n → sb f i < 256 := fun i hi => sbx_lt (h i hi)
set_option maxHeartbeats 1000000 in
theorem ofWord_ (g : Nat) (f : Nat → Nat) (w : World) (hc : Bx w g) (hf : ∀ i, i < 4 → f i < 256) :
    Calls Try.prog 112 #[.pointer (some ⟨g, 0, none⟩), .agg (rw8 4 f)] w fun e w' => e = .returned (.agg (rw8 4 (sb f))) ∧ Below w.heap.size w w' := by
  have hgl := hc.lt
  obtain ⟨A0, A1, B0⟩ := rnew2 w 148 4 f 148 4 (fun _ => 0)
  go_enter Try.func112, Try.ntmps112
  go_wp2_with (first | (refine wpList_al rfl _ rfl 4 (by exact zerow) ?_) | (refine wpList_ldw rfl _ _ rfl _ rfl _ _ 4 _ (by exact A0) (by omega) _ (by exact underw) rfl (by exact sizew) ?_))
  generalize (w.alloc (.cells (rw8 4 f) 148)).alloc (.cells (rw8 4 fun _ => 0) 148) = w1 at *
  go_loopw [8] (fun i wr => ∃ j : Nat, j ≤ 4 ∧ i = .int .i64 j ∧ Rw wr w.heap.size 148 4 (mix j (sb f) f) ∧ Rw wr (w.heap.size + 1) 148 4 (fun _ => 0) ∧ Below w.heap.size w wr) (fun i _ => 4 - (intOf i).toNat)
  case atStart => exact ⟨0, by omega, rfl, by rw [mix0]; exact A0, A1, B0⟩
  case round =>
    obtain ⟨j, hj, rfl, a0, a1, b0⟩ := hrel
    clear A0 A1 B0
    by_cases hlt : j < 4
    · have c0 := a0.byte j hlt
      have f0 := a0.fz j
      have hx := hf j hlt
      have cb := (hc.keep b0 hgl).box _ hx
      have ix := fun w => run_idx8 148 4 f j w underw hlt
      have A0 := a0.step
      have A1 := a1.other (g' := w.heap.size) (by omega) j (.int .u8 (sb f j : Nat))
      have B3 : Below w.heap.size w (wr.setCell ⟨w.heap.size, j, none⟩ (.int .u8 (sb f j : Nat))) := b0.setCell (Nat.le_refl _) _
      rw [show sb f j = sbx (f j) from rfl] at A0 A1 B3
      clear a0 a1 b0
      generalize mix j (sb f) f j = o at *
      generalize sbx (f j) = y at *
      generalize f j = x at *
      generalize rw8 4 f = F at *
      go_wp2_with fail
      go_roundw
      case rel => exact ⟨j + 1, by omega, by go_num, A0, A1, B3⟩
      case measure => simp [intOf]; omega
    · obtain rfl : j = 4 := by omega
      have a0 := a0.full
      go_wp2_with (first | (refine wpList_ldw rfl _ _ rfl _ rfl _ _ 4 _ (by exact a0) (by omega) _ (by exact underw) rfl (by exact sizew) ?_) | (refine wpList_stm rfl rfl _ _ _ rfl (w.heap.size + 1) 0 rfl 4 (sb f) rfl _ _ _ (by exact a1) (by omega) (by exact sizew) ?_))
      refine bodyPost_ret (v := .agg (rw8 4 (sb f))) ?_ rfl ⟨rfl, bel_cells (by omega) _ _ _ b0⟩
      exact results_rw rfl _ _ (w.heap.size + 1) 4 (sb f) _ rfl (a1.whole _) underw rfl sizew
set_option maxHeartbeats 1000000 in
theorem ofBlock_ (g : Nat) (f : Nat → Nat) (w : World) (hc : Bx w g) (hf : ∀ i, i < 16 → f i < 256) :
    Calls Try.prog 96 #[.pointer (some ⟨g, 0, none⟩), .agg (rw8 16 f)] w fun e w' => e = .returned (.agg (rw8 16 (sb f))) ∧ Below w.heap.size w w' := by
  have hgl := hc.lt
  obtain ⟨A0, A1, B0⟩ := rnew2 w 96 16 f 96 16 (fun _ => 0)
  go_enter Try.func96, Try.ntmps96
  go_wp2_with (first | (refine wpList_al rfl _ rfl 16 (by exact zeroa) ?_) | (refine wpList_ldw rfl _ _ rfl _ rfl _ _ 16 _ (by exact A0) (by omega) _ (by exact under16) rfl (by exact size16) ?_))
  generalize (w.alloc (.cells (rw8 16 f) 96)).alloc (.cells (rw8 16 fun _ => 0) 96) = w1 at *
  go_loopw [8] (fun i wr => ∃ j : Nat, j ≤ 16 ∧ i = .int .i64 j ∧ Rw wr w.heap.size 96 16 (mix j (sb f) f) ∧ Rw wr (w.heap.size + 1) 96 16 (fun _ => 0) ∧ Below w.heap.size w wr) (fun i _ => 16 - (intOf i).toNat)
  case atStart => exact ⟨0, by omega, rfl, by rw [mix0]; exact A0, A1, B0⟩
  case round =>
    obtain ⟨j, hj, rfl, a0, a1, b0⟩ := hrel
    clear A0 A1 B0
    by_cases hlt : j < 16
    · have c0 := a0.byte j hlt
      have f0 := a0.fz j
      have hx := hf j hlt
      have cb := (hc.keep b0 hgl).box _ hx
      have ix := fun w => run_idx8 96 16 f j w under16 hlt
      have A0 := a0.step
      have A1 := a1.other (g' := w.heap.size) (by omega) j (.int .u8 (sb f j : Nat))
      have B3 : Below w.heap.size w (wr.setCell ⟨w.heap.size, j, none⟩ (.int .u8 (sb f j : Nat))) := b0.setCell (Nat.le_refl _) _
      rw [show sb f j = sbx (f j) from rfl] at A0 A1 B3
      clear a0 a1 b0
      generalize mix j (sb f) f j = o at *
      generalize sbx (f j) = y at *
      generalize f j = x at *
      generalize rw8 16 f = F at *
      go_wp2_with fail
      go_roundw
      case rel => exact ⟨j + 1, by omega, by go_num, A0, A1, B3⟩
      case measure => simp [intOf]; omega
    · obtain rfl : j = 16 := by omega
      have a0 := a0.full
      go_wp2_with (first | (refine wpList_ldw rfl _ _ rfl _ rfl _ _ 16 _ (by exact a0) (by omega) _ (by exact under16) rfl (by exact size16) ?_) | (refine wpList_stm rfl rfl _ _ _ rfl (w.heap.size + 1) 0 rfl 16 (sb f) rfl _ _ _ (by exact a1) (by omega) (by exact size16) ?_))
      refine bodyPost_ret (v := .agg (rw8 16 (sb f))) ?_ rfl ⟨rfl, bel_cells (by omega) _ _ _ b0⟩
      exact results_rw rfl _ _ (w.heap.size + 1) 16 (sb f) _ rfl (a1.whole _) under16 rfl size16
def xr (f g : Nat → Nat) : Nat → Nat := fun i => f i ^^^ g i
theorem xr_lt {n : Nat} {f g : Nat → Nat} (h : ∀ i, i < n → f i < 256) (h' : ∀ i, i < n → g i < 256) : ∀ i, i < n → xr f g i < 256 := fun i hi => xor_lt8 (h i hi) (h' i hi)
set_option maxHeartbeats 1000000 in
theorem xorWords_ (f v : Nat → Nat) (w : World) (hf : ∀ i, i < 4 → f i < 256) (hv : ∀ i, i < 4 → v i < 256) :
    Calls Try.prog 114 #[.agg (rw8 4 f), .agg (rw8 4 v)] w fun e w' => e = .returned (.agg (rw8 4 (xr f v))) ∧ Below w.heap.size w w' := by
  obtain ⟨A0, A1, A2, B0⟩ := rnew3 w 148 4 f 148 4 v 148 4 (fun _ => 0)
  go_enter Try.func114, Try.ntmps114
  go_wp2_with (first | (refine wpList_al rfl _ rfl 4 (by exact zerow) ?_) | (refine wpList_ldw rfl _ _ rfl _ rfl _ _ 4 _ (by exact A1) (by omega) _ (by exact underw) rfl (by exact sizew) ?_))
  generalize ((w.alloc (.cells (rw8 4 f) 148)).alloc (.cells (rw8 4 v) 148)).alloc (.cells (rw8 4 fun _ => 0) 148) = w1 at *
  go_loopw [8] (fun i wr => ∃ j : Nat, j ≤ 4 ∧ i = .int .i64 j ∧ Rw wr w.heap.size 148 4 (mix j (xr f v) f) ∧ Rw wr (w.heap.size + 1 + 1) 148 4 (fun _ => 0) ∧ Below w.heap.size w wr) (fun i _ => 4 - (intOf i).toNat)
  case atStart => exact ⟨0, by omega, rfl, by rw [mix0]; exact A0, A2, B0⟩
  case round =>
    obtain ⟨j, hj, rfl, a0, a2, b0⟩ := hrel
    clear A0 A1 A2 B0
    by_cases hlt : j < 4
    · have c0 := a0.byte j hlt
      rw [mix_at] at c0
      have f0 := a0.fz j
      have ix := fun w => run_idx8 148 4 v j w underw hlt
      have HX : Hid (bits .xor .u8 (f j : Int) (v j : Int) = ((xr f v j : Nat) : Int)) := u8x (hf j hlt) (hv j hlt)
      have A0 := a0.step
      have A2 := a2.other (g' := w.heap.size) (by omega) j (.int .u8 (xr f v j : Nat))
      have B3 : Below w.heap.size w (wr.setCell ⟨w.heap.size, j, none⟩ (.int .u8 (xr f v j : Nat))) := b0.setCell (Nat.le_refl _) _
      rw [← HX.out] at A0 A2 B3
      clear a0 a2 b0 HX
      generalize f j = x at *
      generalize v j = y at *
      generalize rw8 4 v = V at *
      go_wp2_with fail
      go_roundw
      case rel => exact ⟨j + 1, by omega, by go_num, A0, A2, B3⟩
      case measure => simp [intOf]; omega
    · obtain rfl : j = 4 := by omega
      have a0 := a0.full
      go_wp2_with (first | (refine wpList_ldw rfl _ _ rfl _ rfl _ _ 4 _ (by exact a0) (by omega) _ (by exact underw) rfl (by exact sizew) ?_) | (refine wpList_stm rfl rfl _ _ _ rfl (w.heap.size + 1 + 1) 0 rfl 4 (xr f v) rfl _ _ _ (by exact a2) (by omega) (by exact sizew) ?_))
      refine bodyPost_ret (v := .agg (rw8 4 (xr f v))) ?_ rfl ⟨rfl, bel_cells (by omega) _ _ _ b0⟩
      exact results_rw rfl _ _ (w.heap.size + 1 + 1) 4 (xr f v) _ rfl (a2.whole _) underw rfl sizew
set_option maxHeartbeats 1000000 in
theorem xor16_ (f v : Nat → Nat) (w : World) (hf : ∀ i, i < 16 → f i < 256) (hv : ∀ i, i < 16 → v i < 256) :
    Calls Try.prog 72 #[.agg (rw8 16 f), .agg (rw8 16 v)] w fun e w' => e = .returned (.agg (rw8 16 (xr f v))) ∧ Below w.heap.size w w' := by
  obtain ⟨A0, A1, A2, B0⟩ := rnew3 w 96 16 f 96 16 v 96 16 (fun _ => 0)
  go_enter Try.func72, Try.ntmps72
  go_wp2_with (refine wpList_al rfl _ rfl 16 (by exact zeroa) ?_)
  generalize ((w.alloc (.cells (rw8 16 f) 96)).alloc (.cells (rw8 16 v) 96)).alloc (.cells (rw8 16 fun _ => 0) 96) = w1 at *
  go_loopw [6] (fun i wr => ∃ j : Nat, j ≤ 16 ∧ i = .int .i64 j ∧ Rw wr w.heap.size 96 16 (mix j (xr f v) f) ∧ Rw wr (w.heap.size + 1) 96 16 v ∧ Rw wr (w.heap.size + 1 + 1) 96 16 (fun _ => 0) ∧ Below w.heap.size w wr) (fun i _ => 16 - (intOf i).toNat)
  case atStart => exact ⟨0, by omega, rfl, by rw [mix0]; exact A0, A1, A2, B0⟩
  case round =>
    obtain ⟨j, hj, rfl, a0, a1, a2, b0⟩ := hrel
    clear A0 A1 A2 B0
    by_cases hlt : j < 16
    · have c0 := a0.byte j hlt
      rw [mix_at] at c0
      have c1 := a1.byte j hlt
      have f0 := a0.fz j
      have HX : Hid (bits .xor .u8 (f j : Int) (v j : Int) = ((xr f v j : Nat) : Int)) := u8x (hf j hlt) (hv j hlt)
      have A0 := a0.step
      have A1 := a1.other (g' := w.heap.size) (by omega) j (.int .u8 (xr f v j : Nat))
      have A2 := a2.other (g' := w.heap.size) (by omega) j (.int .u8 (xr f v j : Nat))
      have B3 : Below w.heap.size w (wr.setCell ⟨w.heap.size, j, none⟩ (.int .u8 (xr f v j : Nat))) := b0.setCell (Nat.le_refl _) _
      clear a0 a1 a2 b0
      generalize f j = x at *
      generalize v j = y at *
      go_wp2_with fail
      go_region
      rw [HX.out]
      clear c0 c1 f0 HX
      go_wp2_with fail
      go_roundw
      case rel => exact ⟨j + 1, by omega, by go_num, A0, A1, A2, bel_drawn B3 1⟩
      case measure => simp [intOf]; omega
    · obtain rfl : j = 16 := by omega
      have a0 := a0.full
      go_wp2_with (first | (refine wpList_ldw rfl _ _ rfl _ rfl _ _ 16 _ (by exact a0) (by omega) _ (by exact under16) rfl (by exact size16) ?_) | (refine wpList_stm rfl rfl _ _ _ rfl (w.heap.size + 1 + 1) 0 rfl 16 (xr f v) rfl _ _ _ (by exact a2) (by omega) (by exact size16) ?_))
      refine bodyPost_ret (v := .agg (rw8 16 (xr f v))) ?_ rfl ⟨rfl, bel_cells (by omega) _ _ _ b0⟩
      exact results_rw rfl _ _ (w.heap.size + 1 + 1) 16 (xr f v) _ rfl (a2.whole _) under16 rfl size16
/-- The rows turned. -/
def tr (f : Nat → Nat) : Nat → Nat := fun i => f ((i + 4 * (i % 4)) % 16)
theorem tr_sb (f : Nat → Nat) : ∀ i, i < 16 → tr (sb f) i = tn f i := fun i hi => by
  unfold tr sb tn
  rw [show (i + 4 * (i % 4)) % 16 = 4 * ((i / 4 + i % 4) % 4) + i % 4 from by omega]
set_option maxHeartbeats 1000000 in
theorem turnRows_ (f : Nat → Nat) (w : World) :
    Calls Try.prog 95 #[.agg (rw8 16 f)] w fun e w' => e = .returned (.agg (rw8 16 (tr f))) ∧ Below w.heap.size w w' := by
  obtain ⟨A0, A1, A2, B0⟩ := rnew3 w 96 16 f 96 16 (fun _ => 0) 96 16 (fun _ => 0)
  go_enter Try.func95, Try.ntmps95
  go_wp2_with (refine wpList_al rfl _ rfl 16 (by exact zeroa) ?_)
  generalize ((w.alloc (.cells (rw8 16 f) 96)).alloc (.cells (rw8 16 fun _ => 0) 96)).alloc (.cells (rw8 16 fun _ => 0) 96) = w1 at *
  go_loopw [6] (fun i wr => ∃ j : Nat, j ≤ 16 ∧ i = .int .i64 j ∧ Rw wr w.heap.size 96 16 f ∧ Rw wr (w.heap.size + 1) 96 16 (fun _ => 0) ∧ Rw wr (w.heap.size + 1 + 1) 96 16 (mix j (tr f) fun _ => 0) ∧ Below w.heap.size w wr) (fun i _ => 16 - (intOf i).toNat)
  case atStart => exact ⟨0, by omega, rfl, A0, A1, by rw [mix0]; exact A2, B0⟩
  case round =>
    obtain ⟨j, hj, rfl, a0, a1, a2, b0⟩ := hrel
    clear A0 A1 A2 B0
    by_cases hlt : j < 16
    · have c0 := a0.byte ((j + 4 * (j % 4)) % 16) (by omega)
      have c2 := a2.byte j hlt
      have f0 := a2.fz j
      have A0 := a0.other (g' := w.heap.size + 1 + 1) (by omega) j (.int .u8 (tr f j : Nat))
      have A1 := a1.other (g' := w.heap.size + 1 + 1) (by omega) j (.int .u8 (tr f j : Nat))
      have A2 := a2.step
      have B3 : Below w.heap.size w (wr.setCell ⟨w.heap.size + 1 + 1, j, none⟩ (.int .u8 (tr f j : Nat))) := b0.setCell (by show _ ≤ w.heap.size + 1 + 1; omega) _
      rw [show f ((j + 4 * (j % 4)) % 16) = tr f j from rfl] at c0
      clear a0 a1 a2 b0
      generalize tr f j = x at *
      generalize mix j (tr f) (fun _ => 0) j = o at *
      go_wp2_with fail
      go_roundw
      case rel => exact ⟨j + 1, by omega, by go_num, A0, A1, A2, B3⟩
      case measure => simp [intOf]; omega
    · obtain rfl : j = 16 := by omega
      have a2 := a2.full
      go_wp2_with (first | (refine wpList_ldw rfl _ _ rfl _ rfl _ _ 16 _ (by exact a2) (by omega) _ (by exact under16) rfl (by exact size16) ?_) | (refine wpList_stm rfl rfl _ _ _ rfl (w.heap.size + 1) 0 rfl 16 (tr f) rfl _ _ _ (by exact a1) (by omega) (by exact size16) ?_))
      refine bodyPost_ret (v := .agg (rw8 16 (tr f))) ?_ rfl ⟨rfl, bel_cells (by omega) _ _ _ b0⟩
      exact results_rw rfl _ _ (w.heap.size + 1) 16 (tr f) _ rfl (a1.whole _) under16 rfl size16
end Go.Proofs.Ytnjfckijpbgagaa
namespace Go.Proofs.Ytnjfckijpbgagaa
set_option maxRecDepth 100000
open Go.RowKit
set_option linter.unusedVariables false

theorem xor_self8 (a b : Nat) : a ^^^ b ^^^ a = b := by rw [Nat.xor_comm a b, Nat.xor_assoc, Nat.xor_self, Nat.xor_zero]
def al (f : Nat → Nat) : Nat := f 0 ^^^ f 1 ^^^ f 2 ^^^ f 3
/-- A column mixed. -/
def mc (f : Nat → Nat) : Nat → Nat := fun i => mul8 2 (f i ^^^ f ((i + 1) % 4)) ^^^ al f ^^^ f i
theorem al_lt {f : Nat → Nat} (h : ∀ i, i < 4 → f i < 256) : al f < 256 := xor_lt8 (xor_lt8 (xor_lt8 (h 0 (by omega)) (h 1 (by omega))) (h 2 (by omega))) (h 3 (by omega))
theorem mc_lt {f : Nat → Nat} (h : ∀ i, i < 4 → f i < 256) : ∀ i, i < 4 → mc f i < 256 := fun i hi => xor_lt8 (xor_lt8 (mul8_lt (by omega)) (al_lt h)) (h i hi)
set_option maxHeartbeats 1000000 in
theorem mixColumn_ (f : Nat → Nat) (w : World) (hf : ∀ i, i < 4 → f i < 256) :
    Calls Try.prog 116 #[.agg (rw8 4 f)] w fun e w' => e = .returned (.agg (rw8 4 (mc f))) ∧ Below w.heap.size w w' := by
  obtain ⟨A0, A1, B0⟩ := rnew2 w 148 4 f 148 4 (fun _ => 0)
  have c0 := A0.byte 0 (by omega)
  have c1 := A0.byte 1 (by omega)
  have c2 := A0.byte 2 (by omega)
  have c3 := A0.byte 3 (by omega)
  have x1 := u8x (hf 0 (by omega)) (hf 1 (by omega))
  have x2 := u8x (xor_lt8 (hf 0 (by omega)) (hf 1 (by omega))) (hf 2 (by omega))
  have x3 := u8x (xor_lt8 (xor_lt8 (hf 0 (by omega)) (hf 1 (by omega))) (hf 2 (by omega))) (hf 3 (by omega))
  have la := al_lt hf
  rw [show f 0 ^^^ f 1 ^^^ f 2 ^^^ f 3 = al f from rfl] at x3
  go_enter Try.func116, Try.ntmps116
  go_wp2_with (first | (refine wpList_al rfl _ rfl 4 (by exact zerow) ?_) | (refine wpList_ldw rfl _ _ rfl _ rfl _ _ 4 _ (by exact A0.alloc _) (by omega) _ (by exact underw) rfl (by exact sizew) ?_))
  have A2 := Rw.new ((w.alloc (.cells (rw8 4 f) 148)).alloc (.cells (rw8 4 fun _ => 0) 148)) 148 4 (fun _ => 0)
  rw [show ((w.alloc (.cells (rw8 4 f) 148)).alloc (.cells (rw8 4 fun _ => 0) 148)).heap.size = w.heap.size + 1 + 1 from by simp] at A2
  have A0 := A0.alloc (.cells (rw8 4 fun _ => 0) 148)
  have A1 := A1.alloc (.cells (rw8 4 fun _ => 0) 148)
  have B0 := B0.alloc (by simp; omega) (.cells (rw8 4 fun _ => 0) 148)
  generalize ((w.alloc (.cells (rw8 4 f) 148)).alloc (.cells (rw8 4 fun _ => 0) 148)).alloc (.cells (rw8 4 fun _ => 0) 148) = w1 at *
  clear c0 c1 c2 c3 x1 x2 x3
  go_loopw [20] (fun i wr => ∃ j : Nat, j ≤ 4 ∧ i = .int .i64 j ∧ Rw wr w.heap.size 148 4 f ∧ Rw wr (w.heap.size + 1) 148 4 (fun _ => 0) ∧ Rw wr (w.heap.size + 1 + 1) 148 4 (mix j (mc f) fun _ => 0) ∧ Below w.heap.size w wr) (fun i _ => 4 - (intOf i).toNat)
  case atStart => exact ⟨0, by omega, rfl, A0, A1, by rw [mix0]; exact A2, B0⟩
  case round =>
    obtain ⟨j, hj, rfl, a0, a1, a2, b0⟩ := hrel
    clear A0 A1 A2 B0
    by_cases hlt : j < 4
    · have c0 := a0.byte ((j + 1) % 4) (by omega)
      have c2 := a2.byte j hlt
      have f2 := a2.fz j
      have ix := fun w => run_idx8 148 4 f j w underw hlt
      have lx := hf j hlt
      have ly := hf ((j + 1) % 4) (by omega)
      have x1 := u8x lx ly
      have lm : mul8 2 (f j ^^^ f ((j + 1) % 4)) < 256 := mul8_lt (by omega)
      have x2 := u8x lm la
      have HX : Hid (bits .xor .u8 ((mul8 2 (f j ^^^ f ((j + 1) % 4)) ^^^ al f : Nat) : Int) (f j : Int) = ((mc f j : Nat) : Int)) := u8x (xor_lt8 lm la) lx
      have k1 := fun w => mul8_ 2 (f j ^^^ f ((j + 1) % 4)) w (by omega) (xor_lt8 lx ly)
      have A0 := a0.other (g' := w.heap.size + 1 + 1) (by omega) j (.int .u8 (mc f j : Nat))
      have A1 := a1.other (g' := w.heap.size + 1 + 1) (by omega) j (.int .u8 (mc f j : Nat))
      have A2 := a2.step
      have B3 : Below w.heap.size w (wr.setCell ⟨w.heap.size + 1 + 1, j, none⟩ (.int .u8 (mc f j : Nat))) := b0.setCell (by show _ ≤ w.heap.size + 1 + 1; omega) _
      rw [← HX.out] at A0 A1 A2 B3
      clear a0 a1 a2 b0 HX lx ly lm
      generalize mix j (mc f) (fun _ => 0) j = o at *
      generalize mul8 2 (f j ^^^ f ((j + 1) % 4)) = m at *
      generalize f j ^^^ f ((j + 1) % 4) = z at *
      generalize f ((j + 1) % 4) = y at *
      generalize f j = x at *
      generalize m ^^^ al f = q at *
      generalize rw8 4 f = F at *
      generalize al f = al at *
      go_wp2_with fail
      refine (k1 _).mono ?_
      rintro e w3 ⟨rfl, rfl⟩
      clear k1
      go_wp2_with fail
      go_roundw
      case rel => exact ⟨j + 1, by omega, by go_num, A0, A1, A2, B3⟩
      case measure => simp [intOf]; omega
    · obtain rfl : j = 4 := by omega
      have a2 := a2.full
      go_wp2_with (first | (refine wpList_ldw rfl _ _ rfl _ rfl _ _ 4 _ (by with_reducible exact a2) (by omega) _ (by exact underw) rfl (by exact sizew) ?_) | (refine wpList_stm rfl rfl _ _ _ rfl (w.heap.size + 1) 0 rfl 4 (mc f) rfl _ _ _ (by with_reducible exact a1) (by omega) (by exact sizew) ?_))
      refine bodyPost_ret (v := .agg (rw8 4 (mc f))) ?_ rfl ⟨rfl, bel_cells (by omega) _ _ _ b0⟩
      exact results_rw rfl _ _ (w.heap.size + 1) 4 (mc f) _ rfl (a1.whole _) underw rfl sizew
theorem underws : Try.prog.underlying 160 = some (.array 4 148) := by kernel_rfl
theorem sizews : (Try.prog.info? 160).map (·.size) = some 16 := by kernel_rfl
theorem zerows : (Try.prog.info? 160).map (·.zero) = some (some (.agg (rw8 16 fun _ => 0))) := by kernel_rfl
set_option maxHeartbeats 1000000 in
theorem splitColumns_ (f : Nat → Nat) (w : World) :
    Calls Try.prog 115 #[.agg (rw8 16 f)] w fun e w' => e = .returned (.agg (rw8 16 f)) ∧ Below w.heap.size w w' := by
  obtain ⟨A0, A1, A2, B0⟩ := rnew3 w 96 16 f 160 16 (fun _ => 0) 160 16 (fun _ => 0)
  go_enter Try.func115, Try.ntmps115
  go_wp2_with (refine wpList_al rfl _ rfl 16 (by exact zerows) ?_)
  generalize ((w.alloc (.cells (rw8 16 f) 96)).alloc (.cells (rw8 16 fun _ => 0) 160)).alloc (.cells (rw8 16 fun _ => 0) 160) = w1 at *
  go_loopw [5] (fun i wr => ∃ j : Nat, j ≤ 4 ∧ i = .int .i64 j ∧ Rw wr w.heap.size 96 16 f ∧ Rw wr (w.heap.size + 1) 160 16 (fun _ => 0) ∧ Rw wr (w.heap.size + 1 + 1) 160 16 (mix (4 * j) f fun _ => 0) ∧ Below w.heap.size w wr) (fun i _ => 4 - (intOf i).toNat)
  case atStart => exact ⟨0, by omega, rfl, A0, A1, by rw [Nat.mul_zero, mix0]; exact A2, B0⟩
  case round =>
    obtain ⟨j, hj, rfl, a0, a1, a2, b0⟩ := hrel
    clear A0 A1 A2 B0
    by_cases hlt : j < 4
    · have sr := run_arr 148 4 5 underw
      have sc := fun w' => run_cut4 96 16 5 1 under16 size1 w.heap.size j (4 * j) (by omega) (by omega) w'
      have A0 := a0.omid (g' := w.heap.size + 1 + 1) (by omega) (4 * j) (rw8 4 (from8 (4 * j) f)).toList
      have A1 := a1.omid (g' := w.heap.size + 1 + 1) (by omega) (4 * j) (rw8 4 (from8 (4 * j) f)).toList
      have A2 := a2.stepm
      have B3 : Below w.heap.size w (wr.setCells (w.heap.size + 1 + 1) (4 * j) (rw8 4 (from8 (4 * j) f)).toList) := bel_cells (by omega) _ _ _ b0
      go_wp2_with (first | (refine wpList_ldm rfl _ _ rfl w.heap.size (4 * j) rfl _ _ 4 f (by with_reducible exact a0) (by omega) _ (by exact underw) rfl (by exact sizew) ?_) | (refine wpList_stm rfl rfl _ _ _ rfl (w.heap.size + 1 + 1) (j * 4) rfl 4 (from8 (4 * j) f) rfl _ _ _ (by with_reducible exact a2) (by omega) (by exact sizew) ?_; rw [Nat.mul_comm j 4]))
      go_roundw
      case rel => exact ⟨j + 1, by omega, by go_num, A0, A1, A2, B3⟩
      case measure => simp [intOf]; omega
    · obtain rfl : j = 4 := by omega
      have a2 := a2.full
      go_wp2_with (first | (refine wpList_ldw rfl _ _ rfl _ rfl _ _ 16 _ (by with_reducible exact a2) (by omega) _ (by exact underws) rfl (by exact sizews) ?_) | (refine wpList_stm rfl rfl _ _ _ rfl (w.heap.size + 1) 0 rfl 16 f rfl _ _ _ (by with_reducible exact a1) (by omega) (by exact sizews) ?_))
      refine bodyPost_ret (v := .agg (rw8 16 f)) ?_ rfl ⟨rfl, bel_cells (by omega) _ _ _ b0⟩
      exact results_rw rfl _ _ (w.heap.size + 1) 16 f _ rfl (a1.whole _) underws rfl sizews
end Go.Proofs.Ytnjfckijpbgagaa
