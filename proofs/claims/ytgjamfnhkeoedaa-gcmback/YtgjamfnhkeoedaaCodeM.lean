import Derived.Test.YtgjamfnhkeoedaaCodeW
import Derived.Deep.RegionLaw
namespace Go.Proofs.Ytgjamfnhkeoedaa
open Go.RowKit
set_option linter.unusedVariables false

theorem xor_self8 (a b : Nat) : a ^^^ b ^^^ a = b := by rw [Nat.xor_comm a b, Nat.xor_assoc, Nat.xor_self, Nat.xor_zero]
def al (f : Nat → Nat) : Nat := f 0 ^^^ f 1 ^^^ f 2 ^^^ f 3
/-- A column mixed. -/
def mc (f : Nat → Nat) : Nat → Nat := fun i => mul8 2 (f i ^^^ f ((i + 1) % 4)) ^^^ al f ^^^ f i
theorem al_lt {f : Nat → Nat} (h : ∀ i, i < 4 → f i < 256) : al f < 256 := xor_lt8 (xor_lt8 (xor_lt8 (h 0 (by omega)) (h 1 (by omega))) (h 2 (by omega))) (h 3 (by omega))
theorem mc_lt {f : Nat → Nat} (h : ∀ i, i < 4 → f i < 256) : ∀ i, i < 4 → mc f i < 256 := fun i hi => xor_lt8 (xor_lt8 (mul8_lt (by omega)) (al_lt h)) (h i hi)
set_option maxHeartbeats 1000000 in
theorem mixColumn_ (f : Nat → Nat) (w : World) (hf : ∀ i, i < 4 → f i < 256) :
    Calls Try.prog 57 #[.agg (rw8 4 f)] w fun e w' => e = .returned (.agg (rw8 4 (mc f))) ∧ Below w.heap.size w w' := by
  obtain ⟨A0, A1, B0⟩ := rnew2 w 77 4 f 77 4 (fun _ => 0)
  have c0 := A0.byte 0 (by omega)
  have c1 := A0.byte 1 (by omega)
  have c2 := A0.byte 2 (by omega)
  have c3 := A0.byte 3 (by omega)
  have x1 := u8x (hf 0 (by omega)) (hf 1 (by omega))
  have x2 := u8x (xor_lt8 (hf 0 (by omega)) (hf 1 (by omega))) (hf 2 (by omega))
  have x3 := u8x (xor_lt8 (xor_lt8 (hf 0 (by omega)) (hf 1 (by omega))) (hf 2 (by omega))) (hf 3 (by omega))
  have la := al_lt hf
  rw [show f 0 ^^^ f 1 ^^^ f 2 ^^^ f 3 = al f from rfl] at x3
  go_enter Try.func57, Try.ntmps57
  go_wp2_with (first | (refine wpList_al rfl _ rfl 4 (by exact zerow) ?_) | (refine wpList_ldw rfl _ _ rfl _ rfl _ _ 4 _ (by exact A0.alloc _) (by omega) _ (by exact underw) rfl (by exact sizew) ?_))
  have A2 := Rw.new ((w.alloc (.cells (rw8 4 f) 77)).alloc (.cells (rw8 4 fun _ => 0) 77)) 77 4 (fun _ => 0)
  rw [show ((w.alloc (.cells (rw8 4 f) 77)).alloc (.cells (rw8 4 fun _ => 0) 77)).heap.size = w.heap.size + 1 + 1 from by simp] at A2
  have A0 := A0.alloc (.cells (rw8 4 fun _ => 0) 77)
  have A1 := A1.alloc (.cells (rw8 4 fun _ => 0) 77)
  have B0 := B0.alloc (by simp; omega) (.cells (rw8 4 fun _ => 0) 77)
  generalize ((w.alloc (.cells (rw8 4 f) 77)).alloc (.cells (rw8 4 fun _ => 0) 77)).alloc (.cells (rw8 4 fun _ => 0) 77) = w1 at *
  clear c0 c1 c2 c3 x1 x2 x3
  go_loopw [20] (fun i wr => ∃ j : Nat, j ≤ 4 ∧ i = .int .i64 j ∧ Rw wr w.heap.size 77 4 f ∧ Rw wr (w.heap.size + 1) 77 4 (fun _ => 0) ∧ Rw wr (w.heap.size + 1 + 1) 77 4 (mix j (mc f) fun _ => 0) ∧ Below w.heap.size w wr) (fun i _ => 4 - (intOf i).toNat)
  case atStart => exact ⟨0, by omega, rfl, A0, A1, by rw [mix0]; exact A2, B0⟩
  case round =>
    obtain ⟨j, hj, rfl, a0, a1, a2, b0⟩ := hrel
    clear A0 A1 A2 B0
    by_cases hlt : j < 4
    · have c0 := a0.byte ((j + 1) % 4) (by omega)
      have c2 := a2.byte j hlt
      have f2 := a2.fz j
      have ix := fun w => run_idx8 77 4 f j w underw hlt
      have lx := hf j hlt
      have ly := hf ((j + 1) % 4) (by omega)
      have x1 := u8x lx ly
      have lm : mul8 2 (f j ^^^ f ((j + 1) % 4)) < 256 := mul8_lt (by omega)
      have x2 := u8x lm la
      have HX : Hid (bits .xor .u8 ((mul8 2 (f j ^^^ f ((j + 1) % 4)) ^^^ al f : Nat) : Int) (f j : Int) = ((mc f j : Nat) : Int)) := u8x (xor_lt8 lm la) lx
      have k1 := fun w => mul8_ 2 (f j ^^^ f ((j + 1) % 4)) w (by omega) (xor_lt8 lx ly)
      have A0 := a0.other (g' := w.heap.size + 1 + 1) (by omega) j (.int .u8 (mc f j : Nat))
      have A1 := a1.other (g' := w.heap.size + 1 + 1) (by omega) j (.int .u8 (mc f j : Nat))
      have A2 := a2.step
      have B3 : Below w.heap.size w (wr.setCell ⟨w.heap.size + 1 + 1, j, none⟩ (.int .u8 (mc f j : Nat))) := b0.setCell (by show _ ≤ w.heap.size + 1 + 1; omega) _
      rw [← HX.out] at A0 A1 A2 B3
      clear a0 a1 a2 b0 HX lx ly lm
      generalize mix j (mc f) (fun _ => 0) j = o at *
      generalize mul8 2 (f j ^^^ f ((j + 1) % 4)) = m at *
      generalize f j ^^^ f ((j + 1) % 4) = z at *
      generalize f ((j + 1) % 4) = y at *
      generalize f j = x at *
      generalize m ^^^ al f = q at *
      generalize rw8 4 f = F at *
      generalize al f = al at *
      go_wp2_with fail
      refine (k1 _).mono ?_
      rintro e w3 ⟨rfl, rfl⟩
      clear k1
      go_wp2_with fail
      go_roundw
      case rel => exact ⟨j + 1, by omega, by go_num, A0, A1, A2, B3⟩
      case measure => simp [intOf]; omega
    · obtain rfl : j = 4 := by omega
      have a2 := a2.full
      go_wp2_with (first | (refine wpList_ldw rfl _ _ rfl _ rfl _ _ 4 _ (by with_reducible exact a2) (by omega) _ (by exact underw) rfl (by exact sizew) ?_) | (refine wpList_stm rfl rfl _ _ _ rfl (w.heap.size + 1) 0 rfl 4 (mc f) rfl _ _ _ (by with_reducible exact a1) (by omega) (by exact sizew) ?_))
      refine bodyPost_ret (v := .agg (rw8 4 (mc f))) ?_ rfl ⟨rfl, bel_cells (by omega) _ _ _ b0⟩
      exact results_rw rfl _ _ (w.heap.size + 1) 4 (mc f) _ rfl (a1.whole _) underw rfl sizew
theorem underws : Try.prog.underlying 84 = some (.array 4 77) := by kernel_rfl
theorem sizews : (Try.prog.info? 84).map (·.size) = some 16 := by kernel_rfl
theorem zerows : (Try.prog.info? 84).map (·.zero) = some (some (.agg (rw8 16 fun _ => 0))) := by kernel_rfl
set_option maxHeartbeats 1000000 in
theorem splitColumns_ (f : Nat → Nat) (w : World) :
    Calls Try.prog 56 #[.agg (rw8 16 f)] w fun e w' => e = .returned (.agg (rw8 16 f)) ∧ Below w.heap.size w w' := by
  obtain ⟨A0, A1, A2, B0⟩ := rnew3 w 44 16 f 84 16 (fun _ => 0) 84 16 (fun _ => 0)
  go_enter Try.func56, Try.ntmps56
  go_wp2_with (refine wpList_al rfl _ rfl 16 (by exact zerows) ?_)
  generalize ((w.alloc (.cells (rw8 16 f) 44)).alloc (.cells (rw8 16 fun _ => 0) 84)).alloc (.cells (rw8 16 fun _ => 0) 84) = w1 at *
  go_loopw [5] (fun i wr => ∃ j : Nat, j ≤ 4 ∧ i = .int .i64 j ∧ Rw wr w.heap.size 44 16 f ∧ Rw wr (w.heap.size + 1) 84 16 (fun _ => 0) ∧ Rw wr (w.heap.size + 1 + 1) 84 16 (mix (4 * j) f fun _ => 0) ∧ Below w.heap.size w wr) (fun i _ => 4 - (intOf i).toNat)
  case atStart => exact ⟨0, by omega, rfl, A0, A1, by rw [Nat.mul_zero, mix0]; exact A2, B0⟩
  case round =>
    obtain ⟨j, hj, rfl, a0, a1, a2, b0⟩ := hrel
    clear A0 A1 A2 B0
    by_cases hlt : j < 4
    · have sr := run_arr 77 4 5 underw
      have sc := fun w' => run_cut4 44 16 5 1 under16 size1 w.heap.size j (4 * j) (by omega) (by omega) w'
      have A0 := a0.omid (g' := w.heap.size + 1 + 1) (by omega) (4 * j) (rw8 4 (from8 (4 * j) f)).toList
      have A1 := a1.omid (g' := w.heap.size + 1 + 1) (by omega) (4 * j) (rw8 4 (from8 (4 * j) f)).toList
      have A2 := a2.stepm
      have B3 : Below w.heap.size w (wr.setCells (w.heap.size + 1 + 1) (4 * j) (rw8 4 (from8 (4 * j) f)).toList) := bel_cells (by omega) _ _ _ b0
      go_wp2_with (first | (refine wpList_ldm rfl _ _ rfl w.heap.size (4 * j) rfl _ _ 4 f (by with_reducible exact a0) (by omega) _ (by exact underw) rfl (by exact sizew) ?_) | (refine wpList_stm rfl rfl _ _ _ rfl (w.heap.size + 1 + 1) (j * 4) rfl 4 (from8 (4 * j) f) rfl _ _ _ (by with_reducible exact a2) (by omega) (by exact sizew) ?_; rw [Nat.mul_comm j 4]))
      go_roundw
      case rel => exact ⟨j + 1, by omega, by go_num, A0, A1, A2, B3⟩
      case measure => simp [intOf]; omega
    · obtain rfl : j = 4 := by omega
      have a2 := a2.full
      go_wp2_with (first | (refine wpList_ldw rfl _ _ rfl _ rfl _ _ 16 _ (by with_reducible exact a2) (by omega) _ (by exact underws) rfl (by exact sizews) ?_) | (refine wpList_stm rfl rfl _ _ _ rfl (w.heap.size + 1) 0 rfl 16 f rfl _ _ _ (by with_reducible exact a1) (by omega) (by exact sizews) ?_))
      refine bodyPost_ret (v := .agg (rw8 16 f)) ?_ rfl ⟨rfl, bel_cells (by omega) _ _ _ b0⟩
      exact results_rw rfl _ _ (w.heap.size + 1) 16 f _ rfl (a1.whole _) underws rfl sizews
end Go.Proofs.Ytgjamfnhkeoedaa
