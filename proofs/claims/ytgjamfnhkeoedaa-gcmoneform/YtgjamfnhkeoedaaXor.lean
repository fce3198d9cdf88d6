import Derived.Test.YtgjamfnhkeoedaaBase
namespace Go.Proofs.Ytgjamfnhkeoedaa
open Go.RowKit
set_option linter.unusedVariables false

theorem xor8 (x y : Nat) (hx : x < 256) (hy : y < 256) : bits .xor .u8 (x : Int) (y : Int) = ((x ^^^ y : Nat) : Int) := u8_xor_nat x y hx hy

theorem three (w : World) (x y z : Array Value) : Ar (((w.alloc (.cells x 44)).alloc (.cells y 44)).alloc (.cells z 44)) w.heap.size x ∧ Ar (((w.alloc (.cells x 44)).alloc (.cells y 44)).alloc (.cells z 44)) (w.heap.size + 1) y ∧ Ar (((w.alloc (.cells x 44)).alloc (.cells y 44)).alloc (.cells z 44)) (w.heap.size + 1 + 1) z ∧ Below w.heap.size w (((w.alloc (.cells x 44)).alloc (.cells y 44)).alloc (.cells z 44)) := by
  refine ⟨((Ar.new w x).alloc _).alloc _, ?_, ?_, (((Below.refl _ _).alloc (Nat.le_refl _) _).alloc (by simp) _).alloc (by simp; omega) _⟩
  · have := (Ar.new (w.alloc (.cells x 44)) y).alloc (.cells z 44)
    simpa using this
  · have := Ar.new ((w.alloc (.cells x 44)).alloc (.cells y 44)) z
    simpa using this

set_option maxHeartbeats 1000000 in
theorem xor_ (A B : Nat) (w : World) :
    Calls Try.prog 26 #[.agg (bv A), .agg (bv B)] w fun e w' => e = .returned (.agg (bv (A ^^^ B))) ∧ Below w.heap.size w w' := by
  have s1 := bv_size A
  have s2 := bv_size B
  go_enter Try.func26, Try.ntmps26
  go_wp2_with fail
  rw [zeros16]
  obtain ⟨A0, A1, A2, B0⟩ := three w (bv A) (bv B) (bv 0)
  generalize ((w.alloc (.cells (bv A) 44)).alloc (.cells (bv B) 44)).alloc (.cells (bv 0) 44) = w1 at *
  go_loopw [6] (fun i wr => ∃ j : Nat, j ≤ 16 ∧ i = .int .i64 j ∧ Ar wr w.heap.size (av (mix j (dg (A ^^^ B)) (dg A))) ∧ Ar wr (w.heap.size + 1) (bv B) ∧ Ar wr (w.heap.size + 1 + 1) (bv 0) ∧ Below w.heap.size w wr) (fun i _ => 16 - (intOf i).toNat)
  case atStart => exact ⟨0, by omega, rfl, by rw [mix_zero]; exact A0, A1, A2, B0⟩
  case round =>
    obtain ⟨j, hj, rfl, a0, a1, a2, b0⟩ := hrel
    clear A0 A1 A2 B0
    by_cases hlt : j < 16
    · have c0 := a0.byte j hlt
      rw [mix_at] at c0
      have c1 := (a1.cell j).trans (bv_get B j hlt)
      have hf := a0.fz j
      have HX : Hid (bits .xor .u8 (dg A j : Int) (dg B j : Int) = ((dg (A ^^^ B) j : Nat) : Int)) := by
        show _ = _; rw [u8_xor_nat _ _ (dg_lt A j) (dg_lt B j), dg_xor]
      have HS := hid (mix_set j (dg (A ^^^ B)) (dg A))
      generalize dg A j = x at *
      generalize dg B j = y at *
      go_wp2_with fail
      go_region
      rw [HX.out]
      have A3 := a0.set j (.int .u8 (dg (A ^^^ B) j : Nat))
      rw [HS.out] at A3
      have A4 := a1.other (g' := w.heap.size) (by omega) j (.int .u8 (dg (A ^^^ B) j : Nat))
      have A5 := a2.other (g' := w.heap.size) (by omega) j (.int .u8 (dg (A ^^^ B) j : Nat))
      have B3 : Below w.heap.size w (wr.setCell ⟨w.heap.size, j, none⟩ (.int .u8 (dg (A ^^^ B) j : Nat))) := b0.setCell (Nat.le_refl _) _
      generalize dg (A ^^^ B) j = z at *
      clear a0 a1 a2 b0 c0 c1 hf HS HX
      go_wp2_with fail
      go_roundw
      case rel => exact ⟨j + 1, by omega, by go_num, A3, A4, A5, bel_drawn B3 1⟩
      case measure => simp [intOf]; omega
    · obtain rfl : j = 16 := by omega
      rw [mix_all, av_bv] at a0
      have S := bv_size (A ^^^ B)
      have S0 := bv_size 0
      go_wp2_with (first | (refine wpList_ld rfl _ rfl w.heap.size rfl _ a0 S ?_) | (refine wpList_st rfl rfl _ _ rfl (w.heap.size + 1 + 1) (A ^^^ B) rfl rfl _ a2 S0 ?_))
      refine bodyPost_ret (v := .agg (bv (A ^^^ B))) ?_ rfl ⟨rfl, bel_row b0 (by omega) _⟩
      exact results_bv rfl _ _ (w.heap.size + 1 + 1) (A ^^^ B) rfl (a2.row _)
end Go.Proofs.Ytgjamfnhkeoedaa
