import Derived.Test.YtgjamfnhkeoedaaMul
namespace Go.Proofs.Ytgjamfnhkeoedaa
open Go.RowKit
set_option linter.unusedVariables false

set_option maxHeartbeats 1000000 in
theorem refXor_ (A B : Nat) (w : World) :
    Calls Try.prog 36 #[.agg (bv A), .agg (bv B)] w fun e w' => e = .returned (.agg (bv (A ^^^ B))) ∧ Below w.heap.size w w' := by
  obtain ⟨A0, A1, A2, A3, B0⟩ := four w (bv A) (bv B) (bv 0) (bv 0)
  go_enter Try.func36, Try.ntmps36
  go_wp2_with fail
  rw [zeros16]
  generalize (((w.alloc (.cells (bv A) 44)).alloc (.cells (bv B) 44)).alloc (.cells (bv 0) 44)).alloc (.cells (bv 0) 44) = w1 at *
  go_loopw [6] (fun i wr => ∃ j : Nat, j ≤ 16 ∧ i = .int .i64 j ∧ Ar wr w.heap.size (bv A) ∧ Ar wr (w.heap.size + 1) (bv B) ∧ Ar wr (w.heap.size + 1 + 1) (bv 0) ∧ Ar wr (w.heap.size + 1 + 1 + 1) (av (mix j (dg (A ^^^ B)) (dg 0))) ∧ Below w.heap.size w wr) (fun i _ => 16 - (intOf i).toNat)
  case atStart => exact ⟨0, by omega, rfl, A0, A1, A2, by rw [mix_zero]; exact A3, B0⟩
  case round =>
    obtain ⟨j, hj, rfl, a0, a1, a2, a3, b0⟩ := hrel
    clear A0 A1 A2 A3 B0
    by_cases hlt : j < 16
    · have c0 := (a0.cell j).trans (bv_get A j hlt)
      have c1 := (a1.cell j).trans (bv_get B j hlt)
      have c3 := a3.byte j hlt
      have hf := a3.fz j
      have HX : Hid (bits .xor .u8 (dg A j : Int) (dg B j : Int) = ((dg (A ^^^ B) j : Nat) : Int)) := by
        show _ = _; rw [u8_xor_nat _ _ (dg_lt A j) (dg_lt B j), dg_xor]
      have HS := hid (mix_set j (dg (A ^^^ B)) (dg 0))
      generalize dg A j = x at *
      generalize dg B j = y at *
      generalize mix j (dg (A ^^^ B)) (dg 0) j = o at *
      go_wp2_with fail
      go_region
      rw [HX.out]
      have A3 := a3.set j (.int .u8 (dg (A ^^^ B) j : Nat))
      rw [HS.out] at A3
      have A4 := a0.other (g' := w.heap.size + 1 + 1 + 1) (by omega) j (.int .u8 (dg (A ^^^ B) j : Nat))
      have A5 := a1.other (g' := w.heap.size + 1 + 1 + 1) (by omega) j (.int .u8 (dg (A ^^^ B) j : Nat))
      have A6 := a2.other (g' := w.heap.size + 1 + 1 + 1) (by omega) j (.int .u8 (dg (A ^^^ B) j : Nat))
      have B3 : Below w.heap.size w (wr.setCell ⟨w.heap.size + 1 + 1 + 1, j, none⟩ (.int .u8 (dg (A ^^^ B) j : Nat))) := b0.setCell (by show _ ≤ w.heap.size + 1 + 1 + 1; omega) _
      generalize dg (A ^^^ B) j = z at *
      clear a0 a1 a2 a3 b0 c0 c1 c3 hf HS HX
      go_wp2_with fail
      go_roundw
      case rel => exact ⟨j + 1, by omega, by go_num, A4, A5, A6, A3, bel_drawn B3 1⟩
      case measure => simp [intOf]; omega
    · obtain rfl : j = 16 := by omega
      rw [mix_all, av_bv] at a3
      have S := bv_size (A ^^^ B)
      have S0 := bv_size 0
      go_wp2_with (first | (refine wpList_ld rfl _ rfl (w.heap.size + 1 + 1 + 1) rfl _ a3 S ?_) | (refine wpList_st rfl rfl _ _ rfl (w.heap.size + 1 + 1) (A ^^^ B) rfl rfl _ a2 S0 ?_))
      refine bodyPost_ret (v := .agg (bv (A ^^^ B))) ?_ rfl ⟨rfl, bel_row b0 (by omega) _⟩
      exact results_bv rfl _ _ (w.heap.size + 1 + 1) (A ^^^ B) rfl (a2.row _)

theorem and_spell (b j : Nat) (h : b < 256) : bits .and .u8 ((b : Int) / 2 ^ j) 1 = ((b / 2 ^ j % 2 : Nat) : Int) := by
  have hl : b / 2 ^ j < 256 := Nat.lt_of_le_of_lt (Nat.div_le_self _ _) h
  have := u8_and_nat (b / 2 ^ j) 1 hl (by omega)
  rw [show b / 2 ^ j &&& 1 = b / 2 ^ j % 2 from Nat.and_two_pow_sub_one_eq_mod _ 1, Int.natCast_ediv, Int.natCast_pow] at this
  exact this
set_option maxRecDepth 100000 in
set_option maxHeartbeats 1000000 in
theorem coef_ (X i : Nat) (w : World) (hi : i < 128) :
    Calls Try.prog 59 #[.agg (bv X), .int .i64 i] w fun e w' => e = .returned (.int .u8 (X / 2 ^ (127 - i) % 2 : Nat)) ∧ Below w.heap.size w w' := by
  have c0 : (w.alloc (.cells (bv X) 44)).cell? ⟨w.heap.size, i / 8, none⟩ = some (.int .u8 (dg X (i / 8) : Nat)) := ((Ar.new w (bv X)).cell (i / 8)).trans (bv_get X (i / 8) (by omega))
  have B0 : Below w.heap.size w (w.alloc (.cells (bv X) 44)) := (Below.refl _ _).alloc (Nat.le_refl _) _
  have HC := hid (dg_coef X i hi)
  have hb := and_spell (dg X (i / 8)) (7 - i % 8) (dg_lt _ _)
  rw [HC.out] at hb
  clear HC
  obtain ⟨q, HQ⟩ : ∃ q, Hid (X / 2 ^ (127 - i) % 2 = q) := ⟨_, rfl⟩
  rw [HQ.out] at hb
  generalize dg X (i / 8) = x at *
  go_enter Try.func59, Try.ntmps59
  go_wp2_with fail
  go_ret
  exact ⟨by rw [HQ.out]; rfl, B0⟩
end Go.Proofs.Ytgjamfnhkeoedaa
