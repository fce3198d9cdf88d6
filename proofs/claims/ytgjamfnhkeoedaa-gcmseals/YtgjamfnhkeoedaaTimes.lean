import Derived.Test.YtgjamfnhkeoedaaXor
import Derived.Test.YtgjamfnhkeoedaaEight
namespace Go.Proofs.Ytgjamfnhkeoedaa
open Go.RowKit
set_option linter.unusedVariables false

theorem two (w : World) (x y : Array Value) : Ar ((w.alloc (.cells x 44)).alloc (.cells y 44)) w.heap.size x ∧ Ar ((w.alloc (.cells x 44)).alloc (.cells y 44)) (w.heap.size + 1) y ∧ Below w.heap.size w ((w.alloc (.cells x 44)).alloc (.cells y 44)) := by
  refine ⟨(Ar.new w x).alloc _, ?_, ((Below.refl _ _).alloc (Nat.le_refl _) _).alloc (by simp) _⟩
  have := Ar.new (w.alloc (.cells x 44)) y
  simpa using this
theorem run_index16 (cs : Array Value) (x j : Nat) (w : World) (hj : j < 16) (hc : cs[j]? = some (.int .u8 x)) :
    (Instr.index 44 (.agg cs) (.int .i64 j)).run Try.prog w = .ok (.int .u8 x) w := by
  have h1 : (0 : Int) ≤ (j : Int) ∧ (j : Int) < 16 := by omega
  simp [Instr.index, run_underlying under16, asIntOf, h1, part, hc, go_sem]
  exact fun h => by omega
/-- What goes over from the byte ahead of i. -/
def ovr (B i : Nat) : Nat := if i = 0 then 0 else dg B (i - 1) % 2
theorem ovr_lt (B i : Nat) : ovr B i < 2 := by unfold ovr; split <;> omega
theorem half_or (B i : Nat) (hB : B < 2 ^ 128) (hi : i < 16) : dg B i / 2 ||| ovr B i * 128 = dg (B / 2) i := by
  cases i with
  | zero => rw [dg_half0 B hB]; simp [ovr]
  | succ i =>
    have : ovr B (i + 1) = dg B i % 2 := by simp [ovr]
    rw [this, dg_half B i (by omega)]
    exact or7 _ _ (dg_lt _ _)
theorem half_spell (B i : Nat) (hB : B < 2 ^ 128) (hi : i < 16) : bits .or .u8 ((dg B i : Int) / 2) ((ovr B i : Int) * 128 % 256) = ((dg (B / 2) i : Nat) : Int) := by
  have h1 := dg_lt B i
  have h2 := ovr_lt B i
  rw [← half_or B i hB hi, show (ovr B i : Int) * 128 % 256 = ((ovr B i * 128 : Nat) : Int) from by omega, show (dg B i : Int) / 2 = ((dg B i / 2 : Nat) : Int) from by omega]
  exact u8_or_nat _ _ (by omega) (by omega)
theorem tx_one {B : Nat} (h : B % 2 = 1) : ∀ i, i < 16 → dg (tx B) i = if i = 0 then dg (B / 2) 0 ^^^ 225 else dg (B / 2) i := by
  intro i hi
  unfold tx
  rw [if_pos h, dg_xor, dg_poly i hi]
  by_cases h0 : i = 0
  · rw [if_pos h0, if_pos h0, h0]
  · rw [if_neg h0, if_neg h0, Nat.xor_zero]

set_option maxHeartbeats 1000000 in
theorem timesX128_ (B : Nat) (w : World) (hB : B < 2 ^ 128) :
    Calls Try.prog 58 #[.agg (bv B)] w fun e w' => e = .returned (.agg (bv (tx B))) ∧ Below w.heap.size w w' := by
  have s1 := bv_size B
  obtain ⟨A0, A1, B0⟩ := two w (bv B) (bv 0)
  go_enter Try.func58, Try.ntmps58
  go_wp2_with (refine wpList_ld rfl _ rfl w.heap.size rfl _ (two w (bv B) _).1 s1 ?_)
  rw [zeros16]
  generalize (w.alloc (.cells (bv B) 44)).alloc (.cells (bv 0) 44) = w1 at *
  go_loopw [7, 3] (fun i o wr => ∃ j : Nat, j ≤ 16 ∧ i = .int .i64 j ∧ o = .int .u8 (ovr B j : Nat) ∧ Ar wr w.heap.size (av (mix j (dg (B / 2)) (dg B))) ∧ Ar wr (w.heap.size + 1) (bv 0) ∧ Below w.heap.size w wr) (fun i _ _ => 16 - (intOf i).toNat)
  case atStart => exact ⟨0, by omega, rfl, rfl, by rw [mix_zero]; exact A0, A1, B0⟩
  case round =>
    obtain ⟨j, hj, rfl, rfl, a0, a1, b0⟩ := hrel
    clear A0 A1 B0
    by_cases hlt : j < 16
    · have hix := run_index16 (bv B) _ j wr hlt (bv_get B j hlt)
      have c0 := a0.byte j hlt
      rw [mix_at] at c0
      have hf := a0.fz j
      have HX := hid (half_spell B j hB hlt)
      have HS := hid (mix_set j (dg (B / 2)) (dg B))
      have HO : Hid (ovr B (j + 1) = dg B j % 2) := by show _ = _; simp [ovr]
      have hx := dg_lt B j
      have hl : bits .and .u8 (dg B j : Int) 1 = ((dg B j % 2 : Nat) : Int) := by
        have := u8_and_nat (dg B j) 1 hx (by omega)
        rw [show dg B j &&& 1 = dg B j % 2 from Nat.and_two_pow_sub_one_eq_mod _ 1] at this
        exact this
      generalize dg B j % 2 = o2 at *
      generalize dg B j = x at *
      generalize ovr B j = o at *
      go_wp2_with fail
      go_roundw
      case rel =>
        rw [HX.out]
        have A3 := a0.set j (.int .u8 (dg (B / 2) j : Nat))
        rw [HS.out] at A3
        exact ⟨j + 1, by omega, by go_num, by rw [HO.out], A3, a1.other (by omega) _ _, b0.setCell (Nat.le_refl _) _⟩
      case measure => simp [intOf]; omega
    · obtain rfl : j = 16 := by omega
      have HO : Hid (ovr B 16 = B % 2) := dg_low B
      rw [mix_all] at a0
      have S := bv_size (tx B)
      have S0 := bv_size 0
      by_cases hc : B % 2 = 1
      · rw [HO.out, hc]
        have c0 := a0.byte 0 (by omega)
        have hf := a0.fz 0
        have A3 := a0.set 0 (.int .u8 ((dg (B / 2) 0 ^^^ 225 : Nat) : Int))
        rw [av_set, ← av_ext (tx_one hc), av_bv] at A3
        have A4 := a1.other (g' := w.heap.size) (by omega) 0 (.int .u8 ((dg (B / 2) 0 ^^^ 225 : Nat) : Int))
        have B3 : Below w.heap.size w (wr.setCell ⟨w.heap.size, 0, none⟩ (.int .u8 ((dg (B / 2) 0 ^^^ 225 : Nat) : Int))) := b0.setCell (Nat.le_refl _) _
        have ex : bits .xor .u8 (dg (B / 2) 0 : Int) 225 = ((dg (B / 2) 0 ^^^ 225 : Nat) : Int) := u8_xor_nat _ 225 (dg_lt _ _) (by omega)
        generalize dg (B / 2) 0 ^^^ 225 = z at *
        generalize dg (B / 2) 0 = x at *
        clear a0 a1 b0
        go_wp2_with (first | (refine wpList_ld rfl _ rfl w.heap.size rfl _ A3 S ?_) | (refine wpList_st rfl rfl _ _ rfl (w.heap.size + 1) (tx B) rfl rfl _ A4 S0 ?_))
        refine bodyPost_ret (v := .agg (bv (tx B))) ?_ rfl ⟨rfl, bel_row B3 (by omega) _⟩
        exact results_bv rfl _ _ (w.heap.size + 1) (tx B) rfl (A4.row _)
      · have HT : Hid (tx B = B / 2) := by show _ = _; unfold tx; rw [if_neg hc]
        rw [av_bv, ← HT.out] at a0
        rw [HO.out, show B % 2 = 0 from by omega]
        go_wp2_with (first | (refine wpList_ld rfl _ rfl w.heap.size rfl _ a0 S ?_) | (refine wpList_st rfl rfl _ _ rfl (w.heap.size + 1) (tx B) rfl rfl _ a1 S0 ?_))
        refine bodyPost_ret (v := .agg (bv (tx B))) ?_ rfl ⟨rfl, bel_row b0 (by omega) _⟩
        exact results_bv rfl _ _ (w.heap.size + 1) (tx B) rfl (a1.row _)
end Go.Proofs.Ytgjamfnhkeoedaa
