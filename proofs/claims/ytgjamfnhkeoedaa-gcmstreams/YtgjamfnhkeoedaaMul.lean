import Derived.Test.YtgjamfnhkeoedaaTimes
namespace Go.Proofs.Ytgjamfnhkeoedaa
open Go.RowKit
set_option linter.unusedVariables false

theorem four (w : World) (x y z u : Array Value) : Ar ((((w.alloc (.cells x 44)).alloc (.cells y 44)).alloc (.cells z 44)).alloc (.cells u 44)) w.heap.size x ∧ Ar ((((w.alloc (.cells x 44)).alloc (.cells y 44)).alloc (.cells z 44)).alloc (.cells u 44)) (w.heap.size + 1) y ∧ Ar ((((w.alloc (.cells x 44)).alloc (.cells y 44)).alloc (.cells z 44)).alloc (.cells u 44)) (w.heap.size + 1 + 1) z ∧ Ar ((((w.alloc (.cells x 44)).alloc (.cells y 44)).alloc (.cells z 44)).alloc (.cells u 44)) (w.heap.size + 1 + 1 + 1) u ∧ Below w.heap.size w ((((w.alloc (.cells x 44)).alloc (.cells y 44)).alloc (.cells z 44)).alloc (.cells u 44)) := by
  obtain ⟨a, b, c, d⟩ := three w x y z
  refine ⟨a.alloc _, b.alloc _, c.alloc _, ?_, d.alloc (by simp; omega) _⟩
  have := Ar.new (((w.alloc (.cells x 44)).alloc (.cells y 44)).alloc (.cells z 44)) u
  simpa using this

set_option maxRecDepth 100000 in
set_option maxHeartbeats 1000000 in
theorem mul128_ (X Y : Nat) (w : World) (hY : Y < 2 ^ 128) :
    Calls Try.prog 45 #[.agg (bv X), .agg (bv Y)] w fun e w' => e = .returned (.agg (bv (mul X Y))) ∧ Below w.heap.size w w' := by
  obtain ⟨A0, A1, A2, A3, B0⟩ := four w (bv X) (bv Y) (bv 0) (bv 0)
  go_enter Try.func45, Try.ntmps45
  go_wp2_with fail
  rw [zeros16]
  generalize (((w.alloc (.cells (bv X) 44)).alloc (.cells (bv Y) 44)).alloc (.cells (bv 0) 44)).alloc (.cells (bv 0) 44) = w1 at *
  go_loopw [7] (fun i wr => ∃ j y s : Nat, j ≤ 128 ∧ i = .int .i64 j ∧ y < 2 ^ 128 ∧ Hid (mgo (128 - j) X y s = mul X Y) ∧ Ar wr w.heap.size (bv X) ∧ Ar wr (w.heap.size + 1) (bv y) ∧ Ar wr (w.heap.size + 1 + 1) (bv 0) ∧ Ar wr (w.heap.size + 1 + 1 + 1) (bv s) ∧ Below w.heap.size w wr) (fun i _ => 128 - (intOf i).toNat)
  case atStart => exact ⟨0, Y, 0, by omega, rfl, hY, rfl, A0, A1, A2, A3, B0⟩
  case round =>
    obtain ⟨j, y, s, hj, rfl, hy, HI, a0, a1, a2, a3, b0⟩ := hrel
    clear A0 A1 A2 A3 B0
    by_cases hlt : j < 128
    · have hq16 : j / 8 < 16 := by omega
      have c0 := (a0.cell (j / 8)).trans (bv_get X (j / 8) hq16)
      obtain ⟨e1, e2⟩ := bit8 (dg X (j / 8)) (7 - j % 8) (dg_lt _ _)
      rw [dg_coef X j hlt] at e1 e2
      have S := b0.size
      have HN : Hid (mgo (128 - j) X y s = mgo (128 - (j + 1)) X (tx y) (if X / 2 ^ (127 - j) % 2 = 1 then s ^^^ y else s)) := by
        show _ = _
        rw [show 128 - j = (127 - j) + 1 from by omega, mgo, show 128 - (j + 1) = 127 - j from by omega]
      have HT := hid (tx_lt hy)
      have HY := hid hy
      have HJ : Hid (j + 1 ≤ 128) := hlt
      have sy := bv_size y
      have ss := bv_size s
      have k2 := fun w => timesX128_ y w HY.out
      generalize dg X (j / 8) = x at *
      clear hy
      by_cases hc : X / 2 ^ (127 - j) % 2 = 1
      · have e3 := e1 hc
        rw [if_pos hc] at HN
        clear e1 e2 hc
        go_wp2_with (first | (refine wpList_ld rfl _ rfl (w.heap.size + 1 + 1 + 1) rfl _ a3 ss ?_) | (refine wpList_ld rfl _ rfl (w.heap.size + 1) rfl _ a1 sy ?_))
        refine (xor_ s y _).mono ?_
        rintro e w2 ⟨rfl, g2⟩
        have a0 := (a0.kept g2).orow (g' := w.heap.size + 1 + 1 + 1) (by omega) (bv (s ^^^ y))
        have a1 := (a1.kept g2).orow (g' := w.heap.size + 1 + 1 + 1) (by omega) (bv (s ^^^ y))
        have a2 := (a2.kept g2).orow (g' := w.heap.size + 1 + 1 + 1) (by omega) (bv (s ^^^ y))
        have a3' := a3.kept g2
        have a3 := a3'.row (bv (s ^^^ y))
        have b0 := bel_row (bel_bel b0 S g2) (g := w.heap.size + 1 + 1 + 1) (by omega) (bv (s ^^^ y))
        clear g2 c0 e3 S
        go_wp2_with (first | (refine wpList_st rfl rfl _ _ rfl (w.heap.size + 1 + 1 + 1) (s ^^^ y) rfl rfl _ a3' ss ?_) | (refine wpList_ld rfl _ rfl (w.heap.size + 1) rfl _ a1 sy ?_))
        clear a3'
        generalize w2.setRow (w.heap.size + 1 + 1 + 1) (bv (s ^^^ y)) = w3 at *
        generalize s ^^^ y = s2 at *
        have S := b0.size
        refine (k2 _).mono ?_
        rintro e w4 ⟨rfl, g2⟩
        have a0 := (a0.kept g2).orow (g' := w.heap.size + 1) (by omega) (bv (tx y))
        have a1' := a1.kept g2
        have a1 := a1'.row (bv (tx y))
        have a2 := (a2.kept g2).orow (g' := w.heap.size + 1) (by omega) (bv (tx y))
        have a3 := (a3.kept g2).orow (g' := w.heap.size + 1) (by omega) (bv (tx y))
        have b0 := bel_row (bel_bel b0 S g2) (g := w.heap.size + 1) (by omega) (bv (tx y))
        clear g2 S k2
        go_wp2_with (refine wpList_st rfl rfl _ _ rfl (w.heap.size + 1) (tx y) rfl rfl _ a1' sy ?_)
        go_roundw
        case rel => exact ⟨j + 1, tx y, s2, HJ.out, by go_num, HT.out, HN.out.symm.trans HI.out, a0, a1, a2, a3, b0⟩
        case measure => simp [intOf]; have := HJ.out; omega
      · have e3 := e2 hc
        rw [if_neg hc] at HN
        clear e1 e2 hc
        go_wp2_with (refine wpList_ld rfl _ rfl (w.heap.size + 1) rfl _ a1 sy ?_)
        refine (k2 _).mono ?_
        rintro e w4 ⟨rfl, g2⟩
        have a0 := (a0.kept g2).orow (g' := w.heap.size + 1) (by omega) (bv (tx y))
        have a1' := a1.kept g2
        have a1 := a1'.row (bv (tx y))
        have a2 := (a2.kept g2).orow (g' := w.heap.size + 1) (by omega) (bv (tx y))
        have a3 := (a3.kept g2).orow (g' := w.heap.size + 1) (by omega) (bv (tx y))
        have b0 := bel_row (bel_bel b0 S g2) (g := w.heap.size + 1) (by omega) (bv (tx y))
        clear g2 S k2
        go_wp2_with (refine wpList_st rfl rfl _ _ rfl (w.heap.size + 1) (tx y) rfl rfl _ a1' sy ?_)
        go_roundw
        case rel => exact ⟨j + 1, tx y, s, HJ.out, by go_num, HT.out, HN.out.symm.trans HI.out, a0, a1, a2, a3, b0⟩
        case measure => simp [intOf]; have := HJ.out; omega
    · obtain rfl : j = 128 := by omega
      have HM : Hid (s = mul X Y) := HI.out
      have S := bv_size s
      have S0 := bv_size 0
      clear hy
      go_wp2_with (first | (refine wpList_ld rfl _ rfl (w.heap.size + 1 + 1 + 1) rfl _ a3 S ?_) | (refine wpList_st rfl rfl _ _ rfl (w.heap.size + 1 + 1) s rfl rfl _ a2 S0 ?_))
      refine bodyPost_ret (v := .agg (bv s)) ?_ rfl ⟨ret_agg HM.out, bel_row b0 (by omega) _⟩
      exact results_bv rfl _ _ (w.heap.size + 1 + 1) s rfl (a2.row _)
end Go.Proofs.Ytgjamfnhkeoedaa
