import Derived.Test.YtnjfckijpbgagaaMul
import Derived.Test.YtnjfckijpbgagaaBase
import Derived.Test.YtnjfckijpbgagaaGcm
import Derived.BigRegion
namespace Go.Proofs.Ytnjfckijpbgagaa
set_option maxRecDepth 100000
open Go.RowKit
set_option linter.unusedVariables false

set_option maxHeartbeats 1000000 in
theorem refXor_ (A B : Nat) (w : World) :
    Calls Try.prog 82 #[.agg (bv A), .agg (bv B)] w fun e w' => e = .returned (.agg (bv (A ^^^ B))) ∧ Below w.heap.size w w' := by
  obtain ⟨A0, A1, A2, A3, B0⟩ := four w (bv A) (bv B) (bv 0) (bv 0)
  go_enter Try.func82, Try.ntmps82
  go_wp2_with fail
  rw [zeros16]
  generalize (((w.alloc (.cells (bv A) 96)).alloc (.cells (bv B) 96)).alloc (.cells (bv 0) 96)).alloc (.cells (bv 0) 96) = w1 at *
  go_loopw [6] (fun i wr => ∃ j : Nat, j ≤ 16 ∧ i = .int .i64 j ∧ Ar wr w.heap.size (bv A) ∧ Ar wr (w.heap.size + 1) (bv B) ∧ Ar wr (w.heap.size + 1 + 1) (bv 0) ∧ Ar wr (w.heap.size + 1 + 1 + 1) (av (mix j (dg (A ^^^ B)) (dg 0))) ∧ Below w.heap.size w wr) (fun i _ => 16 - (intOf i).toNat)
  case atStart => exact ⟨0, by omega, rfl, A0, A1, A2, by rw [mix_zero]; exact A3, B0⟩
  case round =>
    obtain ⟨j, hj, rfl, a0, a1, a2, a3, b0⟩ := hrel
    clear A0 A1 A2 A3 B0
    by_cases hlt : j < 16
    · have c0 := (a0.cell j).trans (bv_get A j hlt)
      have c1 := (a1.cell j).trans (bv_get B j hlt)
      have c3 := a3.byte j hlt
      have hf := a3.fz j
      have HX : Hid (bits .xor .u8 (dg A j : Int) (dg B j : Int) = ((dg (A ^^^ B) j : Nat) : Int)) := by
        show _ = _; rw [u8_xor_nat _ _ (dg_lt A j) (dg_lt B j), dg_xor]
      have HS := hid (mix_set j (dg (A ^^^ B)) (dg 0))
      generalize dg A j = x at *
      generalize dg B j = y at *
      generalize mix j (dg (A ^^^ B)) (dg 0) j = o at *
      go_wp2_with fail
      go_region
      rw [HX.out]
      have A3 := a3.set j (.int .u8 (dg (A ^^^ B) j : Nat))
      rw [HS.out] at A3
      have A4 := a0.other (g' := w.heap.size + 1 + 1 + 1) (by omega) j (.int .u8 (dg (A ^^^ B) j : Nat))
      have A5 := a1.other (g' := w.heap.size + 1 + 1 + 1) (by omega) j (.int .u8 (dg (A ^^^ B) j : Nat))
      have A6 := a2.other (g' := w.heap.size + 1 + 1 + 1) (by omega) j (.int .u8 (dg (A ^^^ B) j : Nat))
      have B3 : Below w.heap.size w (wr.setCell ⟨w.heap.size + 1 + 1 + 1, j, none⟩ (.int .u8 (dg (A ^^^ B) j : Nat))) := b0.setCell (by show _ ≤ w.heap.size + 1 + 1 + 1; omega) _
      generalize dg (A ^^^ B) j = z at *
      clear a0 a1 a2 a3 b0 c0 c1 c3 hf HS HX
      go_wp2_with fail
      go_roundw
      case rel => exact ⟨j + 1, by omega, by go_num, A4, A5, A6, A3, bel_drawn B3 1⟩
      case measure => simp [intOf]; omega
    · obtain rfl : j = 16 := by omega
      rw [mix_all, av_bv] at a3
      have S := bv_size (A ^^^ B)
      have S0 := bv_size 0
      go_wp2_with (first | (refine wpList_ld rfl _ rfl (w.heap.size + 1 + 1 + 1) rfl _ a3 S ?_) | (refine wpList_st rfl rfl _ _ rfl (w.heap.size + 1 + 1) (A ^^^ B) rfl rfl _ a2 S0 ?_))
      refine bodyPost_ret (v := .agg (bv (A ^^^ B))) ?_ rfl ⟨rfl, bel_row b0 (by omega) _⟩
      exact results_bv rfl _ _ (w.heap.size + 1 + 1) (A ^^^ B) rfl (a2.row _)

theorem and_spell (b j : Nat) (h : b < 256) : bits .and .u8 ((b : Int) / 2 ^ j) 1 = ((b / 2 ^ j % 2 : Nat) : Int) := by
  have hl : b / 2 ^ j < 256 := Nat.lt_of_le_of_lt (Nat.div_le_self _ _) h
  have := u8_and_nat (b / 2 ^ j) 1 hl (by omega)
  rw [show b / 2 ^ j &&& 1 = b / 2 ^ j % 2 from Nat.and_two_pow_sub_one_eq_mod _ 1, Int.natCast_ediv, Int.natCast_pow] at this
  exact this
set_option maxRecDepth 100000 in
set_option maxHeartbeats 1000000 in
theorem coef_ (X i : Nat) (w : World) (hi : i < 128) :
    Calls Try.prog 118 #[.agg (bv X), .int .i64 i] w fun e w' => e = .returned (.int .u8 (X / 2 ^ (127 - i) % 2 : Nat)) ∧ Below w.heap.size w w' := by
  have c0 : (w.alloc (.cells (bv X) 96)).cell? ⟨w.heap.size, i / 8, none⟩ = some (.int .u8 (dg X (i / 8) : Nat)) := ((Ar.new w (bv X)).cell (i / 8)).trans (bv_get X (i / 8) (by omega))
  have B0 : Below w.heap.size w (w.alloc (.cells (bv X) 96)) := (Below.refl _ _).alloc (Nat.le_refl _) _
  have HC := hid (dg_coef X i hi)
  have hb := and_spell (dg X (i / 8)) (7 - i % 8) (dg_lt _ _)
  rw [HC.out] at hb
  clear HC
  obtain ⟨q, HQ⟩ : ∃ q, Hid (X / 2 ^ (127 - i) % 2 = q) := ⟨_, rfl⟩
  rw [HQ.out] at hb
  generalize dg X (i / 8) = x at *
  go_enter Try.func118, Try.ntmps118
  go_wp2_with fail
  go_ret
  exact ⟨by rw [HQ.out]; rfl, B0⟩
end Go.Proofs.Ytnjfckijpbgagaa
namespace Go.Proofs.Ytnjfckijpbgagaa
set_option maxRecDepth 100000
open Go.RowKit
set_option linter.unusedVariables false

theorem ref_spell (B m : Nat) (hm1 : 1 ≤ m) (hm2 : m ≤ 15) : bits .or .u8 ((dg B m : Int) / 2) ((dg B (m - 1) : Int) * 128 % 256) = ((dg (B / 2) m : Nat) : Int) := by
  obtain ⟨i, rfl⟩ : ∃ i, m = i + 1 := ⟨m - 1, by omega⟩
  rw [show i + 1 - 1 = i from rfl]
  have h1 := dg_lt B (i + 1)
  have h2 := dg_lt B i
  rw [dg_half B i (by omega), ← or7 _ _ h1, show (dg B i : Int) * 128 % 256 = ((dg B i % 2 * 128 : Nat) : Int) from by omega, show (dg B (i + 1) : Int) / 2 = ((dg B (i + 1) / 2 : Nat) : Int) from by omega]
  exact u8_or_nat _ _ (by omega) (by omega)

set_option maxHeartbeats 1000000 in
theorem times_ (B : Nat) (w : World) (hB : B < 2 ^ 128) :
    Calls Try.prog 119 #[.agg (bv B)] w fun e w' => e = .returned (.agg (bv (tx B))) ∧ Below w.heap.size w w' := by
  have HB := hid hB
  clear hB
  obtain ⟨A0, A1, A2, B0⟩ := three w (bv B) (bv 0) (bv 0)
  go_enter Try.func119, Try.ntmps119
  go_wp2_with fail
  rw [zeros16]
  generalize ((w.alloc (.cells (bv B) 96)).alloc (.cells (bv 0) 96)).alloc (.cells (bv 0) 96) = w1 at *
  go_loopw [4] (fun i wr => ∃ m : Nat, m ≤ 15 ∧ i = .int .i64 m ∧ Ar wr w.heap.size (bv B) ∧ Ar wr (w.heap.size + 1) (bv 0) ∧ Ar wr (w.heap.size + 1 + 1) (av (mix (m + 1) (dg 0) (dg (B / 2)))) ∧ Below w.heap.size w wr) (fun i _ => (intOf i).toNat)
  case atStart => exact ⟨15, by omega, rfl, A0, A1, by rw [mix_all]; exact A2, B0⟩
  case round =>
    obtain ⟨m, hm, rfl, a0, a1, a2, b0⟩ := hrel
    clear A0 A1 A2 B0
    by_cases hlt : 0 < m
    · have c0 := (a0.cell m).trans (bv_get B m (by omega))
      have c1 := (a0.cell (m - 1)).trans (bv_get B (m - 1) (by omega))
      have c3 := a2.byte m (by omega)
      have hf := a2.fz m
      have HX := hid (ref_spell B m (by omega) (by omega))
      have HS := hid (mix_down m (dg 0) (dg (B / 2)))
      generalize dg B m = x at *
      generalize dg B (m - 1) = y at *
      generalize mix (m + 1) (dg 0) (dg (B / 2)) m = o at *
      go_wp2_with fail
      go_region
      rw [HX.out]
      have A3 := a2.set m (.int .u8 (dg (B / 2) m : Nat))
      rw [HS.out] at A3
      have A4 := a0.other (g' := w.heap.size + 1 + 1) (by omega) m (.int .u8 (dg (B / 2) m : Nat))
      have A5 := a1.other (g' := w.heap.size + 1 + 1) (by omega) m (.int .u8 (dg (B / 2) m : Nat))
      have B3 : Below w.heap.size w (wr.setCell ⟨w.heap.size + 1 + 1, m, none⟩ (.int .u8 (dg (B / 2) m : Nat))) := b0.setCell (by show _ ≤ w.heap.size + 1 + 1; omega) _
      generalize dg (B / 2) m = z at *
      clear a0 a1 a2 b0 c0 c1 c3 hf HS HX
      go_wp2_with fail
      go_roundw
      case rel => exact ⟨m - 1, by omega, by go_num, A4, A5, by rw [show m - 1 + 1 = m from by omega]; exact A3, bel_drawn B3 1⟩
      case measure => simp [intOf]; omega
    · obtain rfl : m = 0 := by omega
      have c0 := (a0.cell 0).trans (bv_get B 0 (by omega))
      have c15 := (a0.cell 15).trans (bv_get B 15 (by omega))
      have c3 := a2.byte 0 (by omega)
      have hf := a2.fz 0
      have hX : (dg B 0 : Int) / 2 = ((dg (B / 2) 0 : Nat) : Int) := by rw [dg_half0 B HB.out]; rfl
      have A2 := a2.set 0 (.int .u8 (dg (B / 2) 0 : Nat))
      rw [mix_down 0, mix_zero] at A2
      have A1 := a1.other (g' := w.heap.size + 1 + 1) (by omega) 0 (.int .u8 (dg (B / 2) 0 : Nat))
      have B2 : Below w.heap.size w (wr.setCell ⟨w.heap.size + 1 + 1, 0, none⟩ (.int .u8 (dg (B / 2) 0 : Nat))) := b0.setCell (by show _ ≤ w.heap.size + 1 + 1; omega) _
      have S := bv_size (tx B)
      have S0 := bv_size 0
      obtain ⟨e1, e2⟩ := and1_8 (dg B 15) (dg_lt _ _)
      rw [dg_low] at e1 e2
      clear a0 a1 a2 b0
      by_cases hc : B % 2 = 1
      · have e3 := e1 hc
        have A3 := A2.set 0 (.int .u8 ((dg (B / 2) 0 ^^^ 225 : Nat) : Int))
        rw [av_set, ← av_ext (tx_one hc), av_bv] at A3
        have A4 := A1.other (g' := w.heap.size + 1 + 1) (by omega) 0 (.int .u8 ((dg (B / 2) 0 ^^^ 225 : Nat) : Int))
        have B3 : Below w.heap.size w ((wr.setCell ⟨w.heap.size + 1 + 1, 0, none⟩ (.int .u8 (dg (B / 2) 0 : Nat))).setCell ⟨w.heap.size + 1 + 1, 0, none⟩ (.int .u8 ((dg (B / 2) 0 ^^^ 225 : Nat) : Int))) := B2.setCell (by show _ ≤ w.heap.size + 1 + 1; omega) _
        have ex : bits .xor .u8 (dg (B / 2) 0 : Int) 225 = ((dg (B / 2) 0 ^^^ 225 : Nat) : Int) := u8_xor_nat _ 225 (dg_lt _ _) (by omega)
        have c4 := A2.byte 0 (by omega)
        have hf4 := A2.fz 0
        generalize dg (B / 2) 0 ^^^ 225 = z at *
        generalize dg (B / 2) 0 = q0 at *
        generalize dg B 0 = x0 at *
        generalize dg B 15 = x15 at *
        generalize mix (0 + 1) (dg 0) (dg (B / 2)) 0 = o at *
        clear A1 A2 B2 e1 e2 hc
        go_wp2_with (first | (refine wpList_ld rfl _ rfl (w.heap.size + 1 + 1) rfl _ A3 S ?_) | (refine wpList_st rfl rfl _ _ rfl (w.heap.size + 1) (tx B) rfl rfl _ A4 S0 ?_))
        refine bodyPost_ret (v := .agg (bv (tx B))) ?_ rfl ⟨rfl, bel_row B3 (by omega) _⟩
        exact results_bv rfl _ _ (w.heap.size + 1) (tx B) rfl (A4.row _)
      · have e3 := e2 hc
        have HT : Hid (tx B = B / 2) := by show _ = _; unfold tx; rw [if_neg hc]
        have HA : Hid (av (dg (B / 2)) = bv (tx B)) := by show _ = _; rw [HT.out]; rfl
        rw [HA.out] at A2
        clear HT HA
        generalize dg (B / 2) 0 = q0 at *
        generalize dg B 0 = x0 at *
        generalize dg B 15 = x15 at *
        generalize mix (0 + 1) (dg 0) (dg (B / 2)) 0 = o at *
        clear e1 e2 hc
        go_wp2_with (first | (refine wpList_ld rfl _ rfl (w.heap.size + 1 + 1) rfl _ A2 S ?_) | (refine wpList_st rfl rfl _ _ rfl (w.heap.size + 1) (tx B) rfl rfl _ A1 S0 ?_))
        refine bodyPost_ret (v := .agg (bv (tx B))) ?_ rfl ⟨rfl, bel_row B2 (by omega) _⟩
        exact results_bv rfl _ _ (w.heap.size + 1) (tx B) rfl (A1.row _)

set_option maxRecDepth 100000 in
set_option maxHeartbeats 1000000 in
theorem refMul128_ (X Y : Nat) (w : World) (hY : Y < 2 ^ 128) :
    Calls Try.prog 104 #[.agg (bv X), .agg (bv Y)] w fun e w' => e = .returned (.agg (bv (mul X Y))) ∧ Below w.heap.size w w' := by
  obtain ⟨A0, A1, A2, A3, B0⟩ := four w (bv X) (bv Y) (bv 0) (bv 0)
  have sx := bv_size X
  go_enter Try.func104, Try.ntmps104
  go_wp2_with fail
  rw [zeros16]
  generalize (((w.alloc (.cells (bv X) 96)).alloc (.cells (bv Y) 96)).alloc (.cells (bv 0) 96)).alloc (.cells (bv 0) 96) = w1 at *
  go_loopw [6] (fun i wr => ∃ j y s : Nat, j ≤ 128 ∧ i = .int .i64 j ∧ y < 2 ^ 128 ∧ Hid (mgo (128 - j) X y s = mul X Y) ∧ Ar wr w.heap.size (bv X) ∧ Ar wr (w.heap.size + 1) (bv y) ∧ Ar wr (w.heap.size + 1 + 1) (bv 0) ∧ Ar wr (w.heap.size + 1 + 1 + 1) (bv s) ∧ Below w.heap.size w wr) (fun i _ => 128 - (intOf i).toNat)
  case atStart => exact ⟨0, Y, 0, by omega, rfl, hY, rfl, A0, A1, A2, A3, B0⟩
  case round =>
    obtain ⟨j, y, s, hj, rfl, hy, HI, a0, a1, a2, a3, b0⟩ := hrel
    clear A0 A1 A2 A3 B0
    by_cases hlt : j < 128
    · have S := b0.size
      have HN : Hid (mgo (128 - j) X y s = mgo (128 - (j + 1)) X (tx y) (if X / 2 ^ (127 - j) % 2 = 1 then s ^^^ y else s)) := by
        show _ = _
        rw [show 128 - j = (127 - j) + 1 from by omega, mgo, show 128 - (j + 1) = 127 - j from by omega]
      have HT := hid (tx_lt hy)
      have HY := hid hy
      have HJ : Hid (j + 1 ≤ 128) := hlt
      have sy := bv_size y
      have ss := bv_size s
      have k1 := fun w => coef_ X j w hlt
      have k2 := fun w => times_ y w HY.out
      have HQ : Hid (X / 2 ^ (127 - j) % 2 < 2) := Nat.mod_lt _ (by omega)
      generalize X / 2 ^ (127 - j) % 2 = q at *
      clear hy
      go_wp2_with (refine wpList_ld rfl _ rfl w.heap.size rfl _ a0 sx ?_)
      refine (k1 _).mono ?_
      rintro e w1 ⟨rfl, g2⟩
      have a0 := a0.kept g2
      have a1 := a1.kept g2
      have a2 := a2.kept g2
      have a3 := a3.kept g2
      have b0 := bel_bel b0 S g2
      have S := b0.size
      clear g2 k1
      by_cases hc : q = 1
      · rw [hc]
        rw [if_pos hc] at HN
        clear hc
        go_wp2_with (first | (refine wpList_ld rfl _ rfl (w.heap.size + 1 + 1 + 1) rfl _ a3 ss ?_) | (refine wpList_ld rfl _ rfl (w.heap.size + 1) rfl _ a1 sy ?_))
        refine (refXor_ s y _).mono ?_
        rintro e w2 ⟨rfl, g2⟩
        have a0 := (a0.kept g2).orow (g' := w.heap.size + 1 + 1 + 1) (by omega) (bv (s ^^^ y))
        have a1 := (a1.kept g2).orow (g' := w.heap.size + 1 + 1 + 1) (by omega) (bv (s ^^^ y))
        have a2 := (a2.kept g2).orow (g' := w.heap.size + 1 + 1 + 1) (by omega) (bv (s ^^^ y))
        have a3' := a3.kept g2
        have a3 := a3'.row (bv (s ^^^ y))
        have b0 := bel_row (bel_bel b0 S g2) (g := w.heap.size + 1 + 1 + 1) (by omega) (bv (s ^^^ y))
        clear g2 S
        go_wp2_with (first | (refine wpList_st rfl rfl _ _ rfl (w.heap.size + 1 + 1 + 1) (s ^^^ y) rfl rfl _ a3' ss ?_) | (refine wpList_ld rfl _ rfl (w.heap.size + 1) rfl _ a1 sy ?_))
        clear a3'
        generalize w2.setRow (w.heap.size + 1 + 1 + 1) (bv (s ^^^ y)) = w3 at *
        generalize s ^^^ y = s2 at *
        have S := b0.size
        refine (k2 _).mono ?_
        rintro e w4 ⟨rfl, g2⟩
        have a0 := (a0.kept g2).orow (g' := w.heap.size + 1) (by omega) (bv (tx y))
        have a1' := a1.kept g2
        have a1 := a1'.row (bv (tx y))
        have a2 := (a2.kept g2).orow (g' := w.heap.size + 1) (by omega) (bv (tx y))
        have a3 := (a3.kept g2).orow (g' := w.heap.size + 1) (by omega) (bv (tx y))
        have b0 := bel_row (bel_bel b0 S g2) (g := w.heap.size + 1) (by omega) (bv (tx y))
        clear g2 S k2
        go_wp2_with (refine wpList_st rfl rfl _ _ rfl (w.heap.size + 1) (tx y) rfl rfl _ a1' sy ?_)
        go_roundw
        case rel => exact ⟨j + 1, tx y, s2, HJ.out, by go_num, HT.out, HN.out.symm.trans HI.out, a0, a1, a2, a3, b0⟩
        case measure => simp [intOf]; have := HJ.out; omega
      · rw [show q = 0 from by have := HQ.out; omega]
        rw [if_neg hc] at HN
        clear hc
        go_wp2_with (refine wpList_ld rfl _ rfl (w.heap.size + 1) rfl _ a1 sy ?_)
        refine (k2 _).mono ?_
        rintro e w4 ⟨rfl, g2⟩
        have a0 := (a0.kept g2).orow (g' := w.heap.size + 1) (by omega) (bv (tx y))
        have a1' := a1.kept g2
        have a1 := a1'.row (bv (tx y))
        have a2 := (a2.kept g2).orow (g' := w.heap.size + 1) (by omega) (bv (tx y))
        have a3 := (a3.kept g2).orow (g' := w.heap.size + 1) (by omega) (bv (tx y))
        have b0 := bel_row (bel_bel b0 S g2) (g := w.heap.size + 1) (by omega) (bv (tx y))
        clear g2 S k2
        go_wp2_with (refine wpList_st rfl rfl _ _ rfl (w.heap.size + 1) (tx y) rfl rfl _ a1' sy ?_)
        go_roundw
        case rel => exact ⟨j + 1, tx y, s, HJ.out, by go_num, HT.out, HN.out.symm.trans HI.out, a0, a1, a2, a3, b0⟩
        case measure => simp [intOf]; have := HJ.out; omega
    · obtain rfl : j = 128 := by omega
      have HM : Hid (s = mul X Y) := HI.out
      have S := bv_size s
      have S0 := bv_size 0
      clear hy
      go_wp2_with (first | (refine wpList_ld rfl _ rfl (w.heap.size + 1 + 1 + 1) rfl _ a3 S ?_) | (refine wpList_st rfl rfl _ _ rfl (w.heap.size + 1 + 1) s rfl rfl _ a2 S0 ?_))
      refine bodyPost_ret (v := .agg (bv s)) ?_ rfl ⟨ret_agg HM.out, bel_row b0 (by omega) _⟩
      exact results_bv rfl _ _ (w.heap.size + 1 + 1) s rfl (a2.row _)
end Go.Proofs.Ytnjfckijpbgagaa
namespace Go.Proofs.Ytnjfckijpbgagaa
set_option maxRecDepth 100000
open Go.RowKit
set_option linter.unusedVariables false

theorem zeros16a : #[Value.int IntKind.u8 0, Value.int IntKind.u8 0, Value.int IntKind.u8 0, Value.int IntKind.u8 0, Value.int IntKind.u8 0, Value.int IntKind.u8 0, Value.int IntKind.u8 0, Value.int IntKind.u8 0, Value.int IntKind.u8 0, Value.int IntKind.u8 0, Value.int IntKind.u8 0, Value.int IntKind.u8 0, Value.int IntKind.u8 0, Value.int IntKind.u8 0, Value.int IntKind.u8 0, Value.int IntKind.u8 0] = av fun _ => 0 := rfl
theorem wpList_lda {ops : Array Oper} {rest : List Oper} {o : Oper} {a : Act} {w : World} {Q : Exit → Act → World → Prop} (hgd : o.guard = none) (x : Operand) (ho : o.op = .load 96 x)
    (g : Nat) (hx : a.eval x = .pointer (some ⟨g, 0, none⟩)) (f : Nat → Nat) (hg : Ar w g (av f))
    (h : wpList Try.prog ops Q rest (a.put o.dst (.agg (av f))) w) : wpList Try.prog ops Q (o :: rest) a w := wpList_ld hgd x ho g hx (av f) hg (av_size f) h
theorem wpList_sta {ops : Array Oper} {rest : List Oper} {o : Oper} {a : Act} {w : World} {Q : Exit → Act → World → Prop} (hgd : o.guard = none) (hd : o.dst = none) (x y : Operand) (ho : o.op = .store 96 x y)
    (g : Nat) (f : Nat → Nat) (hx : a.eval x = .pointer (some ⟨g, 0, none⟩)) (hy : a.eval y = .agg (av f)) (old : Nat → Nat) (hg : Ar w g (av old))
    (h : wpList Try.prog ops Q rest a (w.setRow g (av f))) : wpList Try.prog ops Q (o :: rest) a w := by
  refine wpList_store_row hgd 96 x y ho g (av f) hx hy 96 (av old) hg (by rw [av_size]; exact size16) (by rw [av_size, av_size]) (av_one f) ?_
  rw [hd]
  exact h
theorem wpList_stna {ops : Array Oper} {rest : List Oper} {o : Oper} {a : Act} {w : World} {Q : Exit → Act → World → Prop} (hgd : o.guard = none) (hd : o.dst = none) (x y : Operand) (ho : o.op = .store 96 x y)
    (old : Array Value) (g : Nat) (f : Nat → Nat) (hx : a.eval x = .pointer (some ⟨g, 0, none⟩)) (hy : a.eval y = .agg (av f)) (hg : w.heap.size = g) (hs : old.size = 16)
    (h : wpList Try.prog ops Q rest a (w.alloc (.cells (av f) 96))) : wpList Try.prog ops Q (o :: rest) a (w.alloc (.cells old 96)) := by
  subst hg
  refine wpList_store_row hgd 96 x y ho w.heap.size (av f) hx hy 96 old (Ar.new w old) (by rw [av_size]; exact size16) (by rw [hs, av_size]) (av_one f) ?_
  rw [hd, World.setRow_alloc_new]
  exact h
theorem results_av {fn : Func} {p : Tmp} (h : fn.results = #[.cell p 96]) (tmps : Array Value) (w : World) (g : Nat) (f : Nat → Nat) (hp : tmps.getD p undef = .pointer (some ⟨g, 0, none⟩)) (hg : Ar w g (av f)) :
    (results fn tmps).run Try.prog w = .ok (.agg (av f)) w :=
  results_cell_row h tmps w g 96 (av f) (0, 0) _ hp hg under16 rfl (by rw [av_size]; exact size16)
theorem ret_av {f g : Nat → Nat} (h : ∀ i, i < 16 → f i = g i) : Ending.returned (.agg (av f)) = .returned (.agg (av g)) := by rw [av_ext h]
theorem new1 (w : World) (x : Array Value) : Ar (w.alloc (.cells x 96)) w.heap.size x ∧ Below w.heap.size w (w.alloc (.cells x 96)) := ⟨Ar.new w x, (Below.refl _ _).alloc (Nat.le_refl _) _⟩
theorem new2 (w : World) (x y : Array Value) : Ar ((w.alloc (.cells x 96)).alloc (.cells y 96)) w.heap.size x ∧ Ar ((w.alloc (.cells x 96)).alloc (.cells y 96)) (w.heap.size + 1) y ∧ Below w.heap.size w ((w.alloc (.cells x 96)).alloc (.cells y 96)) := by
  refine ⟨(Ar.new w x).alloc _, ?_, ((Below.refl _ _).alloc (Nat.le_refl _) _).alloc (by simp) _⟩
  have := Ar.new (w.alloc (.cells x 96)) y
  simpa using this
theorem new3 (w : World) (x y z : Array Value) : Ar (((w.alloc (.cells x 96)).alloc (.cells y 96)).alloc (.cells z 96)) w.heap.size x ∧ Ar (((w.alloc (.cells x 96)).alloc (.cells y 96)).alloc (.cells z 96)) (w.heap.size + 1) y ∧ Ar (((w.alloc (.cells x 96)).alloc (.cells y 96)).alloc (.cells z 96)) (w.heap.size + 1 + 1) z ∧ Below w.heap.size w (((w.alloc (.cells x 96)).alloc (.cells y 96)).alloc (.cells z 96)) := by
  refine ⟨((Ar.new w x).alloc _).alloc _, ?_, ?_, (((Below.refl _ _).alloc (Nat.le_refl _) _).alloc (by simp) _).alloc (by simp; omega) _⟩
  · have := (Ar.new (w.alloc (.cells x 96)) y).alloc (.cells z 96)
    simpa using this
  · have := Ar.new ((w.alloc (.cells x 96)).alloc (.cells y 96)) z
    simpa using this
theorem u8x {a b : Nat} (ha : a < 256) (hb : b < 256) : bits .xor .u8 (a : Int) (b : Int) = ((a ^^^ b : Nat) : Int) := u8_xor_nat a b ha hb
/-- '==' of two arrays. -/
theorem run_eqav (f g : Nat → Nat) (w : World) : (Op.equalIn 10000 96 (.agg (av f)) (.agg (av g))).run Try.prog w = .ok ((List.range 16).all fun i => f i == g i) w := by
  obtain ⟨i, hi⟩ := info_of_underlying under8
  rw [run_equalIn_array w 9999 _ _ under16 hi, cells8, run_eqItems_bytes w 9998 under8 (av f) (av g) f g _ (fun i hi => ⟨av_get f i (by simpa using hi), av_get g i (by simpa using hi)⟩)]
theorem all16 {f g : Nat → Nat} (h : ∀ i, i < 16 → f i = g i) : ((List.range 16).all fun i => f i == g i) = true := by
  rw [List.all_eq_true]
  intro i hi
  rw [h i (by simpa using hi)]
  simp
theorem all16_iff (f g : Nat → Nat) : ((List.range 16).all fun i => f i == g i) = true ↔ ∀ i, i < 16 → f i = g i := by
  rw [List.all_eq_true]
  exact ⟨fun h i hi => by simpa using h i (by simpa using hi), fun h i hi => by simpa using h i (by simpa using hi)⟩
theorem run_eqyes {f g : Nat → Nat} (h : ∀ i, i < 16 → f i = g i) (w : World) : (Op.equalIn 10000 96 (.agg (av f)) (.agg (av g))).run Try.prog w = .ok true w := by
  rw [run_eqav, all16 h]
/-- The same behind a guard that holds. -/
theorem wpList_ldga {ops : Array Oper} {rest : List Oper} {o : Oper} {a : Act} {w : World} {Q : Exit → Act → World → Prop} (hgd : Region.wanted o (yielded ops a.tmps) = true) (x : Operand) (ho : o.op = .load 96 x)
    (g : Nat) (hx : a.eval x = .pointer (some ⟨g, 0, none⟩)) (f : Nat → Nat) (hg : Ar w g (av f))
    (h : wpList Try.prog ops Q rest (a.put o.dst (.agg (av f))) w) : wpList Try.prog ops Q (o :: rest) a w := wpList_ldg hgd x ho g hx (av f) hg (av_size f) h
/-- An array that the text writes out. -/
theorem wpList_blda {ops : Array Oper} {rest : List Oper} {o : Oper} {a : Act} {w : World} {Q : Exit → Act → World → Prop} (hgd : Region.wanted o (yielded ops a.tmps) = true) (parts : Array (Nat × Operand)) (ho : o.op = .build 96 parts)
    (ps : List (Nat × Value)) (hp : (parts.map fun (i, x) => (i, a.eval x)).toList = ps) (f : Nat → Nat) (hb : Try.prog.built 96 ps = some (av f))
    (h : wpList Try.prog ops Q rest (a.put o.dst (.agg (av f))) w) : wpList Try.prog ops Q (o :: rest) a w :=
  wpList_step fun K hK => by
    simp only [hgd, if_true]
    exact wp_build 96 parts ho (by rw [hp, hb]; rfl) (by rw [hp, hb]; exact hK _ _ h)
theorem guard16 : Try.prog.eqGuardType Try.prog.depth 96 = false := by kernel_rfl
/-- '==' of two arrays, by its answer. -/
theorem wpList_eqa {ops : Array Oper} {rest : List Oper} {o : Oper} {a : Act} {w : World} {Q : Exit → Act → World → Prop} (hgd : Region.wanted o (yielded ops a.tmps) = true) (x y : Operand) (t : TypeId) (ho : o.op = .binOp .eql 96 x y t)
    (xs ys : Array Value) (hx : a.eval x = .agg xs) (hy : a.eval y = .agg ys) (r : Bool) (hr : ∀ w, (Op.equalIn 10000 96 (.agg xs) (.agg ys)).run Try.prog w = .ok r w)
    (h : wpList Try.prog ops Q rest (a.put o.dst (.bool r)) w) : wpList Try.prog ops Q (o :: rest) a w :=
  wpList_step fun K hK => by
    simp only [hgd, if_true]
    unfold Oper.wp execOp
    simp only [ho, hx, hy, Sem.run_bind, Sem.run_pure, run_eqGuard_agg w .eql _ x y _ _ guard16, Result.andThen_ok, run_eql_struct, hr]
    exact hK _ _ h
/-! In a region that draws and only reads. -/
theorem quiet_lda {C : World → Prop} {K : Act → Prop} {o : Oper} {a : Act} (x : Operand) (ho : o.op = .load 96 x) (g : Nat) (f : Nat → Nat) (hx : a.eval x = .pointer (some ⟨g, 0, none⟩)) (hC : ∀ w, C w → Ar w g (av f)) (hk : K (a.put o.dst (.agg (av f)))) : o.quiet Try.prog a C K :=
  ⟨_, fun w h => by
    unfold Oper.quietAt execOp
    simp only [ho, hx, Instr.loadAt, Instr.sureAddr, Sem.run_bind, Sem.run_pure, Result.andThen_ok, run_loadVar_row w g 96 96 (av f) (0, 0) _ (hC w h) under16 rfl (by rw [av_size]; exact size16)]
    exact ⟨rfl, rfl⟩, hk⟩
theorem quiet_eqa {C : World → Prop} {K : Act → Prop} {o : Oper} {a : Act} (x y : Operand) (t : TypeId) (ho : o.op = .binOp .eql 96 x y t) (xs ys : Array Value) (hx : a.eval x = .agg xs) (hy : a.eval y = .agg ys) (r : Bool)
    (hr : ∀ w, (Op.equalIn 10000 96 (.agg xs) (.agg ys)).run Try.prog w = .ok r w) (hk : K (a.put o.dst (.bool r))) : o.quiet Try.prog a C K :=
  ⟨.bool r, fun w h => by
    unfold Oper.quietAt execOp
    simp only [ho, hx, hy, Sem.run_bind, Sem.run_pure, run_eqGuard_agg w .eql _ x y _ _ guard16, Result.andThen_ok, run_eql_struct, hr]
    exact ⟨rfl, rfl⟩, hk⟩
theorem Ar.ofDrawn {w : World} {g : Nat} {cs : Array Value} (h : Ar w g cs) : ∀ w', (∃ n, w' = w.drewN n) → Ar w' g cs := by
  rintro _ ⟨n, rfl⟩
  exact h.drawn n
end Go.Proofs.Ytnjfckijpbgagaa
