import Derived.Test.YtaplgdkefhcbhabFirst
namespace Go.Proofs.Ytaplgdkefhcbhab
open Go.RowKit
set_option linter.unusedVariables false

set_option maxRecDepth 100000 in
set_option maxHeartbeats 4000000 in
theorem fieldSquares_ (a b X Y : Nat) (w : World) (ha : a < 256) (hb : b < 256) (hX : X < 2 ^ 128) (hY : Y < 2 ^ 128) :
    Calls Try.prog 3 #[.int .u8 a, .int .u8 b, .agg (bv X), .agg (bv Y)] w fun e w' => e = .returned (.bool true) ∧ Below w.heap.size w w' := by
  have hd : a ^^^ b < 256 := Nat.xor_lt_two_pow (n := 8) ha hb
  have k1 := fun w => mul8_ (a ^^^ b) (a ^^^ b) w hd hd
  rw [sq8_xor ha hb] at k1
  have k2 := fun w => mul8_ a a w ha ha
  have k3 := fun w => mul8_ b b w hb hb
  have x1 := u8_xor_nat a b ha hb
  have x2 := u8_xor_nat (mul8 a a) (mul8 b b) (mul8_lt ha) (mul8_lt hb)
  generalize mul8 a a ^^^ mul8 b b = s at *
  generalize mul8 a a = aa at *
  generalize mul8 b b = bb at *
  generalize a ^^^ b = d at *
  have hS : X ^^^ Y < 2 ^ 128 := Nat.xor_lt_two_pow hX hY
  have c1 := fun w => xor_ X Y w
  have c2 := fun w => mul128_ (X ^^^ Y) (X ^^^ Y) w hS
  have c3 := fun w => mul128_ X X w hX
  have c4 := fun w => mul128_ Y Y w hY
  have c5 := fun w => xor_ (mul X X) (mul Y Y) w
  rw [show mul (X ^^^ Y) (X ^^^ Y) = mul X X ^^^ mul Y Y from sq_xor hX hY] at c2
  have q1 := run_eqself (show mul X X ^^^ mul Y Y < 2 ^ 128 from Nat.xor_lt_two_pow (mul_lt hX) (mul_lt hY))
  have q2 := run_eqself hX
  have HX := hid hX
  have HA := hid (sq8_back a ha)
  have HS := hid (sqs_back hX)
  have HL := hid ha
  clear hX hY hS hd ha hb
  generalize mul X X ^^^ mul Y Y = U at *
  generalize mul X X = XX at *
  generalize mul Y Y = YY at *
  generalize X ^^^ Y = S at *
  obtain ⟨A0, A1, B0⟩ := two w (bv X) (bv Y)
  go_enter Try.func3, Try.ntmps3
  go_wp2_with fail
  generalize (w.alloc (.cells (bv X) 22)).alloc (.cells (bv Y) 22) = w1 at *
  have S0 := B0.size
  refine (first_ w1).mono ?_
  rintro e w2 ⟨rfl, g⟩
  have A0 := A0.kept g
  have A1 := A1.kept g
  have B0 := bel_bel B0 S0 g
  have S0 := B0.size
  clear g
  go_wp2_with fail
  refine (k1 _).mono ?_
  rintro e w3 ⟨rfl, rfl⟩
  go_wp2_with fail
  refine (k2 _).mono ?_
  rintro e w4 ⟨rfl, rfl⟩
  go_wp2_with fail
  refine (k3 _).mono ?_
  rintro e w5 ⟨rfl, rfl⟩
  clear k1 k2 k3 x1
  go_wp2_with (first | (refine wpList_stn rfl rfl _ _ rfl _ _ _ rfl rfl rfl (by rfl) ?_) | (refine wpList_ld rfl _ rfl _ rfl _ (by assumption) (bv_size _) ?_))
  clear x2
  refine (c1 _).mono ?_
  rintro e w6 ⟨rfl, g⟩
  have A0 := (A0.kept g).alloc (.cells (bv S) 22)
  have A1 := (A1.kept g).alloc (.cells (bv S) 22)
  have A2 := Ar.new w6 (bv S)
  have B0 := bel_bel B0 S0 g
  have S0 := B0.size
  have B0 := B0.alloc S0 (.cells (bv S) 22)
  clear g c1 S0
  go_wp2_with (first | (refine wpList_stn rfl rfl _ _ rfl _ _ _ rfl rfl rfl (by rfl) ?_) | (refine wpList_ld rfl _ rfl _ rfl _ (by assumption) (bv_size _) ?_))
  generalize w6.alloc (.cells (bv S) 22) = w7 at *
  have S0 := B0.size
  refine (c2 _).mono ?_
  rintro e w8 ⟨rfl, g⟩
  have A0 := (A0.kept g).alloc (.cells (bv U) 22)
  have A1 := (A1.kept g).alloc (.cells (bv U) 22)
  have A2 := (A2.kept g).alloc (.cells (bv U) 22)
  have A3 := Ar.new w8 (bv U)
  have B0 := bel_bel B0 S0 g
  have S0 := B0.size
  have B0 := B0.alloc S0 (.cells (bv U) 22)
  clear g c2 S0
  go_wp2_with (first | (refine wpList_stn rfl rfl _ _ rfl _ _ _ rfl rfl rfl (by rfl) ?_) | (refine wpList_ld rfl _ rfl _ rfl _ (by assumption) (bv_size _) ?_))
  generalize w8.alloc (.cells (bv U) 22) = w9 at *
  have S0 := B0.size
  refine (c3 _).mono ?_
  rintro e w10 ⟨rfl, g⟩
  have A0 := (A0.kept g).alloc (.cells (bv XX) 22)
  have A1 := (A1.kept g).alloc (.cells (bv XX) 22)
  have A2 := (A2.kept g).alloc (.cells (bv XX) 22)
  have A3 := (A3.kept g).alloc (.cells (bv XX) 22)
  have A4 := Ar.new w10 (bv XX)
  have B0 := bel_bel B0 S0 g
  have S0 := B0.size
  have B0 := B0.alloc S0 (.cells (bv XX) 22)
  clear g c3 S0
  go_wp2_with (first | (refine wpList_stn rfl rfl _ _ rfl _ _ _ rfl rfl rfl (by rfl) ?_) | (refine wpList_ld rfl _ rfl _ rfl _ (by assumption) (bv_size _) ?_))
  generalize w10.alloc (.cells (bv XX) 22) = w11 at *
  have S0 := B0.size
  refine (c4 _).mono ?_
  rintro e w12 ⟨rfl, g⟩
  have A0 := (A0.kept g).alloc (.cells (bv YY) 22)
  have A1 := (A1.kept g).alloc (.cells (bv YY) 22)
  have A2 := (A2.kept g).alloc (.cells (bv YY) 22)
  have A3 := (A3.kept g).alloc (.cells (bv YY) 22)
  have A4 := (A4.kept g).alloc (.cells (bv YY) 22)
  have A5 := Ar.new w12 (bv YY)
  have B0 := bel_bel B0 S0 g
  have S0 := B0.size
  have B0 := B0.alloc S0 (.cells (bv YY) 22)
  clear g c4 S0
  go_wp2_with (first | (refine wpList_stn rfl rfl _ _ rfl _ _ _ rfl rfl rfl (by rfl) ?_) | (refine wpList_ld rfl _ rfl _ rfl _ (by assumption) (bv_size _) ?_))
  generalize w12.alloc (.cells (bv YY) 22) = w13 at *
  have S0 := B0.size
  refine (c5 _).mono ?_
  rintro e w14 ⟨rfl, g⟩
  have A0 := (A0.kept g).alloc (.cells (bv U) 22)
  have A1 := (A1.kept g).alloc (.cells (bv U) 22)
  have A2 := (A2.kept g).alloc (.cells (bv U) 22)
  have A3 := (A3.kept g).alloc (.cells (bv U) 22)
  have A4 := (A4.kept g).alloc (.cells (bv U) 22)
  have A5 := (A5.kept g).alloc (.cells (bv U) 22)
  have A6 := Ar.new w14 (bv U)
  have B0 := bel_bel B0 S0 g
  have S0 := B0.size
  have B0 := B0.alloc S0 (.cells (bv U) 22)
  clear g c5 S0
  go_wp2_with (first | (refine wpList_stn rfl rfl _ _ rfl _ _ _ rfl rfl rfl (by rfl) ?_) | (refine wpList_ld rfl _ rfl _ rfl _ (by assumption) (bv_size _) ?_))
  generalize w14.alloc (.cells (bv U) 22) = w15 at *
  have S0 := B0.size
  clear A1 A2 A4 A5
  go_loopw [18, 17] (fun i r wr => ∃ j c : Nat, j ≤ 8 ∧ i = .int .i64 j ∧ r = .int .u8 (c : Nat) ∧ Hid (c < 256 ∧ sq8 (8 - j) c = a) ∧ wr = w15) (fun i _ _ => 8 - (intOf i).toNat)
  case atStart => exact ⟨0, a, by omega, rfl, rfl, ⟨HL.out, HA.out⟩, rfl⟩
  case round =>
    obtain ⟨j, c, hj, rfl, rfl, HC, rfl⟩ := hrel
    by_cases hlt : j < 8
    · have kc := fun w => mul8_ c c w HC.out.1 HC.out.1
      have HN : Hid (mul8 c c < 256 ∧ sq8 (8 - (j + 1)) (mul8 c c) = a) := by
        refine ⟨mul8_lt HC.out.1, ?_⟩
        rw [← HC.out.2, show 8 - j = (8 - (j + 1)) + 1 from by omega]
        rfl
      generalize mul8 c c = c2 at *
      go_wp2_with fail
      refine (kc _).mono ?_
      rintro e w20 ⟨rfl, rfl⟩
      clear kc
      go_wp2_with fail
      go_roundw
      case rel => exact ⟨j + 1, c2, by omega, by go_num, rfl, HN, trivial⟩
      case measure => simp [intOf]; omega
    · have hge : ¬ (j : Int) < 8 := by omega
      have ec : ((c : Int) == (a : Int)) = true := by
        have h := HC.out.2
        rw [show 8 - j = 0 from by omega] at h
        rw [show c = a from h]
        simp
      clear HC hj hlt
      obtain ⟨wq, rfl⟩ : ∃ wq, wq = wr := ⟨_, rfl⟩
      have A7 := Ar.new wq (bv X)
      have D0 := A0.alloc (.cells (bv X) 22)
      have D3 := A3.alloc (.cells (bv X) 22)
      have D6 := A6.alloc (.cells (bv X) 22)
      have B0 := B0.alloc S0 (.cells (bv X) 22)
      go_wp2_with (first | (refine wpList_stn rfl rfl _ _ rfl _ _ _ rfl rfl rfl (by rfl) ?_) | (refine wpList_ld rfl _ rfl _ rfl _ (by assumption) (bv_size _) ?_))
      generalize hw : wq.alloc (.cells (bv X) 22) = wp at *
      have gq := S0
      have i0 := A0.lt
      have i3 := A3.lt
      have i6 := A6.lt
      clear A0 A3 A6
      clear hw
      have S0 := B0.size
      go_loopw [20] (fun i wr => ∃ j z : Nat, j ≤ 128 ∧ i = .int .i64 j ∧ Hid (z < 2 ^ 128 ∧ sqs (128 - j) z = X) ∧ Ar wr w.heap.size (bv X) ∧ Ar wr (w8.heap.size) (bv U) ∧ Ar wr (w14.heap.size) (bv U) ∧ Ar wr wq.heap.size (bv z) ∧ Below w.heap.size w wr) (fun i _ => 128 - (intOf i).toNat)
      case atStart => exact ⟨0, X, by omega, rfl, ⟨HX.out, HS.out⟩, D0, D3, D6, A7, B0⟩
      case round =>
        obtain ⟨j2, z, hj2, rfl, HZ, a0, a3, a6, a7, b0⟩ := hrel
        clear D0 D3 D6 A7 B0 S0
        by_cases hlt : j2 < 128
        · have kc := fun w => mul128_ z z w HZ.out.1
          have HN : Hid (mul z z < 2 ^ 128 ∧ sqs (128 - (j2 + 1)) (mul z z) = X) := by
            refine ⟨mul_lt HZ.out.1, ?_⟩
            rw [← HZ.out.2, show 128 - j2 = (128 - (j2 + 1)) + 1 from by omega]
            rfl
          have HJ : Hid (j2 + 1 ≤ 128) := hlt
          have sz := bv_size z
          generalize mul z z = z2 at *
          have S1 := b0.size
          go_wp2_with (first | (refine wpList_ld rfl _ rfl _ rfl _ (by assumption) (bv_size _) ?_))
          refine (kc _).mono ?_
          rintro e w21 ⟨rfl, g⟩
          have a0 := (a0.kept g).orow (g' := wq.heap.size) (by omega) (bv z2)
          have a3 := (a3.kept g).orow (g' := wq.heap.size) (by omega) (bv z2)
          have a6 := (a6.kept g).orow (g' := wq.heap.size) (by omega) (bv z2)
          have a7' := a7.kept g
          have a7 := a7'.row (bv z2)
          have b0 := bel_row (bel_bel b0 S1 g) gq (bv z2)
          clear kc g S1
          go_wp2_with (refine wpList_st rfl rfl _ _ rfl wq.heap.size z2 rfl rfl _ a7' sz ?_)
          go_roundw
          case rel => exact ⟨j2 + 1, z2, HJ.out, by go_num, HN, a0, a3, a6, a7, b0⟩
          case measure => simp [intOf]; have := HJ.out; omega
        · have hge2 : ¬ (j2 : Int) < 128 := by omega
          have HE : Hid (z = X) := by
            have h := HZ.out.2
            rw [show 128 - j2 = 0 from by omega] at h
            exact h
          rw [HE.out] at a7
          clear HZ hj2 hlt
          go_wp2_with (first | (refine wpList_ldg rfl _ rfl _ rfl _ (by assumption) (bv_size _) ?_))
          go_ret
          exact ⟨rfl, b0⟩
end Go.Proofs.Ytaplgdkefhcbhab
