import Derived.Test.YtaplgdkefhcbhaaDraw
import Derived.Test.YtaplgdkefhcbhaaLawLaws8
namespace Go.Proofs.Ytaplgdkefhcbhaa
open Go.RowKit
set_option linter.unusedVariables false

theorem one_lit : ∃ ONE : Nat, Try.prog.built 27 [(0, .int .u8 128)] = some (bv ONE) ∧ ONE < 2 ^ 128 ∧ ∀ X, X < 2 ^ 128 → mul X ONE = X :=
  ⟨2 ^ 127, by kernel_rfl, by omega, fun X h => mul_one X h⟩

set_option maxRecDepth 100000 in
set_option maxHeartbeats 8000000 in
theorem fieldLaws128_ (X Y Z : Nat) (w : World) (hX : X < 2 ^ 128) (hY : Y < 2 ^ 128) (hZ : Z < 2 ^ 128) :
    Calls Try.prog 8 #[.agg (bv X), .agg (bv Y), .agg (bv Z)] w fun e w' => e = .returned (.bool true) ∧ Below w.heap.size w w' := by
  obtain ⟨ONE, hO, lO, eO⟩ := one_lit
  have HO := hid hO
  have c1 := fun w => mul128_ X Y w hY
  have c2 := fun w => mul128_ Y X w hX
  have c3 := fun w => mul128_ Y Z w hZ
  have c4 := fun w => mul128_ (mul X Y) Z w hZ
  have c5 := fun w => mul128_ X (mul Y Z) w (mul_lt hZ)
  have c6 := fun w => xor_ Y Z w
  have c7 := fun w => mul128_ X (Y ^^^ Z) w (Nat.xor_lt_two_pow hY hZ)
  have c8 := fun w => mul128_ X Z w hZ
  have c9 := fun w => xor_ (mul X Y) (mul X Z) w
  have c10 := fun w => mul128_ X ONE w lO
  rw [mul_comm hY hX] at c2
  rw [mul_assoc hX hY hZ] at c4
  rw [mul_xor] at c7
  rw [eO X hX] at c10
  have lP : mul X Y < 2 ^ 128 := mul_lt hY
  have lL : mul X (mul Y Z) < 2 ^ 128 := mul_lt (mul_lt hZ)
  have lS : mul X Y ^^^ mul X Z < 2 ^ 128 := Nat.xor_lt_two_pow lP (mul_lt hZ)
  have Z0 : Hid (mul X Y = 0 → X = 0 ∨ Y = 0) := mul_nz hX hY
  have Z1 : Hid (X = 0 → mul X Y = 0) := by intro h; rw [h, zero_mul]
  have Z2 : Hid (Y = 0 → mul X Y = 0) := by intro h; rw [h, mul_zero]
  generalize mul X Y ^^^ mul X Z = S at *
  generalize mul X (mul Y Z) = L at *
  generalize mul Y Z = Q at *
  generalize mul X Z = R at *
  generalize mul X Y = P at *
  generalize Y ^^^ Z = D at *
  have HX := hid hX
  have HY := hid hY
  have HP := hid lP
  have HL := hid lL
  have HS := hid lS
  clear hX hY hZ lP lL lS hO lO eO
  obtain ⟨A0, A1, A2, B0⟩ := three w (bv X) (bv Y) (bv Z)
  go_enter Try.func8, Try.ntmps8
  go_wp2_with fail
  generalize ((w.alloc (.cells (bv X) 27)).alloc (.cells (bv Y) 27)).alloc (.cells (bv Z) 27) = w1 at *
  have S0 := B0.size
  refine (first_ w1).mono ?_
  rintro e w2 ⟨rfl, g⟩
  have A0 := A0.kept g
  have A1 := A1.kept g
  have A2 := A2.kept g
  have B0 := bel_bel B0 S0 g
  have S0 := B0.size
  clear g
  go_wp2_with (first | (refine wpList_stn rfl rfl _ _ rfl _ _ _ rfl rfl rfl (by rfl) ?_) | (refine wpList_ld rfl _ rfl _ rfl _ (by first | assumption | exact Ar.alloc (by assumption) _) (bv_size _) ?_))
  rw [zeros16]
  have A0 := A0.alloc (.cells (bv 0) 27)
  have A1 := A1.alloc (.cells (bv 0) 27)
  have A2 := A2.alloc (.cells (bv 0) 27)
  have A3 := Ar.new w2 (bv 0)
  have B0 := B0.alloc S0 (.cells (bv 0) 27)
  generalize w2.alloc (.cells (bv 0) 27) = w3 at *
  have S0 := B0.size
  refine (c1 _).mono ?_
  rintro e w4 ⟨rfl, g⟩
  have A0 := (A0.kept g).alloc (.cells (bv P) 27)
  have A1 := (A1.kept g).alloc (.cells (bv P) 27)
  have A2 := (A2.kept g).alloc (.cells (bv P) 27)
  have A3 := (A3.kept g).alloc (.cells (bv P) 27)
  have A4 := Ar.new w4 (bv P)
  have B0 := bel_bel B0 S0 g
  have S0 := B0.size
  have B0 := B0.alloc S0 (.cells (bv P) 27)
  clear g c1 S0
  go_wp2_with (first | (refine wpList_stn rfl rfl _ _ rfl _ _ _ rfl rfl rfl (by rfl) ?_) | (refine wpList_ld rfl _ rfl _ rfl _ (by first | assumption | exact Ar.alloc (by assumption) _) (bv_size _) ?_))
  generalize w4.alloc (.cells (bv P) 27) = w5 at *
  have S0 := B0.size
  refine (c2 _).mono ?_
  rintro e w6 ⟨rfl, g⟩
  have A0 := (A0.kept g).alloc (.cells (bv P) 27)
  have A1 := (A1.kept g).alloc (.cells (bv P) 27)
  have A2 := (A2.kept g).alloc (.cells (bv P) 27)
  have A3 := (A3.kept g).alloc (.cells (bv P) 27)
  have A4 := (A4.kept g).alloc (.cells (bv P) 27)
  have A5 := Ar.new w6 (bv P)
  have B0 := bel_bel B0 S0 g
  have S0 := B0.size
  have B0 := B0.alloc S0 (.cells (bv P) 27)
  clear g c2 S0
  go_wp2_with (first | (refine wpList_stn rfl rfl _ _ rfl _ _ _ rfl rfl rfl (by rfl) ?_) | (refine wpList_ld rfl _ rfl _ rfl _ (by first | assumption | exact Ar.alloc (by assumption) _) (bv_size _) ?_))
  generalize w6.alloc (.cells (bv P) 27) = w7 at *
  have S0 := B0.size
  refine (c3 _).mono ?_
  rintro e w8 ⟨rfl, g⟩
  have A0 := (A0.kept g).alloc (.cells (bv Q) 27)
  have A1 := (A1.kept g).alloc (.cells (bv Q) 27)
  have A2 := (A2.kept g).alloc (.cells (bv Q) 27)
  have A3 := (A3.kept g).alloc (.cells (bv Q) 27)
  have A4 := (A4.kept g).alloc (.cells (bv Q) 27)
  have A5 := (A5.kept g).alloc (.cells (bv Q) 27)
  have A6 := Ar.new w8 (bv Q)
  have B0 := bel_bel B0 S0 g
  have S0 := B0.size
  have B0 := B0.alloc S0 (.cells (bv Q) 27)
  clear g c3 S0
  go_wp2_with (first | (refine wpList_stn rfl rfl _ _ rfl _ _ _ rfl rfl rfl (by rfl) ?_) | (refine wpList_ld rfl _ rfl _ rfl _ (by first | assumption | exact Ar.alloc (by assumption) _) (bv_size _) ?_))
  generalize w8.alloc (.cells (bv Q) 27) = w9 at *
  have S0 := B0.size
  refine (c4 _).mono ?_
  rintro e w10 ⟨rfl, g⟩
  have A0 := (A0.kept g).alloc (.cells (bv L) 27)
  have A1 := (A1.kept g).alloc (.cells (bv L) 27)
  have A2 := (A2.kept g).alloc (.cells (bv L) 27)
  have A3 := (A3.kept g).alloc (.cells (bv L) 27)
  have A4 := (A4.kept g).alloc (.cells (bv L) 27)
  have A5 := (A5.kept g).alloc (.cells (bv L) 27)
  have A6 := (A6.kept g).alloc (.cells (bv L) 27)
  have A7 := Ar.new w10 (bv L)
  have B0 := bel_bel B0 S0 g
  have S0 := B0.size
  have B0 := B0.alloc S0 (.cells (bv L) 27)
  clear g c4 S0
  go_wp2_with (first | (refine wpList_stn rfl rfl _ _ rfl _ _ _ rfl rfl rfl (by rfl) ?_) | (refine wpList_ld rfl _ rfl _ rfl _ (by first | assumption | exact Ar.alloc (by assumption) _) (bv_size _) ?_))
  generalize w10.alloc (.cells (bv L) 27) = w11 at *
  have S0 := B0.size
  refine (c5 _).mono ?_
  rintro e w12 ⟨rfl, g⟩
  have A0 := (A0.kept g).alloc (.cells (bv L) 27)
  have A1 := (A1.kept g).alloc (.cells (bv L) 27)
  have A2 := (A2.kept g).alloc (.cells (bv L) 27)
  have A3 := (A3.kept g).alloc (.cells (bv L) 27)
  have A4 := (A4.kept g).alloc (.cells (bv L) 27)
  have A5 := (A5.kept g).alloc (.cells (bv L) 27)
  have A6 := (A6.kept g).alloc (.cells (bv L) 27)
  have A7 := (A7.kept g).alloc (.cells (bv L) 27)
  have A8 := Ar.new w12 (bv L)
  have B0 := bel_bel B0 S0 g
  have S0 := B0.size
  have B0 := B0.alloc S0 (.cells (bv L) 27)
  clear g c5 S0
  go_wp2_with (first | (refine wpList_stn rfl rfl _ _ rfl _ _ _ rfl rfl rfl (by rfl) ?_) | (refine wpList_ld rfl _ rfl _ rfl _ (by first | assumption | exact Ar.alloc (by assumption) _) (bv_size _) ?_))
  generalize w12.alloc (.cells (bv L) 27) = w13 at *
  have S0 := B0.size
  go_cut [14] from 34 (fun v wx => ∃ gS, v = .pointer (some ⟨gS, 0, none⟩) ∧ Below w13.heap.size w13 wx ∧ Ar wx gS (bv S))
  case first =>
    refine wp_region_held_drew (S := fun wx => Ar wx w.heap.size (bv X) ∧ Ar wx (w.heap.size + 1) (bv Y) ∧ Ar wx (w.heap.size + 1 + 1) (bv Z)) (by kernel_rfl) ⟨A0, A1, A2⟩ (fun hHeld => ?_)
    refine wpAnyH_take (i := 0) (v := .agg (bv X)) rfl (by kernel_rfl) (by kernel_rfl) (by kernel_rfl) (fun _ _ _ h => h) (yields_ld (by rfl) _ rfl _ _ rfl (fun _ h => h.1)) hHeld ?_
    simp only [Act.put, List.setIfInBounds_toArray]
    refine wpAnyH_take (i := 1) (v := .agg (bv Y)) rfl (by kernel_rfl) (by kernel_rfl) (by kernel_rfl) (fun _ _ _ h => h) (yields_ld (by rfl) _ rfl _ _ rfl (fun _ h => h.2.1)) hHeld ?_
    simp only [Act.put]
    refine wpAnyH_take (i := 2) (v := .agg (bv Z)) rfl (by kernel_rfl) (by kernel_rfl) (by kernel_rfl) (fun _ _ _ h => h) (yields_ld (by rfl) _ rfl _ _ rfl (fun _ h => h.2.2)) hHeld ?_
    simp only [Act.put]
    have BW : Below w13.heap.size w13 w13.drew := bel_drew1 (Below.refl _ _)
    generalize w13.drew = wd at *
    refine wpAnyH_ready (rs := [3, 5]) (by kernel_rfl) (by simp) ?_
    refine AllReadyH.cons rfl (fun K hK => ?_) (AllReadyH.cons rfl (fun K hK => ?_) AllReadyH.nil)
    · rw [if_pos (by rfl)]
      go_wp2_with fail
      refine (c6 _).mono ?_
      rintro e wa ⟨rfl, g⟩
      have BW := bel_bel BW BW.size g
      clear g
      try go_wp2_with fail
      refine hK.out _ _ ⟨A0.kept BW, A1.kept BW, A2.kept BW⟩ (fun hHeld => ?_)
      clear hK K
      try simp only [Act.put, List.setIfInBounds_toArray, List.set_cons_zero, List.set_cons_succ]
      refine wpAnyH_ready (rs := [4, 5]) (by kernel_rfl) (by simp) ?_
      refine AllReadyH.cons rfl (fun K hK => ?_) (AllReadyH.cons rfl (fun K hK => ?_) AllReadyH.nil)
      · rw [if_pos (by rfl)]
        go_wp2_with fail
        refine (c7 _).mono ?_
        rintro e wb ⟨rfl, g⟩
        have BW := bel_bel BW BW.size g
        clear g
        try go_wp2_with fail
        refine hK.out _ _ ⟨A0.kept BW, A1.kept BW, A2.kept BW⟩ (fun hHeld => ?_)
        clear hK K
        try simp only [Act.put, List.setIfInBounds_toArray, List.set_cons_zero, List.set_cons_succ]
        refine wpAnyH_ready (rs := [5]) (by kernel_rfl) (by simp) ?_
        refine AllReadyH.cons rfl (fun K hK => ?_) AllReadyH.nil
        rw [if_pos (by rfl)]
        go_wp2_with fail
        rw [zeros16]
        have AS := Ar.new wb (bv 0)
        have GS := BW.size
        have BW := BW.alloc GS (.cells (bv 0) 27)
        refine hK.out _ _ ⟨A0.kept BW, A1.kept BW, A2.kept BW⟩ (fun hHeld => ?_)
        clear hK K
        try simp only [Act.put, List.setIfInBounds_toArray, List.set_cons_zero, List.set_cons_succ]
        generalize wb.alloc (.cells (bv 0) 27) = wb' at *
        refine wpAnyH_ready (rs := [6]) (by kernel_rfl) (by simp) ?_
        refine AllReadyH.cons rfl (fun K hK => ?_) AllReadyH.nil
        rw [if_pos (by rfl)]
        refine wp_st rfl _ _ rfl _ _ rfl rfl _ AS (bv_size _) ?_
        have AS := AS.row (bv S)
        have BW := bel_row BW GS (bv S)
        refine hK.out _ _ ⟨A0.kept BW, A1.kept BW, A2.kept BW⟩ (fun hHeld => ?_)
        clear hK K
        refine wpAnyH_done (by kernel_rfl) ?_ _
        go_wp2_with fail
        go_meet
        case rel => exact ⟨_, rfl, BW, AS⟩
      · rw [if_pos (by rfl)]
        go_wp2_with fail
        rw [zeros16]
        have AS := Ar.new wa (bv 0)
        have GS := BW.size
        have BW := BW.alloc GS (.cells (bv 0) 27)
        refine hK.out _ _ ⟨A0.kept BW, A1.kept BW, A2.kept BW⟩ (fun hHeld => ?_)
        clear hK K
        try simp only [Act.put, List.setIfInBounds_toArray, List.set_cons_zero, List.set_cons_succ]
        generalize wa.alloc (.cells (bv 0) 27) = wa' at *
        refine wpAnyH_ready (rs := [4]) (by kernel_rfl) (by simp) ?_
        refine AllReadyH.cons rfl (fun K hK => ?_) AllReadyH.nil
        rw [if_pos (by rfl)]
        go_wp2_with fail
        refine (c7 _).mono ?_
        rintro e wb ⟨rfl, g⟩
        have AS := AS.kept g
        have BW := bel_bel BW BW.size g
        clear g
        try go_wp2_with fail
        refine hK.out _ _ ⟨A0.kept BW, A1.kept BW, A2.kept BW⟩ (fun hHeld => ?_)
        clear hK K
        try simp only [Act.put, List.setIfInBounds_toArray, List.set_cons_zero, List.set_cons_succ]
        refine wpAnyH_ready (rs := [6]) (by kernel_rfl) (by simp) ?_
        refine AllReadyH.cons rfl (fun K hK => ?_) AllReadyH.nil
        rw [if_pos (by rfl)]
        refine wp_st rfl _ _ rfl _ _ rfl rfl _ AS (bv_size _) ?_
        have AS := AS.row (bv S)
        have BW := bel_row BW GS (bv S)
        refine hK.out _ _ ⟨A0.kept BW, A1.kept BW, A2.kept BW⟩ (fun hHeld => ?_)
        clear hK K
        refine wpAnyH_done (by kernel_rfl) ?_ _
        go_wp2_with fail
        go_meet
        case rel => exact ⟨_, rfl, BW, AS⟩
    · rw [if_pos (by rfl)]
      go_wp2_with fail
      rw [zeros16]
      have AS := Ar.new wd (bv 0)
      have GS := BW.size
      have BW := BW.alloc GS (.cells (bv 0) 27)
      refine hK.out _ _ ⟨A0.kept BW, A1.kept BW, A2.kept BW⟩ (fun hHeld => ?_)
      clear hK K
      try simp only [Act.put, List.setIfInBounds_toArray, List.set_cons_zero, List.set_cons_succ]
      generalize wd.alloc (.cells (bv 0) 27) = wd' at *
      refine wpAnyH_ready (rs := [3]) (by kernel_rfl) (by simp) ?_
      refine AllReadyH.cons rfl (fun K hK => ?_) AllReadyH.nil
      rw [if_pos (by rfl)]
      go_wp2_with fail
      refine (c6 _).mono ?_
      rintro e wa ⟨rfl, g⟩
      have AS := AS.kept g
      have BW := bel_bel BW BW.size g
      clear g
      try go_wp2_with fail
      refine hK.out _ _ ⟨A0.kept BW, A1.kept BW, A2.kept BW⟩ (fun hHeld => ?_)
      clear hK K
      try simp only [Act.put, List.setIfInBounds_toArray, List.set_cons_zero, List.set_cons_succ]
      refine wpAnyH_ready (rs := [4]) (by kernel_rfl) (by simp) ?_
      refine AllReadyH.cons rfl (fun K hK => ?_) AllReadyH.nil
      rw [if_pos (by rfl)]
      go_wp2_with fail
      refine (c7 _).mono ?_
      rintro e wb ⟨rfl, g⟩
      have AS := AS.kept g
      have BW := bel_bel BW BW.size g
      clear g
      try go_wp2_with fail
      refine hK.out _ _ ⟨A0.kept BW, A1.kept BW, A2.kept BW⟩ (fun hHeld => ?_)
      clear hK K
      try simp only [Act.put, List.setIfInBounds_toArray, List.set_cons_zero, List.set_cons_succ]
      refine wpAnyH_ready (rs := [6]) (by kernel_rfl) (by simp) ?_
      refine AllReadyH.cons rfl (fun K hK => ?_) AllReadyH.nil
      rw [if_pos (by rfl)]
      refine wp_st rfl _ _ rfl _ _ rfl rfl _ AS (bv_size _) ?_
      have AS := AS.row (bv S)
      have BW := bel_row BW GS (bv S)
      refine hK.out _ _ ⟨A0.kept BW, A1.kept BW, A2.kept BW⟩ (fun hHeld => ?_)
      clear hK K
      refine wpAnyH_done (by kernel_rfl) ?_ _
      go_wp2_with fail
      go_meet
      case rel => exact ⟨_, rfl, BW, AS⟩
  obtain ⟨gS, rfl, g, AS⟩ := hcut
  have A0 := A0.kept g
  have A1 := A1.kept g
  have A2 := A2.kept g
  have A3 := A3.kept g
  have A4 := A4.kept g
  have A5 := A5.kept g
  have A6 := A6.kept g
  have A7 := A7.kept g
  have A8 := A8.kept g
  have B0 := bel_bel B0 S0 g
  have S0 := B0.size
  clear g c6 c7
  go_wp2_with (first | (refine wpList_stn rfl rfl _ _ rfl _ _ _ rfl rfl rfl (by rfl) ?_) | (refine wpList_ld rfl _ rfl _ rfl _ (by first | assumption | exact Ar.alloc (by assumption) _) (bv_size _) ?_))
  refine (c8 _).mono ?_
  rintro e w14 ⟨rfl, g⟩
  have A0 := (A0.kept g).alloc (.cells (bv R) 27)
  have A1 := (A1.kept g).alloc (.cells (bv R) 27)
  have A2 := (A2.kept g).alloc (.cells (bv R) 27)
  have A3 := (A3.kept g).alloc (.cells (bv R) 27)
  have A4 := (A4.kept g).alloc (.cells (bv R) 27)
  have A5 := (A5.kept g).alloc (.cells (bv R) 27)
  have A6 := (A6.kept g).alloc (.cells (bv R) 27)
  have A7 := (A7.kept g).alloc (.cells (bv R) 27)
  have A8 := (A8.kept g).alloc (.cells (bv R) 27)
  have AS := (AS.kept g).alloc (.cells (bv R) 27)
  have A10 := Ar.new w14 (bv R)
  have B0 := bel_bel B0 S0 g
  have S0 := B0.size
  have B0 := B0.alloc S0 (.cells (bv R) 27)
  clear g c8 S0
  go_wp2_with (first | (refine wpList_stn rfl rfl _ _ rfl _ _ _ rfl rfl rfl (by rfl) ?_) | (refine wpList_ld rfl _ rfl _ rfl _ (by first | assumption | exact Ar.alloc (by assumption) _) (bv_size _) ?_))
  generalize w14.alloc (.cells (bv R) 27) = w15 at *
  have S0 := B0.size
  refine (c9 _).mono ?_
  rintro e w16 ⟨rfl, g⟩
  have A0 := (A0.kept g).alloc (.cells (bv S) 27)
  have A1 := (A1.kept g).alloc (.cells (bv S) 27)
  have A2 := (A2.kept g).alloc (.cells (bv S) 27)
  have A3 := (A3.kept g).alloc (.cells (bv S) 27)
  have A4 := (A4.kept g).alloc (.cells (bv S) 27)
  have A5 := (A5.kept g).alloc (.cells (bv S) 27)
  have A6 := (A6.kept g).alloc (.cells (bv S) 27)
  have A7 := (A7.kept g).alloc (.cells (bv S) 27)
  have A8 := (A8.kept g).alloc (.cells (bv S) 27)
  have AS := (AS.kept g).alloc (.cells (bv S) 27)
  have A10 := (A10.kept g).alloc (.cells (bv S) 27)
  have A11 := Ar.new w16 (bv S)
  have B0 := bel_bel B0 S0 g
  have S0 := B0.size
  have B0 := B0.alloc S0 (.cells (bv S) 27)
  clear g c9 S0
  go_wp2_with (first | (refine wpList_stn rfl rfl _ _ rfl _ _ _ rfl rfl rfl (by rfl) ?_) | (refine wpList_ld rfl _ rfl _ rfl _ (by first | assumption | exact Ar.alloc (by assumption) _) (bv_size _) ?_) | (refine wpList_bld rfl #[(0, .const (.int .u8 128))] rfl [(0, .int .u8 128)] (by simp [Act.eval]) ONE HO.out ?_))
  generalize w16.alloc (.cells (bv S) 27) = w17 at *
  have S0 := B0.size
  refine (c10 _).mono ?_
  rintro e w18 ⟨rfl, g⟩
  have A0 := (A0.kept g).alloc (.cells (bv X) 27)
  have A1 := (A1.kept g).alloc (.cells (bv X) 27)
  have A2 := (A2.kept g).alloc (.cells (bv X) 27)
  have A3 := (A3.kept g).alloc (.cells (bv X) 27)
  have A4 := (A4.kept g).alloc (.cells (bv X) 27)
  have A5 := (A5.kept g).alloc (.cells (bv X) 27)
  have A6 := (A6.kept g).alloc (.cells (bv X) 27)
  have A7 := (A7.kept g).alloc (.cells (bv X) 27)
  have A8 := (A8.kept g).alloc (.cells (bv X) 27)
  have AS := (AS.kept g).alloc (.cells (bv X) 27)
  have A10 := (A10.kept g).alloc (.cells (bv X) 27)
  have A11 := (A11.kept g).alloc (.cells (bv X) 27)
  have A12 := Ar.new w18 (bv X)
  have B0 := bel_bel B0 S0 g
  have S0 := B0.size
  have B0 := B0.alloc S0 (.cells (bv X) 27)
  clear g c10 S0
  go_wp2_with (first | (refine wpList_stn rfl rfl _ _ rfl _ _ _ rfl rfl rfl (by rfl) ?_) | (refine wpList_ld rfl _ rfl _ rfl _ (by first | assumption | exact Ar.alloc (by assumption) _) (bv_size _) ?_))
  generalize w18.alloc (.cells (bv X) 27) = w19 at *
  have S0 := B0.size
  have d1 : decide (P = P) = true := by simp
  have d2 : decide (L = L) = true := by simp
  have d3 : decide (S = S) = true := by simp
  have d4 : decide (X = X) = true := by simp
  have l0 : 0 < 2 ^ 128 := by omega
  have lX := HX.out
  have lY := HY.out
  have lP := HP.out
  have lL := HL.out
  have lS := HS.out
  by_cases h0 : X = 0
  · have e1 : decide (X = 0) = true := decide_eq_true h0
    have e2 : decide (P = 0) = true := decide_eq_true (Z1.out h0)
    clear h0 HX HY HP HL HS Z0 Z1 Z2
    refine wp_region_quiet_lit (by kernel_rfl) (by kernel_rfl) ?_
    iterate 36 (first
      | (refine BigFrame.wpQuiet_skip (by rfl) ?_; (simp only [Act.put, List.setIfInBounds_toArray, List.set_cons_zero, List.set_cons_succ]))
      | (refine BigFrame.wpQuiet_want (by rfl) (fun K hK => quiet_ld _ rfl _ _ rfl (Ar.ofDrawn (by assumption)) (hK _ ?_)); (simp only [Act.put, List.setIfInBounds_toArray, List.set_cons_zero, List.set_cons_succ]))
      | (refine BigFrame.wpQuiet_want (by rfl) (fun K hK => quiet_eq _ _ _ rfl _ _ rfl rfl (by assumption) (by assumption) _ (by assumption) (hK _ ?_)); (simp only [Act.put, List.setIfInBounds_toArray, List.set_cons_zero, List.set_cons_succ]))
      | (refine BigFrame.wpQuiet_want (by rfl) (fun K hK => BigFrame.quiet_move _ rfl (hK _ ?_)); (simp only [Act.put, List.setIfInBounds_toArray, List.set_cons_zero, List.set_cons_succ]))
      | quiet_step (fail))
    refine wpQuiet_nil ?_
    intro _ hw'
    obtain ⟨nq, rfl⟩ := hw'
    go_wp2_with fail
    go_ret
    exact ⟨rfl, bel_drawn B0 _⟩
  by_cases h1 : Y = 0
  · have e1 : decide (X = 0) = false := decide_eq_false h0
    have e2 : decide (P = 0) = true := decide_eq_true (Z2.out h1)
    have e3 : decide (Y = 0) = true := decide_eq_true h1
    clear h0 h1 HX HY HP HL HS Z0 Z1 Z2
    refine wp_region_quiet_lit (by kernel_rfl) (by kernel_rfl) ?_
    iterate 36 (first
      | (refine BigFrame.wpQuiet_skip (by rfl) ?_; (simp only [Act.put, List.setIfInBounds_toArray, List.set_cons_zero, List.set_cons_succ]))
      | (refine BigFrame.wpQuiet_want (by rfl) (fun K hK => quiet_ld _ rfl _ _ rfl (Ar.ofDrawn (by assumption)) (hK _ ?_)); (simp only [Act.put, List.setIfInBounds_toArray, List.set_cons_zero, List.set_cons_succ]))
      | (refine BigFrame.wpQuiet_want (by rfl) (fun K hK => quiet_eq _ _ _ rfl _ _ rfl rfl (by assumption) (by assumption) _ (by assumption) (hK _ ?_)); (simp only [Act.put, List.setIfInBounds_toArray, List.set_cons_zero, List.set_cons_succ]))
      | (refine BigFrame.wpQuiet_want (by rfl) (fun K hK => BigFrame.quiet_move _ rfl (hK _ ?_)); (simp only [Act.put, List.setIfInBounds_toArray, List.set_cons_zero, List.set_cons_succ]))
      | quiet_step (fail))
    refine wpQuiet_nil ?_
    intro _ hw'
    obtain ⟨nq, rfl⟩ := hw'
    go_wp2_with fail
    go_ret
    exact ⟨rfl, bel_drawn B0 _⟩
  · have e1 : decide (X = 0) = false := decide_eq_false h0
    have e2 : decide (P = 0) = false := decide_eq_false (fun h => by rcases Z0.out h with h | h <;> contradiction)
    have e3 : decide (Y = 0) = false := decide_eq_false h1
    clear h0 h1 HX HY HP HL HS Z0 Z1 Z2
    refine wp_region_quiet_lit (by kernel_rfl) (by kernel_rfl) ?_
    iterate 36 (first
      | (refine BigFrame.wpQuiet_skip (by rfl) ?_; (simp only [Act.put, List.setIfInBounds_toArray, List.set_cons_zero, List.set_cons_succ]))
      | (refine BigFrame.wpQuiet_want (by rfl) (fun K hK => quiet_ld _ rfl _ _ rfl (Ar.ofDrawn (by assumption)) (hK _ ?_)); (simp only [Act.put, List.setIfInBounds_toArray, List.set_cons_zero, List.set_cons_succ]))
      | (refine BigFrame.wpQuiet_want (by rfl) (fun K hK => quiet_eq _ _ _ rfl _ _ rfl rfl (by assumption) (by assumption) _ (by assumption) (hK _ ?_)); (simp only [Act.put, List.setIfInBounds_toArray, List.set_cons_zero, List.set_cons_succ]))
      | (refine BigFrame.wpQuiet_want (by rfl) (fun K hK => BigFrame.quiet_move _ rfl (hK _ ?_)); (simp only [Act.put, List.setIfInBounds_toArray, List.set_cons_zero, List.set_cons_succ]))
      | quiet_step (fail))
    refine wpQuiet_nil ?_
    intro _ hw'
    obtain ⟨nq, rfl⟩ := hw'
    go_wp2_with fail
    go_ret
    exact ⟨rfl, bel_drawn B0 _⟩
end Go.Proofs.Ytaplgdkefhcbhaa
