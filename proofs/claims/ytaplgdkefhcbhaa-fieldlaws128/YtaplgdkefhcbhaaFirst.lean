import Derived.Test.YtaplgdkefhcbhaaMul
namespace Go.Proofs.Ytaplgdkefhcbhaa
open Go.RowKit
set_option linter.unusedVariables false

set_option maxRecDepth 100000 in
theorem ex1 : mul8 60 165 = 36 := by decide +kernel
theorem ex2 : inv8 60 = 119 := by decide +kernel
theorem lits : ∃ X Y Z V : Nat, Try.prog.built 27 [(0, .int .u8 64)] = some (bv X) ∧ Try.prog.built 27 [(15, .int .u8 1)] = some (bv Y) ∧ Try.prog.built 27 [(0, .int .u8 225)] = some (bv Z) ∧ Try.prog.built 27 [(0, .int .u8 64), (15, .int .u8 1)] = some (bv V) ∧ Y < 2 ^ 128 ∧ Z < 2 ^ 128 ∧ V < 2 ^ 128 ∧ mul X Y = Z ∧ X ^^^ Y = V := by
  refine ⟨2 ^ 126, 1, tx 1, 2 ^ 126 ^^^ 1, by kernel_rfl, by kernel_rfl, by kernel_rfl, by kernel_rfl, by omega, by decide +kernel, by decide +kernel, mul_x 1, rfl⟩
theorem run_eqself {A : Nat} (hA : A < 2 ^ 128) (w : World) : (Op.equalIn 10000 27 (.agg (bv A)) (.agg (bv A))).run Try.prog w = .ok true w := by
  rw [run_eq16 9998 w hA hA, decide_eq_true rfl]

set_option maxHeartbeats 1000000 in
theorem first_ (w : World) :
    Calls Try.prog 11 #[] w fun e w' => e = .returned (.bool true) ∧ Below w.heap.size w w' := by
  have k1 := fun w => mul8_ 60 165 w (by omega) (by omega)
  rw [ex1] at k1
  have k2 := fun w => inv8_ 60 w (by omega)
  rw [ex2] at k2
  obtain ⟨X, Y, Z, V, hX, hY, hZ, hV, lY, lZ, lV, eZ, eV⟩ := lits
  have HX := hid hX
  have HY := hid hY
  have HZ := hid hZ
  have HV := hid hV
  have k3 := fun w => mul128_ X Y w lY
  rw [eZ] at k3
  have k4 := fun w => xor_ X Y w
  rw [eV] at k4
  have q1 := run_eqself lZ
  have q2 := run_eqself lV
  have sX := bv_size X
  have sY := bv_size Y
  have sZ := bv_size Z
  have sV := bv_size V
  clear hX hY hZ hV lY lZ lV eZ eV
  go_enter Try.func11, Try.ntmps11
  go_wp2_with fail
  refine (k1 _).mono ?_
  rintro e w1 ⟨rfl, rfl⟩
  go_wp2_with fail
  refine (k2 _).mono ?_
  rintro e w2 ⟨rfl, rfl⟩
  clear k1 k2
  obtain ⟨A0, A1, B0⟩ := two w2 (bv X) (bv Y)
  go_wp2_with (first | (refine wpList_bld rfl #[(0, .const (.int .u8 64))] rfl [(0, .int .u8 64)] (by simp [Act.eval]) X HX.out ?_) | (refine wpList_bld rfl #[(15, .const (.int .u8 1))] rfl [(15, .int .u8 1)] (by simp [Act.eval]) Y HY.out ?_) | (refine wpList_stn rfl rfl _ _ rfl _ w2.heap.size X rfl rfl rfl (by rfl) ?_) | (refine wpList_stn rfl rfl _ _ rfl _ (w2.heap.size + 1) Y rfl rfl (by simp) (by rfl) ?_) | (refine wpList_ld rfl _ rfl w2.heap.size rfl _ (by exact A0) sX ?_) | (refine wpList_ld rfl _ rfl (w2.heap.size + 1) rfl _ (by exact A1) sY ?_))
  generalize (w2.alloc (.cells (bv X) 27)).alloc (.cells (bv Y) 27) = w3 at *
  have S0 := B0.size
  refine (k3 _).mono ?_
  rintro e w4 ⟨rfl, g⟩
  have A0 := (A0.kept g).alloc (.cells (bv Z) 27)
  have A1 := (A1.kept g).alloc (.cells (bv Z) 27)
  have B0 := bel_bel B0 S0 g
  have S0 := B0.size
  clear g k3
  go_wp2_with (first | (refine wpList_stn rfl rfl _ _ rfl _ w4.heap.size Z rfl rfl rfl (by rfl) ?_) | (refine wpList_ld rfl _ rfl w2.heap.size rfl _ (by exact A0) sX ?_) | (refine wpList_ld rfl _ rfl (w2.heap.size + 1) rfl _ (by exact A1) sY ?_))
  have A2 := Ar.new w4 (bv Z)
  have B0 := B0.alloc S0 (.cells (bv Z) 27)
  generalize w4.alloc (.cells (bv Z) 27) = w5 at *
  have S0 := B0.size
  clear A0 A1
  refine (k4 _).mono ?_
  rintro e w6 ⟨rfl, g⟩
  have A2 := (A2.kept g).alloc (.cells (bv V) 27)
  have A3 := Ar.new w6 (bv V)
  have B0 := (bel_bel B0 S0 g).alloc (bel_bel B0 S0 g).size (.cells (bv V) 27)
  clear g k4 S0
  go_wp2_with (first | (refine wpList_bld rfl #[(0, .const (.int .u8 225))] rfl [(0, .int .u8 225)] (by simp [Act.eval]) Z HZ.out ?_) | (refine wpList_bld rfl #[(0, .const (.int .u8 64)), (15, .const (.int .u8 1))] rfl [(0, .int .u8 64), (15, .int .u8 1)] (by simp [Act.eval]) V HV.out ?_) | (refine wpList_stn rfl rfl _ _ rfl _ w6.heap.size V rfl rfl rfl (by rfl) ?_) | (refine wpList_ldg rfl _ rfl w4.heap.size rfl _ (by exact A2) sZ ?_) | (refine wpList_ldg rfl _ rfl w6.heap.size rfl _ (by exact A3) sV ?_))
  go_ret
  exact ⟨rfl, B0⟩
end Go.Proofs.Ytaplgdkefhcbhaa
