import Derived.Test.YtaplgdkefhcbhaaFirst
import Derived.Test.YtaplgdkefhcbhaaRefX
namespace Go.Proofs.Ytaplgdkefhcbhaa
open Go.RowKit
set_option linter.unusedVariables false

set_option maxHeartbeats 1000000 in
theorem fieldXors_ (X Y : Nat) (w : World) (hX : X < 2 ^ 128) (hY : Y < 2 ^ 128) :
    Calls Try.prog 5 #[.agg (bv X), .agg (bv Y)] w fun e w' => e = .returned (.bool true) ∧ Below w.heap.size w w' := by
  have k1 := fun w => xor_ X Y w
  have k2 := fun w => refXor_ X Y w
  have q := run_eqself (show X ^^^ Y < 2 ^ 128 from Nat.xor_lt_two_pow hX hY)
  have sX := bv_size X
  have sY := bv_size Y
  have sZ := bv_size (X ^^^ Y)
  clear hX hY
  generalize X ^^^ Y = Z at *
  obtain ⟨A0, A1, B0⟩ := two w (bv X) (bv Y)
  go_enter Try.func5, Try.ntmps5
  go_wp2_with (first | (refine wpList_ld rfl _ rfl w.heap.size rfl _ (by exact A0) sX ?_) | (refine wpList_ld rfl _ rfl (w.heap.size + 1) rfl _ (by exact A1) sY ?_))
  generalize (w.alloc (.cells (bv X) 27)).alloc (.cells (bv Y) 27) = w1 at *
  have S0 := B0.size
  refine (k1 _).mono ?_
  rintro e w2 ⟨rfl, g⟩
  have A0 := (A0.kept g).alloc (.cells (bv Z) 27)
  have A1 := (A1.kept g).alloc (.cells (bv Z) 27)
  have A2 := Ar.new w2 (bv Z)
  have B0 := bel_bel B0 S0 g
  have S0 := B0.size
  have B0 := B0.alloc S0 (.cells (bv Z) 27)
  clear g k1 S0
  go_wp2_with (first | (refine wpList_stn rfl rfl _ _ rfl _ w2.heap.size Z rfl rfl rfl (by rfl) ?_) | (refine wpList_ld rfl _ rfl w.heap.size rfl _ (by exact A0) sX ?_) | (refine wpList_ld rfl _ rfl (w.heap.size + 1) rfl _ (by exact A1) sY ?_))
  generalize w2.alloc (.cells (bv Z) 27) = w3 at *
  have S0 := B0.size
  refine (k2 _).mono ?_
  rintro e w4 ⟨rfl, g⟩
  have A2 := (A2.kept g).alloc (.cells (bv Z) 27)
  have A3 := Ar.new w4 (bv Z)
  have B0 := bel_bel B0 S0 g
  have S0 := B0.size
  have B0 := B0.alloc S0 (.cells (bv Z) 27)
  clear g k2 S0 A0 A1
  go_wp2_with (first | (refine wpList_stn rfl rfl _ _ rfl _ w4.heap.size Z rfl rfl rfl (by rfl) ?_) | (refine wpList_ld rfl _ rfl w2.heap.size rfl _ (by exact A2) sZ ?_) | (refine wpList_ld rfl _ rfl w4.heap.size rfl _ (by exact A3) sZ ?_))
  generalize w4.alloc (.cells (bv Z) 27) = w5 at *
  have S0 := B0.size
  refine (first_ _).mono ?_
  rintro e w6 ⟨rfl, g⟩
  have B0 := bel_bel B0 S0 g
  clear g
  go_wp2_with fail
  go_ret
  exact ⟨rfl, B0⟩
end Go.Proofs.Ytaplgdkefhcbhaa
