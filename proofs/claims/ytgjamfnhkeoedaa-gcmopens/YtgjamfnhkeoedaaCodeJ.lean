import Derived.Test.YtgjamfnhkeoedaaCodeM
import Derived.Deep.RegionLaw
namespace Go.Proofs.Ytgjamfnhkeoedaa
open Go.RowKit
set_option linter.unusedVariables false

theorem undersl : Try.prog.underlying 22 = some (.slice 5) := by kernel_rfl
theorem run_all4 (g : Nat) (w : World) : (Instr.sliceAt 77 (.pointer (some ⟨g, 0, none⟩)) none none none).run Try.prog w = .ok (.slice (some ⟨g, 0, none⟩) 4 4) w := by
  simp only [Instr.sliceAt, Sem.run_bind, run_underlying underw, Result.andThen_ok, Instr.sureAddr, Sem.run_pure, Instr.sliceBounds, run_sizeOf size1, Addr.add_mid]
  rfl
set_option maxHeartbeats 400000 in
theorem joinColumns_ (f : Nat → Nat) (w : World) :
    Calls Try.prog 52 #[.agg (rw8 16 f)] w fun e w' => e = .returned (.agg (rw8 16 f)) ∧ Below w.heap.size w w' := by
  obtain ⟨A0, A1, A2, B0⟩ := rnew3 w 84 16 f 44 16 (fun _ => 0) 44 16 (fun _ => 0)
  go_enter Try.func52, Try.ntmps52
  go_wp2_with (first | (refine wpList_al rfl _ rfl 16 (by exact zeroa) ?_) | (refine wpList_ldw rfl _ _ rfl _ rfl _ _ 16 _ (by with_reducible exact A0) (by omega) _ (by exact underws) rfl (by exact sizews) ?_))
  generalize ((w.alloc (.cells (rw8 16 f) 84)).alloc (.cells (rw8 16 fun _ => 0) 44)).alloc (.cells (rw8 16 fun _ => 0) 44) = w1 at *
  go_loopw [7] (fun i wr => ∃ j : Nat, j ≤ 4 ∧ i = .int .i64 j ∧ Rw wr (w.heap.size + 1) 44 16 (fun _ => 0) ∧ Rw wr (w.heap.size + 1 + 1) 44 16 (mix (4 * j) f fun _ => 0) ∧ Below w.heap.size w wr) (fun i _ => 4 - (intOf i).toNat)
  case atStart => exact ⟨0, by omega, rfl, A1, by rw [Nat.mul_zero, mix0]; exact A2, B0⟩
  case round =>
    obtain ⟨j, hj, rfl, a1, a2, b0⟩ := hrel
    clear A0 A1 A2 B0
    by_cases hlt : j < 4
    · have ix := fun w => run_idxm 84 4 77 4 16 f j w underws rfl _ _ underw sizew hlt
      have sl := fun w' => run_cutl 44 16 5 under16 size1 (w.heap.size + 1 + 1) j (by omega) w'
      have sa := run_all4
      have hs := b0.size
      have l2 := a2.lt
      have AN := Rw.new wr 77 4 (fun _ => 0)
      go_wp2_with (first | (refine wpList_al rfl _ rfl 4 (by exact zerow) ?_) | (refine wpList_stm rfl rfl _ _ _ rfl wr.heap.size 0 rfl 4 (from8 (4 * j) f) rfl _ _ _ (by with_reducible exact AN) (by omega) (by exact sizew) ?_))
      have a1 := (a1.alloc (.cells (rw8 4 fun _ => 0) 77)).omid (g' := wr.heap.size) (by omega) 0 (rw8 4 (from8 (4 * j) f)).toList
      have a2 := (a2.alloc (.cells (rw8 4 fun _ => 0) 77)).omid (g' := wr.heap.size) (by omega) 0 (rw8 4 (from8 (4 * j) f)).toList
      have a3 := AN.whole (from8 (4 * j) f)
      have b0 : Below w.heap.size w ((wr.alloc (.cells (rw8 4 fun _ => 0) 77)).setCells wr.heap.size 0 (rw8 4 (from8 (4 * j) f)).toList) := bel_cells (by omega) _ _ _ (b0.alloc (by omega) _)
      generalize wr.heap.size = gc at *
      generalize (wr.alloc (.cells (rw8 4 fun _ => 0) 77)).setCells gc 0 (rw8 4 (from8 (4 * j) f)).toList = w2 at *
      have a1 := a1.drew
      have a2 := a2.drew
      have a3 := a3.drew
      have b0 := bel_drawn b0 1
      rw [show w2.drewN 1 = w2.drew from rfl] at b0
      have ew : IntKind.i64.wrap (4 * (j : Int)) = 4 * (j : Int) := by rw [IntKind.wrap_i64]; omega
      clear AN l2
      go_region_law (refine step_cp rfl _ _ _ _ rfl _ undersl size1 _ _ _ _ _ _ _ rfl rfl (by omega) _ _ _ (by with_reducible exact a2) (by omega) _ _ (by with_reducible exact a3) ?_)
      have A1 := a1.omid (g' := w.heap.size + 1 + 1) (by omega) (4 * j) (rw8 4 (from8 (4 * j) f)).toList
      have A2 := a2.stepm
      have B3 := bel_cells (B := w.heap.size) (g := w.heap.size + 1 + 1) (by omega) (rw8 4 (from8 (4 * j) f)).toList (4 * j) _ b0
      clear a1 a2 a3 b0
      generalize w2.drew.setCells (w.heap.size + 1 + 1) (4 * j) (rw8 4 (from8 (4 * j) f)).toList = w3 at *
      go_wp2_with fail
      go_roundw
      case rel => exact ⟨j + 1, by omega, by go_num, A1, A2, B3⟩
      case measure => simp [intOf]; omega
    · obtain rfl : j = 4 := by omega
      have a2 := a2.full
      go_wp2_with (first | (refine wpList_ldw rfl _ _ rfl _ rfl _ _ 16 _ (by with_reducible exact a2) (by omega) _ (by exact under16) rfl (by exact size16) ?_) | (refine wpList_stm rfl rfl _ _ _ rfl (w.heap.size + 1) 0 rfl 16 f rfl _ _ _ (by with_reducible exact a1) (by omega) (by exact size16) ?_))
      refine bodyPost_ret (v := .agg (rw8 16 f)) ?_ rfl ⟨rfl, bel_cells (by omega) _ _ _ b0⟩
      exact results_rw rfl _ _ (w.heap.size + 1) 16 f _ rfl (a1.whole _) under16 rfl size16
/-- The columns mixed. -/
def mxc (f : Nat → Nat) : Nat → Nat := fun i => mc (from8 (4 * (i / 4)) f) (i % 4)
theorem mxc_part (f : Nat → Nat) (j : Nat) : rw8 4 (from8 (4 * j) (mxc f)) = rw8 4 (mc (from8 (4 * j) f)) := rw8_ext fun i hi => by
  unfold from8 mxc
  rw [show (4 * j + i) / 4 = j from by omega, show (4 * j + i) % 4 = i from by omega]
  rfl
theorem xc (a b : Nat) : a ^^^ (a ^^^ b) = b := by rw [← Nat.xor_assoc, Nat.xor_self, Nat.zero_xor]
theorem xlc (a b c : Nat) : a ^^^ (b ^^^ c) = b ^^^ (a ^^^ c) := by rw [← Nat.xor_assoc, Nat.xor_comm a b, Nat.xor_assoc]
theorem mc_at (a b c d m n : Nat) (p : Nat) (h : p ^^^ a = b ^^^ c ^^^ d) : m ^^^ n ^^^ p ^^^ a = m ^^^ n ^^^ b ^^^ c ^^^ d := by
  rw [Nat.xor_assoc _ p a, h]
  simp only [Nat.xor_assoc]
theorem mc_col (f : Nat → Nat) (c r : Nat) (hr : r < 4) : mc (from8 (4 * c) f) r = mul8 2 (f (4 * c + r)) ^^^ mul8 2 (f (4 * c + (r + 1) % 4)) ^^^ f (4 * c + (r + 1) % 4) ^^^ f (4 * c + (r + 2) % 4) ^^^ f (4 * c + (r + 3) % 4) := by
  unfold mc
  rw [mul8_xor]
  refine mc_at _ _ _ _ _ _ _ ?_
  unfold al from8
  obtain rfl | rfl | rfl | rfl : r = 0 ∨ r = 1 ∨ r = 2 ∨ r = 3 := by omega
  all_goals
    simp only [Nat.reduceAdd, Nat.reduceMod]
    generalize f (4 * c + 0) = x0
    generalize f (4 * c + 1) = x1
    generalize f (4 * c + 2) = x2
    generalize f (4 * c + 3) = x3
    simp only [Nat.xor_comm, xlc, xc, Nat.xor_self, Nat.xor_zero]
theorem mxc_mx (f : Nat → Nat) : ∀ i, i < 16 → mxc f i = mx f i := fun i hi => by
  have := mc_col f (i / 4) (i % 4) (by omega)
  rw [show 4 * (i / 4) + i % 4 = i from by omega] at this
  exact this
theorem from8_lt {f : Nat → Nat} (hf : ∀ i, i < 16 → f i < 256) {j : Nat} (hj : j < 4) : ∀ i, i < 4 → from8 (4 * j) f i < 256 := fun i hi => hf _ (by omega)
set_option maxHeartbeats 1000000 in
theorem mixColumns_ (f : Nat → Nat) (w : World) (hf : ∀ i, i < 16 → f i < 256) :
    Calls Try.prog 43 #[.agg (rw8 16 f)] w fun e w' => e = .returned (.agg (rw8 16 (mx f))) ∧ Below w.heap.size w w' := by
  have k1 := fun w => splitColumns_ f w
  have HM : Hid (rw8 16 (mxc f) = rw8 16 (mx f)) := rw8_ext (mxc_mx f)
  have HF := hid hf
  clear hf
  obtain ⟨A0, A1, B0⟩ := rnew2 w 44 16 f 44 16 (fun _ => 0)
  go_enter Try.func43, Try.ntmps43
  go_wp2_with (first | (refine wpList_al rfl _ rfl 16 (by exact zeroa) ?_) | (refine wpList_ldw rfl _ _ rfl _ rfl _ _ 16 _ (by with_reducible exact A0) (by omega) _ (by exact under16) rfl (by exact size16) ?_))
  generalize (w.alloc (.cells (rw8 16 f) 44)).alloc (.cells (rw8 16 fun _ => 0) 44) = w1 at *
  have S0 := B0.size
  have l1 := A1.lt
  refine (k1 _).mono ?_
  rintro e w2 ⟨rfl, g⟩
  have sg := g.size
  have AN := Rw.new w2 84 16 (fun _ => 0)
  have A1 := ((A1.kept g).alloc (.cells (rw8 16 fun _ => 0) 84)).omid (g' := w2.heap.size) (by omega) 0 (rw8 16 f).toList
  have A2 := AN.whole f
  have B0 := bel_bel B0 S0 g
  have S0 := B0.size
  have B0 : Below w.heap.size w ((w2.alloc (.cells (rw8 16 fun _ => 0) 84)).setCells w2.heap.size 0 (rw8 16 f).toList) := bel_cells (by omega) _ _ _ (B0.alloc (by omega) _)
  clear k1 g A0
  go_wp2_with (first | (refine wpList_al rfl _ rfl 16 (by exact zerows) ?_) | (refine wpList_stm rfl rfl _ _ _ rfl w2.heap.size 0 rfl 16 f rfl _ _ _ (by with_reducible exact AN) (by omega) (by exact sizews) ?_) | (refine wpList_ldw rfl _ _ rfl _ rfl _ _ 16 _ (by with_reducible exact A2) (by omega) _ (by exact underws) rfl (by exact sizews) ?_))
  have hgc : w.heap.size + 1 < w2.heap.size := by omega
  clear AN sg l1 S0
  generalize w2.heap.size = gc at *
  generalize (w2.alloc (.cells (rw8 16 fun _ => 0) 84)).setCells gc 0 (rw8 16 f).toList = w3 at *
  go_loopw [9] (fun i wr => ∃ j : Nat, j ≤ 4 ∧ i = .int .i64 j ∧ Rw wr (w.heap.size + 1) 44 16 (fun _ => 0) ∧ Rw wr gc 84 16 (mix (4 * j) (mxc f) f) ∧ Below w.heap.size w wr) (fun i _ => 4 - (intOf i).toNat)
  case atStart => exact ⟨0, by omega, rfl, A1, by rw [Nat.mul_zero, mix0]; exact A2, B0⟩
  case round =>
    obtain ⟨j, hj, rfl, a1, a2, b0⟩ := hrel
    clear A1 A2 B0
    by_cases hlt : j < 4
    · have ix := fun w => run_idxm 84 4 77 4 16 f j w underws rfl _ _ underw sizew hlt
      have k2 := fun w => mixColumn_ (from8 (4 * j) f) w (from8_lt HF.out hlt)
      have HP := hid (mxc_part f j)
      have hs := b0.size
      have l2 := a2.lt
      have AN := Rw.new wr 77 4 (fun _ => 0)
      have a3 := AN.whole (from8 (4 * j) f)
      go_wp2_with (first | (refine wpList_al rfl _ rfl 4 (by exact zerow) ?_) | (refine wpList_stm rfl rfl _ _ _ rfl wr.heap.size 0 rfl 4 (from8 (4 * j) f) rfl _ _ _ (by with_reducible exact AN) (by omega) (by exact sizew) ?_) | (refine wpList_ldw rfl _ _ rfl _ rfl _ _ 4 _ (by with_reducible exact a3) (by omega) _ (by exact underw) rfl (by exact sizew) ?_))
      have a1 := (a1.alloc (.cells (rw8 4 fun _ => 0) 77)).omid (g' := wr.heap.size) (by omega) 0 (rw8 4 (from8 (4 * j) f)).toList
      have a2 := (a2.alloc (.cells (rw8 4 fun _ => 0) 77)).omid (g' := wr.heap.size) (by omega) 0 (rw8 4 (from8 (4 * j) f)).toList
      have b0 : Below w.heap.size w ((wr.alloc (.cells (rw8 4 fun _ => 0) 77)).setCells wr.heap.size 0 (rw8 4 (from8 (4 * j) f)).toList) := bel_cells (by omega) _ _ _ (b0.alloc (by omega) _)
      generalize wr.heap.size = gw at *
      generalize (wr.alloc (.cells (rw8 4 fun _ => 0) 77)).setCells gw 0 (rw8 4 (from8 (4 * j) f)).toList = w4 at *
      have s0 := b0.size
      clear AN a3 hs l2
      refine (k2 _).mono ?_
      rintro e w5 ⟨rfl, g⟩
      have a1 := a1.kept g
      have a2 := a2.kept g
      have b0 := bel_bel b0 s0 g
      clear g k2 s0
      go_wp2_with (refine wpList_stm rfl rfl _ _ _ rfl gc (j * 4) rfl 4 (mc (from8 (4 * j) f)) rfl _ _ _ (by with_reducible exact a2) (by omega) (by exact sizew) ?_; rw [Nat.mul_comm j 4])
      have A1 := a1.omid (g' := gc) (by omega) (4 * j) (rw8 4 (mc (from8 (4 * j) f))).toList
      have A2 := a2.stepm
      rw [HP.out] at A2
      have B3 := bel_cells (B := w.heap.size) (g := gc) (by omega) (rw8 4 (mc (from8 (4 * j) f))).toList (4 * j) _ b0
      clear a1 a2 b0 HP
      generalize w5.setCells gc (4 * j) (rw8 4 (mc (from8 (4 * j) f))).toList = w6 at *
      go_roundw
      case rel => exact ⟨j + 1, by omega, by go_num, A1, A2, B3⟩
      case measure => simp [intOf]; omega
    · obtain rfl : j = 4 := by omega
      have a2 := a2.full
      have k3 := fun w => joinColumns_ (mxc f) w
      have s0 := b0.size
      go_wp2_with (refine wpList_ldw rfl _ _ rfl _ rfl _ _ 16 _ (by with_reducible exact a2) (by omega) _ (by exact underws) rfl (by exact sizews) ?_)
      refine (k3 _).mono ?_
      rintro e w7 ⟨rfl, g⟩
      have a1 := a1.kept g
      have b0 := bel_bel b0 s0 g
      clear g k3 s0
      go_wp2_with (refine wpList_stm rfl rfl _ _ _ rfl (w.heap.size + 1) 0 rfl 16 (mxc f) rfl _ _ _ (by with_reducible exact a1) (by omega) (by exact size16) ?_)
      refine bodyPost_ret (v := .agg (rw8 16 (mxc f))) ?_ rfl ⟨by rw [HM.out], bel_cells (by omega) _ _ _ b0⟩
      exact results_rw rfl _ _ (w.heap.size + 1) 16 (mxc f) _ rfl (a1.whole _) under16 rfl size16
end Go.Proofs.Ytgjamfnhkeoedaa
