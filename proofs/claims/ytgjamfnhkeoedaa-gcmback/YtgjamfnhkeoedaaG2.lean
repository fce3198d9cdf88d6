import Derived.Test.YtgjamfnhkeoedaaG1
import Derived.Test.YtgjamfnhkeoedaaCodeB
namespace Go.Proofs.Ytgjamfnhkeoedaa
open Go.RowKit
set_option linter.unusedVariables false

theorem bel_grown {B g : Nat} {a b c : World} (h : Below B a b) (hs : B ≤ b.heap.size) (hB : B ≤ g) (hg : b.grownBy c (some g)) : Below B a c :=
  h.trans ⟨hg.os, hg.tape, hg.output, hg.size, fun k hk => hg.block k (by omega) (fun e => by have := Option.some.inj e; omega)⟩
theorem Cp.grown {w w' : World} {g g' : Nat} {k : Nat → Nat} (h : Cp w g k) (hg : w.grownBy w' (some g')) (hn : g ≠ g') : Cp w' g k := h.same (hg.block g h.lt (fun e => hn (Option.some.inj e)))
theorem Se.grown {w w' : World} {g g' gc : Nat} {f : Nat → Nat} (h : Se w g gc f) (hg : w.grownBy w' (some g')) (hn : g ≠ g') : Se w' g gc f := by
  have := h.lt
  unfold Se at *; rw [hg.block g this (fun e => hn (Option.some.inj e))]; exact h
theorem Rw.grown {w w' : World} {g g' t n : Nat} {f : Nat → Nat} (h : Rw w g t n f) (hg : w.grownBy w' (some g')) (hn : g ≠ g') : Rw w' g t n f := by
  have := h.lt
  unfold Rw at *; rw [hg.block g this (fun e => hn (Option.some.inj e))]; exact h
set_option maxHeartbeats 1000000 in
theorem bitLengths_ (a0 a1 : Option Addr) (n0 c0 n1 c1 : Nat) (w : World) (h0 : n0 ≤ 65536) (h1 : n1 ≤ 65536) :
    Calls Try.prog 28 #[.slice a0 n0 c0, .slice a1 n1 c1] w fun e w' => e = .returned (.agg (rw8 16 fun i => (e8 (8 * n0) ++ e8 (8 * n1)).getD i 0)) ∧ Below w.heap.size w w' := by
  obtain ⟨A0, A1, B0⟩ := rnew2 w 44 16 (fun _ => 0) 44 16 (fun _ => 0)
  have k1 := fun wx hr => putNumber_ (w.heap.size + 1) 0 8 16 44 16 (8 * n0) (fun _ => 0) wx hr (by omega) (by omega) (by omega)
  have k2 := fun wx hr => putNumber_ (w.heap.size + 1) 8 8 8 44 16 (8 * n1) (put8 0 8 (nb 8 (8 * n0)) fun _ => 0) wx hr (by omega) (by omega) (by omega)
  rw [show ((8 * n0 : Nat) : Int) = 8 * (n0 : Int) from by omega] at k1
  rw [show ((8 * n1 : Nat) : Int) = 8 * (n1 : Int) from by omega] at k2
  have HZ := hid (ln_put (8 * n0) (8 * n1))
  obtain ⟨z1, Hz1⟩ : ∃ z, Hid (put8 0 8 (nb 8 (8 * n0)) (fun _ => 0) = z) := ⟨_, rfl⟩
  rw [Hz1.out] at k1 k2 HZ
  obtain ⟨z2, Hz2⟩ : ∃ z, Hid (put8 8 8 (nb 8 (8 * n1)) z1 = z) := ⟨_, rfl⟩
  rw [Hz2.out] at k2 HZ
  go_enter Try.func28, Try.ntmps28
  go_wp2_with (refine wpList_al rfl _ rfl 16 (by exact zeroa) ?_)
  generalize (w.alloc (.cells (rw8 16 fun _ => 0) 44)).alloc (.cells (rw8 16 fun _ => 0) 44) = wa at *
  refine (k1 _ A1).mono ?_
  rintro e w1 ⟨rfl, A2, g1⟩
  have A0 := A0.grown g1 (by omega)
  have B0 := bel_grown B0 B0.size (by omega) g1
  clear A1 k1 g1
  go_wp2_with fail
  refine (k2 _ A2).mono ?_
  rintro e w2 ⟨rfl, A1, g1⟩
  have A0 := A0.grown g1 (by omega)
  have B0 := bel_grown B0 B0.size (by omega) g1
  have A1 := A1.ext HZ.out
  clear A2 k2 g1
  obtain ⟨z, Hz⟩ : ∃ z, Hid ((fun i => (e8 (8 * n0) ++ e8 (8 * n1)).getD i 0) = z) := ⟨_, rfl⟩
  rw [Hz.out] at A1
  go_wp2_with (first | (refine wpList_ldw rfl _ _ rfl _ rfl _ _ 16 _ (by with_reducible exact A1) (by omega) _ (by exact under16) rfl (by exact size16) ?_) | (refine wpList_stm rfl rfl _ _ _ rfl w.heap.size 0 rfl 16 z rfl _ _ _ (by with_reducible exact A0) (by omega) (by exact size16) ?_))
  refine bodyPost_ret (v := .agg (rw8 16 z)) ?_ rfl ⟨by rw [← Hz.out], bel_cells (Nat.le_refl _) _ _ _ B0⟩
  exact results_rw rfl _ _ w.heap.size 16 z _ rfl (A0.whole _) under16 rfl size16

theorem under12 : Try.prog.underlying 39 = some (.array 12 5) := by kernel_rfl
theorem size12 : (Try.prog.info? 39).map (·.size) = some 12 := by kernel_rfl
theorem sizes : (Try.prog.info? 41).map (·.size) = some 13 := by kernel_rfl
theorem snew (w : World) (gc : Nat) (f : Nat → Nat) : Se (w.alloc (.cells (sv gc f) 41)) w.heap.size gc f ∧ Below w.heap.size w (w.alloc (.cells (sv gc f) 41)) := ⟨Se.new w gc f, (Below.refl _ _).alloc (Nat.le_refl _) _⟩
set_option maxHeartbeats 1000000 in
theorem counted_ (gc x : Nat) (k : Nat → Nat) (nz : List Nat) (w : World) (cc : Cp w gc k) (hk : ∀ j, k j < 256) (hl : nz.length = 12) (hy : ∀ x ∈ nz, x < 256) (hx : x < 2 ^ 64) :
    Calls Try.prog 30 #[.agg (sv gc (fb nz)), .int .u64 x] w fun e w' => e = .returned (.agg (rw8 16 (bl k (cb nz x) 14))) ∧ Below w.heap.size w w' := by
  have hgl := cc.lt
  have kb := fun w cc => block8_ gc k (cb nz x) w cc hk (cb_lt hy x)
  obtain ⟨S0, B0⟩ := snew w gc (fb nz)
  have cc := cc.kept B0
  generalize HW : w.alloc (.cells (sv gc (fb nz)) 41) = ws at *
  have HS : ws.heap.size = w.heap.size + 1 := by rw [← HW]; simp
  obtain ⟨A0, A1, B1⟩ := rnew2 ws 44 16 (fun _ => 0) 44 16 (fun _ => 0)
  rw [HS] at A0 A1
  have S0 := S0.kept B1
  have cc := cc.kept B1
  have B0 := bel_bel B0 B0.size B1
  rw [← HW] at A0 A1 B0 S0 cc
  clear HW HS B1
  go_enter Try.func30, Try.ntmps30
  go_wp2_with (refine wpList_al rfl _ rfl 16 (by exact zeroa) ?_)
  have b1 := S0.bs hl hy
  generalize ((w.alloc (.cells (sv gc (fb nz)) 41)).alloc (.cells (rw8 16 fun _ => 0) 44)).alloc (.cells (rw8 16 fun _ => 0) 44) = wa at *
  have A0 := A0.drew
  have A1 := A1.drew
  have S0 := S0.drew
  have cc := cc.drew
  have B0 := bel_drew1 B0
  have b1 := S0.bs hl hy
  have HC := hid (cb_put nz x)
  go_region_law (refine step_cpb rfl _ _ _ _ rfl _ Try.underlying22 size1 _ _ _ _ _ _ _ rfl rfl _ _ _ (by with_reducible exact A1) 12 rfl (by omega) _ (by with_reducible exact b1) (fb nz) (fun i _ => ic_get nz i) ?_)
  have A0 := A0.omid (g' := w.heap.size + 1 + 1) (by omega) 0 (rw8 12 (fb nz)).toList
  have A1 := A1.mid 0 12 (fb nz)
  have S0 := S0.omid (g' := w.heap.size + 1 + 1) (by omega) 0 (rw8 12 (fb nz)).toList
  have cc := cc.omid (g' := w.heap.size + 1 + 1) (by omega) 0 (rw8 12 (fb nz)).toList
  have B0 := bel_cells (g := w.heap.size + 1 + 1) (by omega) (rw8 12 (fb nz)).toList 0 _ B0
  clear b1
  generalize World.setCells _ (w.heap.size + 1 + 1) 0 (rw8 12 (fb nz)).toList = wb at *
  have k2 := fun wx hr => putNumber_ (w.heap.size + 1 + 1) 12 4 4 44 16 x (put8 0 12 (fb nz) fun _ => 0) wx hr (by omega) (by omega) hx
  obtain ⟨z1, Hz1⟩ : ∃ z, Hid (put8 0 12 (fb nz) (fun _ => 0) = z) := ⟨_, rfl⟩
  rw [Hz1.out] at k2 HC A1
  obtain ⟨z2, Hz2⟩ : ∃ z, Hid (put8 12 4 (nb 4 x) z1 = z) := ⟨_, rfl⟩
  rw [Hz2.out] at k2 HC
  go_wp2_with fail
  refine (k2 _ A1).mono ?_
  rintro e w1 ⟨rfl, A2, g1⟩
  have A0 := A0.grown g1 (by omega)
  have cc := cc.grown g1 (by omega)
  have S0 := S0.grown g1 (by omega)
  have B0 := bel_grown B0 B0.size (by omega) g1
  have A2 := A2.ext HC.out
  clear A1 k2 g1
  have cp := S0.ptr
  obtain ⟨z, Hz⟩ : ∃ z, Hid (bl k (cb nz x) 14 = z) := ⟨_, rfl⟩
  rw [Hz.out] at kb
  obtain ⟨cz, Hcz⟩ : ∃ z, Hid (cb nz x = z) := ⟨_, rfl⟩
  rw [Hcz.out] at kb A2
  go_wp2_with (refine wpList_ldw rfl _ _ rfl _ rfl _ _ 16 _ (by with_reducible exact A2) (by omega) _ (by exact under16) rfl (by exact size16) ?_)
  refine (kb _ cc).mono ?_
  rintro e w2 ⟨rfl, g1⟩
  have A0 := A0.kept g1
  have B0 := bel_bel B0 B0.size g1
  clear g1 kb cp S0 cc A2
  go_wp2_with (refine wpList_stm rfl rfl _ _ _ rfl (w.heap.size + 1) 0 rfl 16 z rfl _ _ _ (by with_reducible exact A0) (by omega) (by exact size16) ?_)
  refine bodyPost_ret (v := .agg (rw8 16 z)) ?_ rfl ⟨by rw [← Hz.out], bel_cells (by omega) _ _ _ B0⟩
  exact results_rw rfl _ _ (w.heap.size + 1) 16 z _ rfl (A0.whole _) under16 rfl size16
end Go.Proofs.Ytgjamfnhkeoedaa
