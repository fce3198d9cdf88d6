import Derived.Test.YtfgnllfgccbolaaDoorEight
namespace Go.Proofs.YtfgnllfgccbolaaDoor
open Go.RowKit
set_option linter.unusedVariables false

theorem heap_first (w : World) (o1 o2 o3 : Obj) : (((w.alloc o1).alloc o2).alloc o3).heap[w.heap.size]? = some o1 := by
  rw [Below.heap_alloc _ _ _ (by simp; omega), Below.heap_alloc _ _ _ (by simp)]; exact heap_alloc_new w o1
theorem heap_second (w : World) (o1 o2 o3 : Obj) : (((w.alloc o1).alloc o2).alloc o3).heap[w.heap.size + 1]? = some o2 := by
  rw [Below.heap_alloc _ _ _ (by simp)]
  have := heap_alloc_new (w.alloc o1) o2
  simpa using this
theorem heap_third (w : World) (o1 o2 o3 : Obj) : (((w.alloc o1).alloc o2).alloc o3).heap[w.heap.size + 1 + 1]? = some o3 := by
  have := heap_alloc_new ((w.alloc o1).alloc o2) o3
  simpa using this
theorem zeros32 (k : Nat) : #[Value.int IntKind.u32 0, Value.int IntKind.u32 0, Value.int IntKind.u32 0, Value.int IntKind.u32 0, Value.int IntKind.u32 0, Value.int IntKind.u32 0, Value.int IntKind.u32 0, Value.int IntKind.u32 0, Value.int IntKind.u32 0, Value.int IntKind.u32 0, Value.int IntKind.u32 0, Value.int IntKind.u32 0, Value.int IntKind.u32 0, Value.int IntKind.u32 0, Value.int IntKind.u32 0, Value.int IntKind.u32 0, Value.int IntKind.u32 0, Value.int IntKind.u32 0, Value.int IntKind.u32 0, Value.int IntKind.u32 0, Value.int IntKind.u32 0, Value.int IntKind.u32 0, Value.int IntKind.u32 0, Value.int IntKind.u32 0, Value.int IntKind.u32 0, Value.int IntKind.u32 0, Value.int IntKind.u32 0, Value.int IntKind.u32 0, Value.int IntKind.u32 0, Value.int IntKind.u32 0, Value.int IntKind.u32 0, Value.int IntKind.u32 0] = pv k 0 := rfl

/-- A whole array goes into its variable. -/
theorem wpList_store39 {ops : Array Oper} {rest : List Oper} {o : Oper} {a : Act} {w : World} {Q : Exit → Act → World → Prop} (hgd : o.guard = none) (hd : o.dst = none) (x y : Operand) (ho : o.op = .store 39 x y)
    (g k : Nat) (hx : a.eval x = .pointer (some ⟨g, 0, none⟩)) (hy : a.eval y = .agg (mv k)) (old : Array Value) (hg : Ar w g old) (hs : old.size = 32)
    (h : wpList Tryd.prog ops Q rest a (w.setRow g (mv k))) : wpList Tryd.prog ops Q (o :: rest) a w := by
  refine wpList_store_row hgd 39 x y ho g (mv k) hx hy 39 old hg (mv_info k) (by rw [hs, mv_size]) (mv_one k) ?_
  rw [hd]
  exact h

set_option maxHeartbeats 1000000 in
theorem twice_ (k : Nat) (w : World) :
    Calls Tryd.prog 24 #[.agg (mv k)] w fun e w' => e = .returned (.agg (mv (2 * k))) ∧ Below w.heap.size w w' := by
  have hi := hid (mv_info k)
  have hi2 := hid (mv_info (2 * k))
  go_enter Tryd.func24, Tryd.ntmps24
  go_wp2_with (refine wpList_load_row rfl 39 _ rfl w.heap.size rfl 39 (mv k) (0, 0) _ (heap_first w _ _ _) under39 rfl hi.out ?_)
  rw [zeros32 (2 * k)]
  have A0 : Ar (((w.alloc (.cells (mv k) 39)).alloc (.cells (pv (2 * k) 0) 39)).alloc (.cells (pv (2 * k) 0) 39)) w.heap.size (mv k) := heap_first w _ _ _
  have A1 : Ar (((w.alloc (.cells (mv k) 39)).alloc (.cells (pv (2 * k) 0) 39)).alloc (.cells (pv (2 * k) 0) 39)) (w.heap.size + 1) (pv (2 * k) 0) := heap_second w _ _ _
  have A2 : Ar (((w.alloc (.cells (mv k) 39)).alloc (.cells (pv (2 * k) 0) 39)).alloc (.cells (pv (2 * k) 0) 39)) (w.heap.size + 1 + 1) (pv (2 * k) 0) := heap_third w _ _ _
  have B0 : Below w.heap.size w (((w.alloc (.cells (mv k) 39)).alloc (.cells (pv (2 * k) 0) 39)).alloc (.cells (pv (2 * k) 0) 39)) := (((Below.refl _ _).alloc (Nat.le_refl _) _).alloc (by simp) _).alloc (by simp; omega) _
  generalize ((w.alloc (.cells (mv k) 39)).alloc (.cells (pv (2 * k) 0) 39)).alloc (.cells (pv (2 * k) 0) 39) = w1 at *
  go_loopw [7] (fun i wr => ∃ j : Nat, j ≤ 32 ∧ i = .int .i64 j ∧ Ar wr w.heap.size (mv k) ∧ Ar wr (w.heap.size + 1) (pv (2 * k) 0) ∧ Ar wr (w.heap.size + 1 + 1) (pv (2 * k) j) ∧ Below w.heap.size w wr) (fun i _ => 32 - (intOf i).toNat)
  case atStart => exact ⟨0, by omega, rfl, A0, A1, A2, B0⟩
  case round =>
    obtain ⟨j, hj, rfl, a0, a1, a2, b0⟩ := hrel
    clear A0 A1 A2 B0
    by_cases hlt : j < 32
    · have hix := run_index39 (mv k) _ j wr hlt (mv_get k j hlt)
      have hx : stps k (2 ^ j) < 4294967296 := stps_lt k (pow_lt32 hlt)
      have HX : Hid (stps k (stps k (2 ^ j)) = stps (2 * k) (2 ^ j)) := by show _ = _; rw [← stps_add, show k + k = 2 * k from by omega]
      have HP := hid (pv_set (2 * k) j)
      have HC := hid (pv_get (2 * k) j j hlt)
      generalize stps k (2 ^ j) = x at *
      go_wp2_with (first | (refine wpList_load_row rfl 39 _ rfl w.heap.size rfl 39 (mv k) (0, 0) _ a0 under39 rfl hi.out ?_) | (go_at_call 23; refine (of_ k x _ hx).mono ?_; rintro e w2 ⟨rfl, hb⟩; rw [HX.out]; have hcc := ((a2.kept hb).cell j).trans HC.out; have hf := (a2.kept hb).fz j; have S := b0.size))
      go_roundw
      case rel => exact ⟨j + 1, by omega, by go_num, (a0.kept hb).other (by omega) _ _, (a1.kept hb).other (by omega) _ _, by rw [← HP.out]; exact (a2.kept hb).set j _, (bel_bel b0 S hb).setCell (by show _ ≤ w.heap.size + 1 + 1; omega) _⟩
      case measure => simp [intOf]; omega
    · obtain rfl : j = 32 := by omega
      rw [pv_all] at a2
      have hold : Hid ((pv (2 * k) 0).size = (mv (2 * k)).size) := by show _ = _; rw [pv_size, mv_size]
      have hone := hid (mv_one (2 * k))
      have hst := hid (a1.row (mv (2 * k)))
      go_wp2_with (first | (refine wpList_load_row rfl 39 _ rfl (w.heap.size + 1 + 1) rfl 39 (mv (2 * k)) (0, 0) _ a2 under39 rfl hi2.out ?_) | (refine wpList_store_row rfl 39 _ _ rfl (w.heap.size + 1) (mv (2 * k)) rfl rfl 39 (pv (2 * k) 0) a1 hi2.out hold.out hone.out ?_))
      refine bodyPost_ret (v := .agg (mv (2 * k))) ?_ rfl ⟨rfl, bel_row b0 (by omega) _⟩
      exact results_cell_row rfl _ _ (w.heap.size + 1) 39 (mv (2 * k)) (0, 0) _ rfl hst.out under39 rfl hi2.out
end Go.Proofs.YtfgnllfgccbolaaDoor
