import Derived.Test.YtcaecfdeieoenaaP4
namespace Go.Proofs.Ytcaecfdeieoenaa
open Go.RowKit
set_option linter.unusedVariables false

/-- Are the two one? -/
def sa (F H L F' H' L' : Int) : Bool := decide (F = F' ∧ H = H' ∧ L = L')
def spx (F H L B F' H' L' B' : Int) : Bool := decide ((F = F' ∧ H = H' ∧ L = L') ∧ B = B')
theorem aanew (w : World) (F H L F' H' L' : Int) : Below w.heap.size w ((w.alloc (.cells #[.int .i64 F, .int .u64 H, .int .u64 L] 30)).alloc (.cells #[.int .i64 F', .int .u64 H', .int .u64 L'] 30)) := (anew w F H L).alloc (by simp) _
set_option maxHeartbeats 400000 in
theorem sameAddr_ (F H L F' H' L' : Int) (w : World) :
    Calls Try.prog 39 #[.agg #[.int .i64 F, .int .u64 H, .int .u64 L], .agg #[.int .i64 F', .int .u64 H', .int .u64 L']] w fun e w' => e = .returned (.bool (sa F H L F' H' L')) ∧ Below w.heap.size w w' := by
  go_enter Try.func39, Try.ntmps39
  go_wp2_with fail
  all_goals
    go_ret
    refine ⟨ret_bool ?_, aanew w _ _ _ _ _ _⟩
    unfold sa
    first
      | exact (decide_eq_true (by simp_all)).symm
      | exact (decide_eq_false (by simp_all)).symm
      | exact decide_eq_decide.2 (by simp_all)
      | (rw [Bool.beq_eq_decide_eq]; exact decide_eq_decide.2 (by simp_all))
set_option maxHeartbeats 400000 in
theorem samePrefix_ (F H L B F' H' L' B' : Int) (w : World) :
    Calls Try.prog 16 #[.agg #[.int .i64 F, .int .u64 H, .int .u64 L, .int .i64 B], .agg #[.int .i64 F', .int .u64 H', .int .u64 L', .int .i64 B']] w fun e w' => e = .returned (.bool (spx F H L B F' H' L' B')) ∧ Below w.heap.size w w' := by
  obtain ⟨B0, m0, m1⟩ := ppnew w F H L B F' H' L' B'
  have k1 := fun w => sameAddr_ F H L F' H' L' w
  have HS : Hid (spx F H L B F' H' L' B' = (sa F H L F' H' L' && decide (B = B'))) := by
    show _ = _
    unfold spx sa
    rw [Bool.decide_and]
  go_enter Try.func16, Try.ntmps16
  go_wp2_with fail
  refine (k1 _).mono ?_
  rintro e w1 ⟨rfl, g2⟩
  replace m0 := m0.kept g2
  replace m1 := m1.kept g2
  replace B0 := bel_bel B0 B0.size g2
  clear g2 k1
  have c3 := m0.c3
  have d3 := m1.c3
  cases hs : sa F H L F' H' L' with
  | false =>
    go_wp2_with fail
    go_ret
    exact ⟨ret_bool (by rw [HS.out, hs]; rfl), B0⟩
  | true =>
    have HSS := hid hs
    clear hs
    go_wp2_with fail
    go_ret
    exact ⟨ret_bool (by rw [HS.out, HSS.out, Bool.true_and, Bool.beq_eq_decide_eq]), B0⟩
end Go.Proofs.Ytcaecfdeieoenaa
