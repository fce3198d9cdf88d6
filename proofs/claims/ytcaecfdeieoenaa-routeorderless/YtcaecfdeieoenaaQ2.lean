import Derived.Test.YtcaecfdeieoenaaQ1
import Derived.Laws.StructEq
namespace Go.Proofs.Ytcaecfdeieoenaa
open Go.RowKit
set_option linter.unusedVariables false

theorem eqa (F H L F' H' L' : Int) (w : World) : (Op.equalIn 9999 30 (.agg #[.int .i64 F, .int .u64 H, .int .u64 L]) (.agg #[.int .i64 F', .int .u64 H', .int .u64 L'])).run Try.prog w = .ok (sa F H L F' H' L') w := by
  rw [show (9999 : Nat) = 9998 + 1 from rfl, run_equalIn_agg w 9998 30 _ _ (by kernel_rfl) (by kernel_rfl)]
  simp only [Program.fieldsOf, Try.underlying30]
  go_simp
  unfold sa
  by_cases h1 : F = F' <;> by_cases h2 : H = H' <;> by_cases h3 : L = L' <;> simp [h1, h2, h3]
theorem eqp (F H L B F' H' L' B' : Int) (w : World) : (binOp .eql 32 (.agg #[.int .i64 F, .int .u64 H, .int .u64 L, .int .i64 B]) (.agg #[.int .i64 F', .int .u64 H', .int .u64 L', .int .i64 B'])).run Try.prog w = .ok (.bool (spx F H L B F' H' L' B')) w := by
  have ea := fun w => eqa F H L F' H' L' w
  have HS : spx F H L B F' H' L' B' = (sa F H L F' H' L' && (B == B')) := by unfold spx sa; rw [Bool.decide_and, Bool.beq_eq_decide_eq]
  rw [run_eql_struct, show (10000 : Nat) = 9999 + 1 from rfl, run_equalIn_agg w 9999 32 _ _ (by kernel_rfl) (by kernel_rfl), HS]
  simp only [Program.fieldsOf, Try.underlying32]
  clear HS
  generalize sa F H L F' H' L' = q at *
  cases q
  · go_simp
  · go_simp
    by_cases h : B = B' <;> simp [h]
set_option maxHeartbeats 400000 in
theorem validAddr_ (F H L : Int) (w : World) (hF : InI F) (hH : InU H) (hL : InU L) :
    Calls Try.prog 35 #[.agg #[.int .i64 F, .int .u64 H, .int .u64 L]] w fun e w' => e = .returned (.bool (va F H L)) ∧ Below w.heap.size w w' := by
  have B0 := anew w F H L
  unfold InU at hL hH
  by_cases h4 : F = 4
  · subst h4
    go_enter Try.func35, Try.ntmps35
    go_wp2_with fail
    all_goals
      go_ret
      refine ⟨ret_bool ?_, anew w _ _ _⟩
      unfold va
      first
        | (rw [Bool.beq_eq_decide_eq]; refine decide_eq_decide.2 ?_; simp_all; omega)
        | (refine (decide_eq_false ?_).symm; simp_all; done)
        | (refine (decide_eq_false ?_).symm; simp_all; omega)
  · have e4 : (F == 4) = false := by simpa using h4
    by_cases h6 : F = 6
    · subst h6
      go_enter Try.func35, Try.ntmps35
      go_wp2_with fail
      go_ret
      exact ⟨ret_bool (decide_eq_true (.inl rfl)).symm, B0⟩
    · have e6 : (F == 6) = false := by simpa using h6
      go_enter Try.func35, Try.ntmps35
      go_wp2_with fail
      go_ret
      exact ⟨ret_bool (decide_eq_false (by omega)).symm, B0⟩
set_option maxHeartbeats 400000 in
theorem width_ (F : Int) (w : World) : Calls Try.prog 55 #[.int .i64 F] w fun e w' => e = .returned (.int .i64 (if F = 4 then 32 else 128)) ∧ w' = w := by
  by_cases h4 : F = 4
  · subst h4
    go_enter Try.func55, Try.ntmps55
    go_wp2_with fail
    go_ret
    exact ⟨rfl, rfl⟩
  · have e4 : (F == 4) = false := by simpa using h4
    rw [if_neg h4]
    go_enter Try.func55, Try.ntmps55
    go_wp2_with fail
    go_ret
    exact ⟨rfl, rfl⟩
set_option maxHeartbeats 400000 in
theorem clearLow_ (x n : Int) (w : World) (hx : InU x) (hn : -1000 ≤ n ∧ n ≤ 1000) : Calls Try.prog 73 #[.int .u64 x, .int .i64 n] w fun e w' => e = .returned (.int .u64 (cl x n.toNat)) ∧ w' = w := by
  have hI := hid (cl_in hx n.toNat)
  have HB := hid (fun h => cl_big (k := n.toNat) hx h)
  have HD : Hid (x / 2 ^ n.toNat * 2 ^ n.toNat = cl x n.toNat) := rfl
  unfold InU at hx
  by_cases h0 : n < 0
  · have e : n.toNat = 0 := by omega
    have hm : max n 0 = 0 := by omega
    rw [e, cl_zero]
    go_enter Try.func73, Try.ntmps73
    go_wp2_with fail
    all_goals
      go_ret
      exact ⟨rfl, rfl⟩
  · obtain ⟨k, rfl⟩ : ∃ k : Nat, n = k := ⟨n.toNat, by omega⟩
    rw [Int.toNat_natCast] at *
    have hm : max (k : Int) 0 = (k : Int) := by omega
    have hI2 := hI.out
    unfold InU at hI2
    by_cases h64 : k < 64
    · have hd := HD.out
      go_enter Try.func73, Try.ntmps73
      go_wp2_with fail
      all_goals
        go_ret
        exact ⟨rfl, rfl⟩
    · have hb := HB.out (by omega)
      rw [hb]
      go_enter Try.func73, Try.ntmps73
      go_wp2_with fail
      all_goals
        go_ret
        refine ⟨?_, rfl⟩
        show Ending.returned (.int .u64 (IntKind.u64.wrap (x / 2 ^ min k 64 * 2 ^ min k 64))) = _
        rw [show min k 64 = 64 from by omega, Int.ediv_eq_zero_of_lt hx.1 (show x < 2 ^ 64 from Int.lt_of_le_of_lt hx.2 (by decide)), Int.zero_mul]
        rfl
end Go.Proofs.Ytcaecfdeieoenaa
