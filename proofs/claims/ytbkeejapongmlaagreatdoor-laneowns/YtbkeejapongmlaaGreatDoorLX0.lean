import Derived.Test.YtbkeejapongmlaaGreatDoorLB0
import Derived.Test.YtbkeejapongmlaaGreatDoorC1
namespace Go.Proofs.YtbkeejapongmlaaGreatDoor
set_option maxRecDepth 100000
open Go.RowKit
set_option linter.unusedVariables false

/-! The landed lane's small functions. -/
def wtn (x l h : Int) : Bool := decide (l ≤ x ∧ x ≤ h)
theorem lwithin_ (x l h : Int) (w : World) :
    Calls Tryz.prog 28 #[.int .i64 x, .int .i64 l, .int .i64 h] w fun e w' => e = .returned (.bool (wtn x l h)) ∧ w' = w := by
  go_enter Tryz.func28, Tryz.ntmps28
  go_wp2_with fail
  all_goals
    go_ret
    refine ⟨ret_bool ?_, rfl⟩
    unfold wtn
    first
      | exact (decide_eq_true (by omega)).symm
      | exact (decide_eq_false (by omega)).symm
      | exact decide_eq_decide.2 (by omega)
theorem lisBlock_ (b : Int) (w : World) : Calls Tryz.prog 27 #[.int .i64 b] w fun e w' => e = .returned (.bool (blk b)) ∧ w' = w := by
  obtain ⟨q, hq⟩ : ∃ q, blk b = q := ⟨_, rfl⟩
  have kw : Calls Tryz.prog 28 #[.int .i64 b, .int .i64 1, .int .i64 1048576] w fun e w' => e = .returned (.bool (blk b)) ∧ w' = w := lwithin_ b 1 1048576 w
  rw [hq] at kw
  rw [hq]
  clear hq
  go_enter Tryz.func27, Tryz.ntmps27
  go_wp2_with fail
  refine kw.mono ?_
  rintro e w1 ⟨rfl, rfl⟩
  go_wp2_with fail
  go_ret
  exact ⟨rfl, rfl⟩
set_option maxHeartbeats 400000 in
theorem sless_ (s n s' n' : Int) (w : World) (hs : InIC s) (hn : InIC n) (hs' : InIC s') (hn' : InIC n') :
    Calls Tryz.prog 30 #[.agg #[.int .i64 s, .int .i64 n], .agg #[.int .i64 s', .int .i64 n']] w fun e w' => e = .returned (.bool (lss s n s' n')) ∧ Below w.heap.size w w' := by
  go_enter Tryz.func30, Tryz.ntmps30
  go_wp2_with fail
  all_goals
    go_ret
    refine ⟨ret_bool ?_, snew2 w _ _ _ _⟩
    unfold lss
    first
      | exact (decide_eq_true (by omega)).symm
      | exact (decide_eq_false (by omega)).symm
      | exact decide_eq_decide.2 (by omega)
      | (simp_all <;> omega)
theorem lup_ (c b : Int) (w : World) (hc : u64r c) (hb : i64r b) : Calls Tryz.prog 20 #[.int .u64 c, .int .i64 b] w fun e w' => e = .returned (.int .u64 (upN c b)) ∧ w' = w := by
  unfold u64r at hc
  have kb := lisBlock_ b w
  obtain ⟨q, hq⟩ : ∃ q, blk b = q := ⟨_, rfl⟩
  rw [hq] at kb
  go_enter Tryz.func20, Tryz.ntmps20
  go_wp2_with fail
  refine kb.mono ?_
  rintro e w1 ⟨rfl, rfl⟩
  clear kb
  cases q with
  | false =>
    have hr : upN c b = 0 := by unfold upN; rw [hq]; rfl
    go_wp2_with fail
    go_ret
    rw [hr]
    exact ⟨rfl, rfl⟩
  | true =>
    have hbb := of_decide_eq_true (show decide _ = true from hq)
    have hm : (18446744073709551615 - c) % 18446744073709551616 = 18446744073709551615 - c := by omega
    have hm2 : b % 18446744073709551616 = b := by omega
    by_cases h : 18446744073709551615 - b < c
    · have hr : upN c b = 18446744073709551615 := by unfold upN; rw [hq, if_pos rfl, if_pos h]
      have hl : 18446744073709551615 - c < b := by omega
      clear h
      go_wp2_with fail
      go_ret
      rw [hr]
      exact ⟨rfl, rfl⟩
    · have hr : upN c b = c + b := by unfold upN; rw [hq, if_pos rfl, if_neg h]
      have hl : ¬ 18446744073709551615 - c < b := by omega
      have hm3 : (c + b) % 18446744073709551616 = c + b := by omega
      clear h
      go_wp2_with fail
      go_ret
      rw [hr]
      exact ⟨by first | rfl | go_num, rfl⟩
end Go.Proofs.YtbkeejapongmlaaGreatDoor
