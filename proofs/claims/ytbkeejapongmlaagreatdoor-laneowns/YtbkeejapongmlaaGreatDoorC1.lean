import Derived.Test.YtbkeejapongmlaaGreatDoorS1
namespace Go.Proofs.YtbkeejapongmlaaGreatDoor
set_option maxRecDepth 100000
open Go.RowKit
set_option linter.unusedVariables false

/-- The numbers of an int. -/
def InIC (x : Int) : Prop := -9223372036854775808 ≤ x ∧ x ≤ 9223372036854775807
def wti (x m : Int) : Bool := decide (0 ≤ x ∧ x ≤ m)
theorem within_ (x m : Int) (w : World) :
    Calls Tryz.prog 43 #[.int .i64 x, .int .i64 m] w fun e w' => e = .returned (.bool (wti x m)) ∧ w' = w := by
  go_enter Tryz.func43, Tryz.ntmps43
  go_wp2_with fail
  all_goals
    go_ret
    refine ⟨ret_bool ?_, rfl⟩
    unfold wti
    first
      | exact (decide_eq_true (by omega)).symm
      | exact (decide_eq_false (by omega)).symm
      | exact decide_eq_decide.2 (by omega)
set_option maxHeartbeats 400000 in
theorem svalid_ (s n : Int) (w : World) (hs : InIC s) (hn : InIC n) :
    Calls Tryz.prog 29 #[.agg #[.int .i64 s, .int .i64 n]] w fun e w' => e = .returned (.bool (vld s n)) ∧ Below w.heap.size w w' := by
  have B0 := snew1 w s n
  have HV : Hid (vld s n = (wti s 9223372036854775807 && wti n 999999999)) := by
    show _ = _
    unfold vld wti InIC at *
    rw [← Bool.decide_and]
    exact decide_eq_decide.2 (by omega)
  go_enter Tryz.func29, Tryz.ntmps29
  go_wp2_with fail
  refine (within_ _ _ _).mono ?_
  rintro e w1 ⟨rfl, rfl⟩
  cases h1 : wti s 9223372036854775807 with
  | false =>
    go_wp2_with fail
    go_ret
    exact ⟨ret_bool (by rw [HV.out, h1]; rfl), B0⟩
  | true =>
    go_wp2_with fail
    refine (within_ _ _ _).mono ?_
    rintro e w1 ⟨rfl, rfl⟩
    go_wp2_with fail
    go_ret
    exact ⟨ret_bool (by rw [HV.out, h1]; rfl), B0⟩
end Go.Proofs.YtbkeejapongmlaaGreatDoor
