import Derived.Test.YtejokaehdfcjlaaGreatDoorU4
namespace Go.Proofs.YtejokaehdfcjlaaGreatDoor
set_option maxRecDepth 100000
open Go.RowKit
set_option linter.unusedVariables false

theorem may_bounds {zs : List Int} (hl : zs.length = 512) (h : May (rs zs)) : val (sl zs 4 8) ≤ 4611686018427387904 ∧ val (sl zs 12 8) ≤ 4611686018427387904 ∧ us zs ≤ 480 := by
  refine ⟨h.2.1.2, h.2.2.1.2, ?_⟩
  have := h.2.2.2.2
  unfold rs at this
  simp only [sl, List.length_take, List.length_drop] at this
  omega
theorem sameB_eq {xs ys : List Int} : sameB xs ys = true ↔ xs = ys := by unfold sameB; exact decide_eq_true_iff
end Go.Proofs.YtejokaehdfcjlaaGreatDoor
