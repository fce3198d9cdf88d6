import Derived.Test.YtknjokmoommdeabDoorP1
namespace Go.Proofs.YtknjokmoommdeabDoor
open Go.RowKit
set_option linter.unusedVariables false

theorem va_out {F H L : Int} (h : va F H L = false) (B : Int) : vp F H L B = false := by unfold vp; rw [h]; rfl
theorem vp_iff {F H L B : Int} (h : va F H L = true) (hH : InU H) (hL : InU L) (b : Nat) (hb : B = b) (hn : b ≤ nb F) : vp F H L B = true ↔ ∀ i, b ≤ i → i < nb F → bt (nb F) (ad H L) i = false := by
  rw [tail_zero (nb F) (ad H L) _ b rfl hn]
  unfold vp
  rw [h, Bool.true_and, decide_eq_true_iff, hb, Int.toNat_natCast]
  constructor
  · exact fun h => h.2.2
  · exact fun h => ⟨by omega, by omega, h⟩
end Go.Proofs.YtknjokmoommdeabDoor
