import Derived.WalkKit
import Derived.WalkSmall
namespace Go.Proofs.YtfmdnfbcfhojpaaDoor
set_option maxRecDepth 100000
open Go.RowKit

/-- Go's remainder, brought up from below 0. -/
theorem place (x M : Int) (h0 : 0 < M) (hM : M ≤ 4611686018427387904) : ∃ k : Nat, (k : Int) < M ∧ (wrap64 (x.tmod M + M)).tmod M = k := by
  have h1 := Int.tmod_lt_of_pos x h0
  have h2 := Int.lt_tmod_of_pos x h0
  generalize x.tmod M = r at *
  have e : wrap64 (r + M) = r + M := by
    unfold wrap64
    omega
  rw [e, Int.tmod_eq_emod_of_nonneg (by omega)]
  have h3 := Int.emod_nonneg (r + M) (show M ≠ 0 by omega)
  have h4 := Int.emod_lt_of_pos (r + M) h0
  exact ⟨((r + M) % M).toNat, by omega, by omega⟩
end Go.Proofs.YtfmdnfbcfhojpaaDoor
