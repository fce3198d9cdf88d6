import Derived.Test.YtghehfhkiknjhaaBBe
import Derived.Below
namespace Go.Proofs.Ytghehfhkiknjhaa
set_option maxRecDepth 100000
open Go.RowKit

/-- The number whose lowest k bytes are all ones. -/
def ones (k : Nat) : Int := 256 ^ k - 1
theorem ones_zero : ones 0 = 0 := rfl
theorem ones_pos (k : Nat) : 0 < ones (k + 1) := by
  unfold ones
  have h : (0 : Int) < 256 ^ k := Int.pow_pos (by omega)
  rw [Int.pow_succ]; omega
theorem ones_ne (k : Nat) : (ones (k + 1) != 0) = true := by have := ones_pos k; rw [bne_iff_ne]; omega
theorem ones_no : (ones 0 != 0) = false := by rw [ones_zero]; rfl
theorem ones_shift (k : Nat) : ones (k + 1) / 256 = ones k := by
  unfold ones
  rw [Int.pow_succ]; omega

end Go.Proofs.Ytghehfhkiknjhaa
