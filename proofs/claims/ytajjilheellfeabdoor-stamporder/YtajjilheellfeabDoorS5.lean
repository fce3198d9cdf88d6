import Derived.Test.YtajjilheellfeabDoorS4
import Derived.Laws.Concat
namespace Go.Proofs.YtajjilheellfeabDoor
open Go.RowKit
set_option linter.unusedVariables false

theorem sb_append (a b : List Nat) : sb a ++ sb b = sb (a ++ b) := by
  apply ByteArray.ext
  simp [sb]
theorem sb_size (a : List Nat) : (sb a).size = a.length := by
  show (sb a).data.size = _
  simp [sb]
theorem sb_point : (⟨#[46]⟩ : ByteArray) = sb [46] := rfl
theorem dgs_length (n least : Nat) (hn : n ≤ 9223372036854775807) (hl : least ≤ 20) : (dgs n least).length ≤ 20 := by
  unfold dgs
  rw [dl_length]
  have := (cnt_lt 19 n).2 (by have : (10 : Nat) ^ 19 = 10000000000000000000 := by decide
                              omega)
  unfold dn
  rw [Nat.max_def]
  split <;> omega
end Go.Proofs.YtajjilheellfeabDoor
