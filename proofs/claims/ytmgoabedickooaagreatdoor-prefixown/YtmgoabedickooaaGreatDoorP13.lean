import Derived.Test.YtmgoabedickooaaGreatDoorP12
namespace Go.Proofs.YtmgoabedickooaaGreatDoor
set_option maxRecDepth 100000
open Go.RowKit
set_option linter.unusedVariables false

theorem nm_in (b : Nat) (hb : b ≤ 16) (hb0 : 0 < b) (l : List Nat) : -1 ≤ nm b l ∧ nm b l ≤ 65535 := by
  unfold nm
  split
  · omega
  · rename_i h
    cases e : nr b 0 l with
    | none => simp
    | some n =>
      have h1 := nr_lt b l 0 n 0 (by simp) e
      have h2 : b ^ (0 + l.length) ≤ 16 ^ 4 := Nat.le_trans (Nat.pow_le_pow_left hb _) (Nat.pow_le_pow_right (by omega) (by omega))
      have : (16 : Nat) ^ 4 = 65536 := by decide
      show -1 ≤ (n : Int) ∧ (n : Int) ≤ 65535
      omega
end Go.Proofs.YtmgoabedickooaaGreatDoor
