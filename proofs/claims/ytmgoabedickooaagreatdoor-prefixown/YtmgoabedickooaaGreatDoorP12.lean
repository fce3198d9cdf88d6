import Derived.Test.YtmgoabedickooaaGreatDoorP11
namespace Go.Proofs.YtmgoabedickooaaGreatDoor
set_option maxRecDepth 100000
open Go.RowKit
set_option linter.unusedVariables false

/-! Digits and numbers of a text. -/
def dg (x : Nat) : Int := if 48 ≤ x ∧ x ≤ 57 then (x : Int) - 48 else if 97 ≤ x ∧ x ≤ 102 then (x : Int) - 87 else -1
theorem dg_in (x : Nat) : -1 ≤ dg x ∧ dg x ≤ 15 := by
  unfold dg
  split
  · omega
  · split <;> omega
/-- The number that digits say behind n, to the base b. -/
def nr (b : Nat) (n : Nat) : List Nat → Option Nat
  | [] => some n
  | x :: l => if 0 ≤ dg x ∧ dg x < b then nr b (n * b + (dg x).toNat) l else none
def nm (b : Nat) (l : List Nat) : Int :=
  if l.length = 0 ∨ 4 < l.length then -1 else match nr b 0 l with
  | some n => (n : Int)
  | none => -1
theorem nr_append (b : Nat) (l m : List Nat) : ∀ n, nr b n (l ++ m) = match nr b n l with
    | some k => nr b k m
    | none => none := by
  induction l with
  | nil => intro n; rfl
  | cons x l ih =>
    intro n
    simp only [List.cons_append, nr]
    split
    · exact ih _
    · rfl
theorem take_snoc7 (l : List Nat) (j : Nat) (h : j < l.length) : l.take (j + 1) = l.take j ++ [l.getD j 0] := by
  rw [List.take_succ_eq_append_getElem h]
  simp [List.getD, h]
theorem nr_take (b : Nat) (l : List Nat) (j n m : Nat) (hj : j < l.length) (h : nr b n (l.take j) = some m) (h0 : 0 ≤ dg (l.getD j 0) ∧ dg (l.getD j 0) < b) : nr b n (l.take (j + 1)) = some (m * b + (dg (l.getD j 0)).toNat) := by
  rw [take_snoc7 l j hj, nr_append, h]
  show nr b m [l.getD j 0] = _
  unfold nr
  rw [if_pos h0]
  rfl
theorem nr_stop (b : Nat) (l : List Nat) (j n m : Nat) (hj : j < l.length) (h : nr b n (l.take j) = some m) (h0 : ¬ (0 ≤ dg (l.getD j 0) ∧ dg (l.getD j 0) < b)) : nr b n l = none := by
  have e : l = l.take j ++ (l.getD j 0 :: l.drop (j + 1)) := by
    have : l.drop j = l.getD j 0 :: l.drop (j + 1) := by
      rw [List.drop_eq_getElem_cons hj]
      simp [List.getD, hj]
    rw [← this, List.take_append_drop]
  rw [e, nr_append, h]
  show nr b m (_ :: _) = none
  unfold nr
  rw [if_neg h0]
theorem nr_lt (b : Nat) (l : List Nat) : ∀ n m k, n < b ^ k → nr b n l = some m → m < b ^ (k + l.length) := by
  induction l with
  | nil =>
    intro n m k hn h
    injection h with h
    subst h
    exact hn
  | cons x l ih =>
    intro n m k hn h
    unfold nr at h
    split at h
    · rename_i h0
      have := ih _ _ (k + 1) (by
        rw [Nat.pow_succ]
        have h1 : (dg x).toNat < b := by omega
        have h2 : (n + 1) * b ≤ b ^ k * b := Nat.mul_le_mul_right b hn
        rw [Nat.add_mul] at h2
        omega) h
      rw [List.length_cons]
      rw [show k + (l.length + 1) = k + 1 + l.length by omega]
      exact this
    · cases h
end Go.Proofs.YtmgoabedickooaaGreatDoor
