import Derived.Test.YtknjokmoommdeabDoorP4
namespace Go.Proofs.YtknjokmoommdeabDoor
open Go.RowKit
set_option linter.unusedVariables false

theorem mod_two_step (A : Int) (m k : Nat) : A / 2 ^ m % 2 ^ (k + 1) = 2 * (A / 2 ^ (m + 1) % 2 ^ k) + A / 2 ^ m % 2 := by
  have e : A / 2 ^ (m + 1) = A / 2 ^ m / 2 := by rw [Int.pow_succ, Int.ediv_ediv_of_nonneg (Int.le_of_lt (pow_pos2 m))]
  rw [e]
  generalize A / 2 ^ m = y
  have hp := pow_pos2 k
  have h1 := Int.mul_ediv_add_emod y 2
  have h2 := Int.mul_ediv_add_emod (y / 2) (2 ^ k)
  have r0 := Int.emod_nonneg (y / 2) (show (2 : Int) ^ k ≠ 0 by omega)
  have r1 := Int.emod_lt_of_pos (y / 2) hp
  rw [Int.pow_succ]
  generalize (2 : Int) ^ k = p at *
  generalize y / 2 / p = u at *
  generalize y / 2 % p = v at *
  have e2 : y = (2 * v + y % 2) + (p * 2) * u := by
    have : p * 2 * u = 2 * (p * u) := by rw [Int.mul_comm p 2, Int.mul_assoc]
    omega
  have b : 0 ≤ 2 * v + y % 2 ∧ 2 * v + y % 2 < p * 2 := by omega
  conv => lhs; rw [e2]
  rw [Int.add_mul_emod_self_left, Int.emod_eq_of_lt b.1 b.2]
theorem be_at {n q : Nat} (A : Int) (hn : n = 32 ∨ n = 128) (hq : q < n / 8) : (be (n / 8) A).getD q 0 = A / 2 ^ (n - 8 * q - 8) % 2 ^ 8 := by
  have e : ∀ (k : Nat) (x : Int) (j : Nat), j < k → (be k x).getD j 0 = x / 256 ^ (k - 1 - j) % 256 := by
    intro k
    induction k with
    | zero => intro x j h; omega
    | succ k ih =>
      intro x j hj
      rw [be]
      cases j with
      | zero => simp
      | succ j => rw [List.getD_cons_succ, ih x j (by omega), show k + 1 - 1 - (j + 1) = k - 1 - j from by omega]
  rw [e _ _ _ hq]
  have : (256 : Int) ^ (n / 8 - 1 - q) = 2 ^ (n - 8 * q - 8) := by
    rw [show (256 : Int) = 2 ^ 8 from rfl, ← Int.pow_mul, show 8 * (n / 8 - 1 - q) = n - 8 * q - 8 from by omega]
  rw [this]
  rfl
theorem Am.at' {w w' : World} {g : Nat} {F H L : Int} (h : Am w g F H L) (e : w'.heap[g]? = w.heap[g]?) : Am w' g F H L := h.at e
theorem own_le7 {w : World} {B B' e s n : Nat} {v : Value} {xs : List Value} (h : w.ownsRow B e s v n xs) (hB : B' ≤ B) : w.ownsRow B' e s v n xs := by
  obtain ⟨h1, h2⟩ := h
  refine ⟨h1, ?_⟩
  rcases h2 with h2 | ⟨g, cap, cur, e1, hb, r⟩
  · exact .inl h2
  · exact .inr ⟨g, cap, cur, e1, Nat.le_trans hB hb, r⟩
theorem own_bel7 {w w' : World} {B e s n : Nat} {v : Value} {xs : List Value} (h : w.ownsRow B e s v n xs) (hb : Below w.heap.size w w') : w'.ownsRow B e s v n xs := by
  obtain ⟨h1, h2⟩ := h
  refine ⟨h1, ?_⟩
  rcases h2 with h2 | ⟨g, cap, cur, e1, hB, hg, r⟩
  · exact .inl h2
  · exact .inr ⟨g, cap, cur, e1, hB, by rw [hb.block g (Array.getElem?_eq_some_iff.1 hg).1]; exact hg, r⟩
end Go.Proofs.YtknjokmoommdeabDoor
