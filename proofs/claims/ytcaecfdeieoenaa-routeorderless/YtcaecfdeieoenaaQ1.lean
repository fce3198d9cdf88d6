import Derived.Test.YtcaecfdeieoenaaP6
namespace Go.Proofs.Ytcaecfdeieoenaa
open Go.RowKit
set_option linter.unusedVariables false

/-! The landed package: a number without its lowest bits. -/
def cl (x : Int) (k : Nat) : Int := x / 2 ^ k * 2 ^ k
theorem cl_zero (x : Int) : cl x 0 = x := by unfold cl; rw [Int.pow_zero, Int.ediv_one, Int.mul_one]
theorem cl_le {x : Int} (h : 0 ≤ x) (k : Nat) : 0 ≤ cl x k ∧ cl x k ≤ x := by
  have hp := pow_pos2 k
  unfold cl
  refine ⟨Int.mul_nonneg (Int.ediv_nonneg h (by omega)) (by omega), Int.ediv_mul_le x (by omega)⟩
theorem cl_in {x : Int} (h : InU x) (k : Nat) : InU (cl x k) := by
  have := cl_le h.1 k
  exact ⟨this.1, Int.le_trans this.2 h.2⟩
theorem pow_le2 {a b : Nat} (h : a ≤ b) : (2 : Int) ^ a ≤ 2 ^ b := by
  obtain ⟨m, rfl⟩ : ∃ m, b = a + m := ⟨b - a, by omega⟩
  rw [Int.pow_add]
  have h1 := pow_pos2 a
  have h2 := pow_pos2 m
  have : 2 ^ a * 1 ≤ (2 : Int) ^ a * 2 ^ m := Int.mul_le_mul_of_nonneg_left (by omega) (by omega)
  omega
theorem cl_big {x : Int} (h : InU x) {k : Nat} (hk : 64 ≤ k) : cl x k = 0 := by
  have h1 := pow_le2 hk
  have : (2 : Int) ^ 64 = 18446744073709551616 := by decide
  unfold cl
  rw [Int.ediv_eq_zero_of_lt h.1 (by have := h.2; omega), Int.zero_mul]
theorem cl_ad {H L : Int} (hH : InU H) (hL : InU L) (k : Nat) (hk : k ≤ 128) : ad (cl H (k - 64)) (cl L k) = cl (ad H L) k := by
  by_cases h : k ≤ 64
  · obtain ⟨m, hm⟩ : ∃ m, 64 = k + m := ⟨64 - k, by omega⟩
    rw [show k - 64 = 0 from by omega, cl_zero]
    unfold ad cl
    have e0 : (18446744073709551616 : Int) = 2 ^ k * 2 ^ m := by rw [← Int.pow_add, ← hm]; decide
    have e1 : H * 18446744073709551616 = 2 ^ k * (H * 2 ^ m) := by rw [e0, Int.mul_left_comm]
    rw [e1, Int.add_comm (2 ^ k * (H * 2 ^ m)) L, Int.add_mul_ediv_left _ _ (by have := pow_pos2 k; omega), Int.add_mul, Int.mul_comm (H * 2 ^ m) (2 ^ k)]
    omega
  · obtain ⟨m, rfl⟩ : ∃ m, k = 64 + m := ⟨k - 64, by omega⟩
    rw [cl_big hL (by omega), Nat.add_sub_cancel_left]
    unfold ad cl
    have e : (H * 18446744073709551616 + L) / 2 ^ (64 + m) = H / 2 ^ m := by
      rw [Int.pow_add, ← Int.ediv_ediv_of_nonneg (by decide)]
      have h1 : (H * 18446744073709551616 + L) / 2 ^ 64 = H := by
        unfold InU at hL
        have : (2 : Int) ^ 64 = 18446744073709551616 := by decide
        rw [this]
        omega
      rw [h1]
    rw [e, Int.pow_add, show (2 : Int) ^ 64 = 18446744073709551616 from by decide, Int.add_zero, ← Int.mul_assoc, Int.mul_right_comm]
theorem ad_inj {H L H' L' : Int} (hL : InU L) (hL' : InU L') (h : ad H L = ad H' L') : H = H' ∧ L = L' := by
  unfold ad InU at *
  omega
theorem cl_same {A : Int} (k : Nat) : cl A k = A ↔ A % 2 ^ k = 0 := by
  have := Int.mul_ediv_add_emod A (2 ^ k)
  unfold cl
  rw [Int.mul_comm] at this
  omega
theorem cl_eq {A A' : Int} (k : Nat) (h : A % 2 ^ k = 0) : cl A' k = A ↔ A / 2 ^ k = A' / 2 ^ k := by
  have h1 := (cl_same k).2 h
  have hp := pow_pos2 k
  constructor
  · intro e
    unfold cl at e
    rw [← e, Int.mul_ediv_cancel _ (by omega)]
  · intro e
    rw [← h1]
    unfold cl
    rw [e]
/-- An address's first bits. -/
def bh (F B : Int) : Int := (if F = 4 then 32 else 128) - B
def bH (F H B : Int) : Int := cl H (bh F B - 64).toNat
def bL (F L B : Int) : Int := cl L (bh F B).toNat
theorem nb_va {F H L : Int} (h : va F H L = true) : (nb F : Int) = if F = 4 then 32 else 128 := by
  have hF := of_decide_eq_true (show decide _ = true from h)
  unfold nb
  rcases hF with rfl | ⟨rfl, _⟩
  · rfl
  · rfl
theorem bh_nat {F H L B : Int} (h : va F H L = true) (hB : 0 ≤ B ∧ B ≤ nb F) : (bh F B).toNat = nb F - B.toNat ∧ (bh F B - 64).toNat = nb F - B.toNat - 64 ∧ nb F - B.toNat ≤ 128 := by
  have h1 := nb_va h
  have h2 := nb_le F
  unfold bh
  rw [← h1]
  omega
theorem vp_begin {F H L B : Int} (h : va F H L = true) (hH : InU H) (hL : InU L) (hB : 0 ≤ B ∧ B ≤ nb F) : vp F H L B = decide (bH F H B = H ∧ bL F L B = L) := by
  obtain ⟨e1, e2, hk⟩ := bh_nat h hB
  have hc := cl_ad hH hL _ hk
  have hs := cl_same (A := ad H L) (nb F - B.toNat)
  unfold vp bH bL
  rw [h, Bool.true_and, e1, e2]
  refine decide_eq_decide.2 ⟨fun h => ?_, fun h => ⟨hB.1, hB.2, ?_⟩⟩
  · rw [hs.2 h.2.2] at hc
    exact ad_inj (cl_in hL _) hL hc
  · rw [h.1, h.2] at hc
    exact hs.1 hc.symm
theorem ho_begin {F H L B F' H' L' : Int} (h : vp F H L B = true) (h' : va F' H' L' = true) (hH : InU H) (hL : InU L) (hH' : InU H') (hL' : InU L') : ho F H L B F' H' L' = decide (F' = F ∧ bH F' H' B = H ∧ bL F' L' B = L) := by
  obtain ⟨hv, hB0, hB1, hm⟩ := vp_in h
  unfold ho
  rw [h, h', Bool.true_and, Bool.true_and]
  by_cases e : F' = F
  · subst e
    obtain ⟨e1, e2, hk⟩ := bh_nat h' ⟨hB0, hB1⟩
    have hc := cl_ad hH' hL' _ hk
    have hs := cl_eq (A' := ad H' L') _ hm
    unfold bH bL
    rw [e1, e2]
    refine decide_eq_decide.2 ⟨fun h => ⟨rfl, ?_⟩, fun h => ⟨rfl, ?_⟩⟩
    · rw [hs.2 h.2] at hc
      exact ad_inj (cl_in hL' _) hL hc
    · rw [h.2.1, h.2.2] at hc
      exact hs.1 hc.symm
  · rw [decide_eq_false (fun h => e h.1.symm), decide_eq_false (fun h => e h.1)]
end Go.Proofs.Ytcaecfdeieoenaa
