import Derived.Test.YtcbmgpmjnehjdaaGreatP7
import Derived.Laws.StructEq
namespace Go.Proofs.YtcbmgpmjnehjdaaGreat
set_option maxRecDepth 100000
open Go.RowKit
set_option linter.unusedVariables false

/-! The landed package: a number without its lowest bits. -/
def cl (x : Int) (k : Nat) : Int := x / 2 ^ k * 2 ^ k
theorem cl_zero (x : Int) : cl x 0 = x := by unfold cl; rw [Int.pow_zero, Int.ediv_one, Int.mul_one]
theorem cl_le {x : Int} (h : 0 ≤ x) (k : Nat) : 0 ≤ cl x k ∧ cl x k ≤ x := by
  have hp := pow_pos2 k
  unfold cl
  refine ⟨Int.mul_nonneg (Int.ediv_nonneg h (by omega)) (by omega), Int.ediv_mul_le x (by omega)⟩
theorem cl_in {x : Int} (h : InU x) (k : Nat) : InU (cl x k) := by
  have := cl_le h.1 k
  exact ⟨this.1, Int.le_trans this.2 h.2⟩
theorem pow_le2 {a b : Nat} (h : a ≤ b) : (2 : Int) ^ a ≤ 2 ^ b := by
  obtain ⟨m, rfl⟩ : ∃ m, b = a + m := ⟨b - a, by omega⟩
  rw [Int.pow_add]
  have h1 := pow_pos2 a
  have h2 := pow_pos2 m
  have : 2 ^ a * 1 ≤ (2 : Int) ^ a * 2 ^ m := Int.mul_le_mul_of_nonneg_left (by omega) (by omega)
  omega
theorem cl_big {x : Int} (h : InU x) {k : Nat} (hk : 64 ≤ k) : cl x k = 0 := by
  have h1 := pow_le2 hk
  have : (2 : Int) ^ 64 = 18446744073709551616 := by decide
  unfold cl
  rw [Int.ediv_eq_zero_of_lt h.1 (by have := h.2; omega), Int.zero_mul]
theorem cl_ad {H L : Int} (hH : InU H) (hL : InU L) (k : Nat) (hk : k ≤ 128) : ad (cl H (k - 64)) (cl L k) = cl (ad H L) k := by
  by_cases h : k ≤ 64
  · obtain ⟨m, hm⟩ : ∃ m, 64 = k + m := ⟨64 - k, by omega⟩
    rw [show k - 64 = 0 from by omega, cl_zero]
    unfold ad cl
    have e0 : (18446744073709551616 : Int) = 2 ^ k * 2 ^ m := by rw [← Int.pow_add, ← hm]; decide
    have e1 : H * 18446744073709551616 = 2 ^ k * (H * 2 ^ m) := by rw [e0, Int.mul_left_comm]
    rw [e1, Int.add_comm (2 ^ k * (H * 2 ^ m)) L, Int.add_mul_ediv_left _ _ (by have := pow_pos2 k; omega), Int.add_mul, Int.mul_comm (H * 2 ^ m) (2 ^ k)]
    omega
  · obtain ⟨m, rfl⟩ : ∃ m, k = 64 + m := ⟨k - 64, by omega⟩
    rw [cl_big hL (by omega), Nat.add_sub_cancel_left]
    unfold ad cl
    have e : (H * 18446744073709551616 + L) / 2 ^ (64 + m) = H / 2 ^ m := by
      rw [Int.pow_add, ← Int.ediv_ediv_of_nonneg (by decide)]
      have h1 : (H * 18446744073709551616 + L) / 2 ^ 64 = H := by
        unfold InU at hL
        have : (2 : Int) ^ 64 = 18446744073709551616 := by decide
        rw [this]
        omega
      rw [h1]
    rw [e, Int.pow_add, show (2 : Int) ^ 64 = 18446744073709551616 from by decide, Int.add_zero, ← Int.mul_assoc, Int.mul_right_comm]
theorem ad_inj {H L H' L' : Int} (hL : InU L) (hL' : InU L') (h : ad H L = ad H' L') : H = H' ∧ L = L' := by
  unfold ad InU at *
  omega
theorem cl_same {A : Int} (k : Nat) : cl A k = A ↔ A % 2 ^ k = 0 := by
  have := Int.mul_ediv_add_emod A (2 ^ k)
  unfold cl
  rw [Int.mul_comm] at this
  omega
theorem cl_eq {A A' : Int} (k : Nat) (h : A % 2 ^ k = 0) : cl A' k = A ↔ A / 2 ^ k = A' / 2 ^ k := by
  have h1 := (cl_same k).2 h
  have hp := pow_pos2 k
  constructor
  · intro e
    unfold cl at e
    rw [← e, Int.mul_ediv_cancel _ (by omega)]
  · intro e
    rw [← h1]
    unfold cl
    rw [e]
/-- An address's first bits. -/
def bh (F B : Int) : Int := (if F = 4 then 32 else 128) - B
def bH (F H B : Int) : Int := cl H (bh F B - 64).toNat
def bL (F L B : Int) : Int := cl L (bh F B).toNat
theorem nb_va {F H L : Int} (h : va F H L = true) : (nb F : Int) = if F = 4 then 32 else 128 := by
  have hF := of_decide_eq_true (show decide _ = true from h)
  unfold nb
  rcases hF with rfl | ⟨rfl, _⟩
  · rfl
  · rfl
theorem bh_nat {F H L B : Int} (h : va F H L = true) (hB : 0 ≤ B ∧ B ≤ nb F) : (bh F B).toNat = nb F - B.toNat ∧ (bh F B - 64).toNat = nb F - B.toNat - 64 ∧ nb F - B.toNat ≤ 128 := by
  have h1 := nb_va h
  have h2 := nb_le F
  unfold bh
  rw [← h1]
  omega
theorem vp_begin {F H L B : Int} (h : va F H L = true) (hH : InU H) (hL : InU L) (hB : 0 ≤ B ∧ B ≤ nb F) : vp F H L B = decide (bH F H B = H ∧ bL F L B = L) := by
  obtain ⟨e1, e2, hk⟩ := bh_nat h hB
  have hc := cl_ad hH hL _ hk
  have hs := cl_same (A := ad H L) (nb F - B.toNat)
  unfold vp bH bL
  rw [h, Bool.true_and, e1, e2]
  refine decide_eq_decide.2 ⟨fun h => ?_, fun h => ⟨hB.1, hB.2, ?_⟩⟩
  · rw [hs.2 h.2.2] at hc
    exact ad_inj (cl_in hL _) hL hc
  · rw [h.1, h.2] at hc
    exact hs.1 hc.symm
theorem ho_begin {F H L B F' H' L' : Int} (h : vp F H L B = true) (h' : va F' H' L' = true) (hH : InU H) (hL : InU L) (hH' : InU H') (hL' : InU L') : ho F H L B F' H' L' = decide (F' = F ∧ bH F' H' B = H ∧ bL F' L' B = L) := by
  obtain ⟨hv, hB0, hB1, hm⟩ := vp_in h
  unfold ho
  rw [h, h', Bool.true_and, Bool.true_and]
  by_cases e : F' = F
  · subst e
    obtain ⟨e1, e2, hk⟩ := bh_nat h' ⟨hB0, hB1⟩
    have hc := cl_ad hH' hL' _ hk
    have hs := cl_eq (A' := ad H' L') _ hm
    unfold bH bL
    rw [e1, e2]
    refine decide_eq_decide.2 ⟨fun h => ⟨rfl, ?_⟩, fun h => ⟨rfl, ?_⟩⟩
    · rw [hs.2 h.2] at hc
      exact ad_inj (cl_in hL' _) hL hc
    · rw [h.2.1, h.2.2] at hc
      exact hs.1 hc.symm
  · rw [decide_eq_false (fun h => e h.1.symm), decide_eq_false (fun h => e h.1)]
end Go.Proofs.YtcbmgpmjnehjdaaGreat
namespace Go.Proofs.YtcbmgpmjnehjdaaGreat
set_option maxRecDepth 100000
open Go.RowKit
set_option linter.unusedVariables false

theorem eqa (F H L F' H' L' : Int) (w : World) : (Op.equalIn 9999 119 (.agg #[.int .i64 F, .int .u64 H, .int .u64 L]) (.agg #[.int .i64 F', .int .u64 H', .int .u64 L'])).run Tryz.prog w = .ok (sa F H L F' H' L') w := by
  rw [show (9999 : Nat) = 9998 + 1 from rfl, run_equalIn_agg w 9998 119 _ _ (by kernel_rfl) (by kernel_rfl)]
  simp only [Program.fieldsOf, Tryz.underlying119]
  go_simp
  unfold sa
  by_cases h1 : F = F' <;> by_cases h2 : H = H' <;> by_cases h3 : L = L' <;> simp [h1, h2, h3]
theorem eqp (F H L B F' H' L' B' : Int) (w : World) : (binOp .eql 121 (.agg #[.int .i64 F, .int .u64 H, .int .u64 L, .int .i64 B]) (.agg #[.int .i64 F', .int .u64 H', .int .u64 L', .int .i64 B'])).run Tryz.prog w = .ok (.bool (spx F H L B F' H' L' B')) w := by
  have ea := fun w => eqa F H L F' H' L' w
  have HS : spx F H L B F' H' L' B' = (sa F H L F' H' L' && (B == B')) := by unfold spx sa; rw [Bool.decide_and, Bool.beq_eq_decide_eq]
  rw [run_eql_struct, show (10000 : Nat) = 9999 + 1 from rfl, run_equalIn_agg w 9999 121 _ _ (by kernel_rfl) (by kernel_rfl), HS]
  simp only [Program.fieldsOf, Tryz.underlying121]
  clear HS
  generalize sa F H L F' H' L' = q at *
  cases q
  · go_simp
  · go_simp
    by_cases h : B = B' <;> simp [h]
set_option maxHeartbeats 400000 in
theorem validAddr_ (F H L : Int) (w : World) (hF : InI F) (hH : InU H) (hL : InU L) :
    Calls Tryz.prog 162 #[.agg #[.int .i64 F, .int .u64 H, .int .u64 L]] w fun e w' => e = .returned (.bool (va F H L)) ∧ Below w.heap.size w w' := by
  have B0 := anew w F H L
  unfold InU at hL hH
  by_cases h4 : F = 4
  · subst h4
    go_enter Tryz.func162, Tryz.ntmps162
    go_wp2_with fail
    all_goals
      go_ret
      refine ⟨ret_bool ?_, anew w _ _ _⟩
      unfold va
      first
        | (rw [Bool.beq_eq_decide_eq]; refine decide_eq_decide.2 ?_; simp_all; omega)
        | (refine (decide_eq_false ?_).symm; simp_all; done)
        | (refine (decide_eq_false ?_).symm; simp_all; omega)
  · have e4 : (F == 4) = false := by simpa using h4
    by_cases h6 : F = 6
    · subst h6
      go_enter Tryz.func162, Tryz.ntmps162
      go_wp2_with fail
      go_ret
      exact ⟨ret_bool (decide_eq_true (.inl rfl)).symm, B0⟩
    · have e6 : (F == 6) = false := by simpa using h6
      go_enter Tryz.func162, Tryz.ntmps162
      go_wp2_with fail
      go_ret
      exact ⟨ret_bool (decide_eq_false (by omega)).symm, B0⟩
set_option maxHeartbeats 400000 in
theorem width_ (F : Int) (w : World) : Calls Tryz.prog 163 #[.int .i64 F] w fun e w' => e = .returned (.int .i64 (if F = 4 then 32 else 128)) ∧ w' = w := by
  by_cases h4 : F = 4
  · subst h4
    go_enter Tryz.func163, Tryz.ntmps163
    go_wp2_with fail
    go_ret
    exact ⟨rfl, rfl⟩
  · have e4 : (F == 4) = false := by simpa using h4
    rw [if_neg h4]
    go_enter Tryz.func163, Tryz.ntmps163
    go_wp2_with fail
    go_ret
    exact ⟨rfl, rfl⟩
set_option maxHeartbeats 400000 in
theorem clearLow_ (x n : Int) (w : World) (hx : InU x) (hn : -1000 ≤ n ∧ n ≤ 1000) : Calls Tryz.prog 172 #[.int .u64 x, .int .i64 n] w fun e w' => e = .returned (.int .u64 (cl x n.toNat)) ∧ w' = w := by
  have hI := hid (cl_in hx n.toNat)
  have HB := hid (fun h => cl_big (k := n.toNat) hx h)
  have HD : Hid (x / 2 ^ n.toNat * 2 ^ n.toNat = cl x n.toNat) := rfl
  unfold InU at hx
  by_cases h0 : n < 0
  · have e : n.toNat = 0 := by omega
    have hm : max n 0 = 0 := by omega
    rw [e, cl_zero]
    go_enter Tryz.func172, Tryz.ntmps172
    go_wp2_with fail
    all_goals
      go_ret
      exact ⟨rfl, rfl⟩
  · obtain ⟨k, rfl⟩ : ∃ k : Nat, n = k := ⟨n.toNat, by omega⟩
    rw [Int.toNat_natCast] at *
    have hm : max (k : Int) 0 = (k : Int) := by omega
    have hI2 := hI.out
    unfold InU at hI2
    by_cases h64 : k < 64
    · have hd := HD.out
      go_enter Tryz.func172, Tryz.ntmps172
      go_wp2_with fail
      all_goals
        go_ret
        exact ⟨rfl, rfl⟩
    · have hb := HB.out (by omega)
      rw [hb]
      go_enter Tryz.func172, Tryz.ntmps172
      go_wp2_with fail
      all_goals
        go_ret
        refine ⟨?_, rfl⟩
        show Ending.returned (.int .u64 (IntKind.u64.wrap (x / 2 ^ min k 64 * 2 ^ min k 64))) = _
        rw [show min k 64 = 64 from by omega, Int.ediv_eq_zero_of_lt hx.1 (show x < 2 ^ 64 from Int.lt_of_le_of_lt hx.2 (by decide)), Int.zero_mul]
        rfl
end Go.Proofs.YtcbmgpmjnehjdaaGreat
