import Derived.Test.YtnjfckijpbgagaaN4
import Derived.Test.YtnjfckijpbgagaaNP
import Derived.Test.YtnjfckijpbgagaaNA
import Derived.Laws.StructEq
namespace Go.Proofs.Ytnjfckijpbgagaa
set_option maxRecDepth 100000
open Go.RowKit
set_option linter.unusedVariables false

theorem validSide_ (S : Int) (w : World) : Calls Try.prog 25 #[.int .i64 S] w fun e w' => e = .returned (.bool (decide (S = 0 ∨ S = 1))) ∧ w' = w := by
  go_enter Try.func25, Try.ntmps25
  go_wp2_with fail
  all_goals
    go_ret
    refine ⟨ret_bool ?_, rfl⟩
    first
      | exact (decide_eq_true (by simp_all)).symm
      | exact (decide_eq_false (by simp_all)).symm
      | exact decide_eq_decide.2 (by simp_all)
      | (rw [Bool.eq_iff_iff]; simp; try omega)
def tOk (G C : Int) : Bool := decide (1 ≤ G ∧ G ≤ 2147483647 ∧ C ≤ 18446744073709551614)
theorem validTurn_ (G C : Int) (w : World) : Calls Try.prog 47 #[.int .i64 G, .int .u64 C] w fun e w' => e = .returned (.bool (tOk G C)) ∧ w' = w := by
  unfold tOk
  go_enter Try.func47, Try.ntmps47
  go_wp2_with fail
  all_goals
    go_ret
    refine ⟨ret_bool ?_, rfl⟩
    first
      | exact (decide_eq_true (by simp_all)).symm
      | exact (decide_eq_false (by simp_all)).symm
      | exact (decide_eq_false (by omega)).symm
      | exact decide_eq_decide.2 (by simp_all)
      | (rw [Bool.eq_iff_iff]; simp; try omega)
theorem fitsC_ (T n : Int) (w : World) : Calls Try.prog 26 #[.int .i64 T, .int .i64 n] w fun e w' => e = .returned (.bool (fit T n)) ∧ w' = w := by
  unfold fit
  by_cases h3 : T = 3
  · subst h3
    rw [if_pos rfl]
    go_enter Try.func26, Try.ntmps26
    go_wp2_with fail
    all_goals
      go_ret
      refine ⟨ret_bool ?_, rfl⟩
      first
        | exact (decide_eq_true (by simp_all)).symm
        | exact (decide_eq_false (by simp_all)).symm
        | exact decide_eq_decide.2 (by simp_all)
        | exact (decide_eq_true (by simp_all; omega)).symm
        | exact (decide_eq_false (by simp_all; omega)).symm
        | (rw [Bool.eq_iff_iff]; simp; try omega)
  · rw [if_neg h3]
    have e3 : (T == 3) = false := by simpa using h3
    go_enter Try.func26, Try.ntmps26
    go_wp2_with fail
    go_ret
    exact ⟨rfl, rfl⟩
theorem hOk_t (T K G C : Int) : hOk T K G C = (decide (1 ≤ T ∧ T ≤ 3 ∧ 1 ≤ K ∧ K ≤ 4294967295) && tOk G C) := by
  unfold hOk tOk
  rw [← Bool.decide_and]
  refine decide_eq_decide.2 ?_
  constructor
  · rintro ⟨a, b, c, d, e, f, g⟩
    exact ⟨⟨a, b, c, d⟩, e, f, g⟩
  · rintro ⟨⟨a, b, c, d⟩, e, f, g⟩
    exact ⟨a, b, c, d, e, f, g⟩
set_option maxHeartbeats 1000000 in
theorem validHead_ (T K G C : Int) (w : World) : Calls Try.prog 50 #[.agg #[.int .i64 T, .int .i64 K, .int .i64 G, .int .u64 C]] w fun e w' => e = .returned (.bool (hOk T K G C)) ∧ Below w.heap.size w w' := by
  have B0 := hnew w T K G C
  have m0 := Hm.new w T K G C
  have k := fun w => validTurn_ G C w
  rw [hOk_t]
  by_cases hh : 1 ≤ T ∧ T ≤ 3 ∧ 1 ≤ K ∧ K ≤ 4294967295
  · rw [decide_eq_true hh, Bool.true_and]
    obtain ⟨h1, h2, h3, h4⟩ := hh
    go_enter Try.func50, Try.ntmps50
    have c2 := m0.c2
    have c3 := m0.c3
    go_wp2_with fail
    refine (k _).mono ?_
    rintro e w1 ⟨rfl, hw⟩
    obtain rfl := hw.symm
    go_wp2_with fail
    go_ret
    exact ⟨rfl, B0⟩
  · rw [decide_eq_false hh, Bool.false_and]
    have hn : T < 1 ∨ (1 ≤ T ∧ 3 < T) ∨ (1 ≤ T ∧ T ≤ 3 ∧ K < 1) ∨ (1 ≤ T ∧ T ≤ 3 ∧ 1 ≤ K ∧ 4294967295 < K) := by omega
    clear hh
    go_enter Try.func50, Try.ntmps50
    rcases hn with h | ⟨h1, h⟩ | ⟨h1, h2, h⟩ | ⟨h1, h2, h3, h⟩
    all_goals
      go_wp2_with fail
      go_ret
      exact ⟨rfl, B0⟩
theorem cut_ (b off n c m : Nat) (w : World) (hm : m ≤ n) (hc : n ≤ c) (hx : c ≤ maxLen) :
    Calls Try.prog 41 #[.slice (some ⟨b, off, none⟩) n c, .int .i64 m] w fun e w' => e = .returned (.tuple #[.slice (some ⟨b, off, none⟩) m m, .slice (some ⟨b, if n = m then off else off + m, none⟩) (n - m) (n - m)]) ∧ ∃ nq, w' = w.drewN nq := by
  unfold maxLen at hx
  have i0 : (0 : Int) ≤ (m : Int) := by omega
  have i1 : (m : Int) ≤ (n : Int) := by omega
  have i2 : (n : Int) ≤ (c : Int) := by omega
  have i3 : (m : Int) ≤ (c : Int) := by omega
  go_enter Try.func41, Try.ntmps41
  go_wp2_with fail
  go_quiet (fail)
  go_wp2_with fail
  all_goals go_ret2
  all_goals exact ⟨rfl, nq, rfl⟩
end Go.Proofs.Ytnjfckijpbgagaa
namespace Go.Proofs.Ytnjfckijpbgagaa
set_option maxRecDepth 100000
open Go.RowKit
set_option linter.unusedVariables false

/-! The landed package: a number without its lowest bits. -/
def cl (x : Int) (k : Nat) : Int := x / 2 ^ k * 2 ^ k
theorem cl_zero (x : Int) : cl x 0 = x := by unfold cl; rw [Int.pow_zero, Int.ediv_one, Int.mul_one]
theorem cl_le {x : Int} (h : 0 ≤ x) (k : Nat) : 0 ≤ cl x k ∧ cl x k ≤ x := by
  have hp := pow_pos2 k
  unfold cl
  refine ⟨Int.mul_nonneg (Int.ediv_nonneg h (by omega)) (by omega), Int.ediv_mul_le x (by omega)⟩
theorem cl_in {x : Int} (h : InU x) (k : Nat) : InU (cl x k) := by
  have := cl_le h.1 k
  exact ⟨this.1, Int.le_trans this.2 h.2⟩
theorem pow_le2 {a b : Nat} (h : a ≤ b) : (2 : Int) ^ a ≤ 2 ^ b := by
  obtain ⟨m, rfl⟩ : ∃ m, b = a + m := ⟨b - a, by omega⟩
  rw [Int.pow_add]
  have h1 := pow_pos2 a
  have h2 := pow_pos2 m
  have : 2 ^ a * 1 ≤ (2 : Int) ^ a * 2 ^ m := Int.mul_le_mul_of_nonneg_left (by omega) (by omega)
  omega
theorem cl_big {x : Int} (h : InU x) {k : Nat} (hk : 64 ≤ k) : cl x k = 0 := by
  have h1 := pow_le2 hk
  have : (2 : Int) ^ 64 = 18446744073709551616 := by decide
  unfold cl
  rw [Int.ediv_eq_zero_of_lt h.1 (by have := h.2; omega), Int.zero_mul]
theorem cl_ad {H L : Int} (hH : InU H) (hL : InU L) (k : Nat) (hk : k ≤ 128) : ad (cl H (k - 64)) (cl L k) = cl (ad H L) k := by
  by_cases h : k ≤ 64
  · obtain ⟨m, hm⟩ : ∃ m, 64 = k + m := ⟨64 - k, by omega⟩
    rw [show k - 64 = 0 from by omega, cl_zero]
    unfold ad cl
    have e0 : (18446744073709551616 : Int) = 2 ^ k * 2 ^ m := by rw [← Int.pow_add, ← hm]; decide
    have e1 : H * 18446744073709551616 = 2 ^ k * (H * 2 ^ m) := by rw [e0, Int.mul_left_comm]
    rw [e1, Int.add_comm (2 ^ k * (H * 2 ^ m)) L, Int.add_mul_ediv_left _ _ (by have := pow_pos2 k; omega), Int.add_mul, Int.mul_comm (H * 2 ^ m) (2 ^ k)]
    omega
  · obtain ⟨m, rfl⟩ : ∃ m, k = 64 + m := ⟨k - 64, by omega⟩
    rw [cl_big hL (by omega), Nat.add_sub_cancel_left]
    unfold ad cl
    have e : (H * 18446744073709551616 + L) / 2 ^ (64 + m) = H / 2 ^ m := by
      rw [Int.pow_add, ← Int.ediv_ediv_of_nonneg (by decide)]
      have h1 : (H * 18446744073709551616 + L) / 2 ^ 64 = H := by
        unfold InU at hL
        have : (2 : Int) ^ 64 = 18446744073709551616 := by decide
        rw [this]
        omega
      rw [h1]
    rw [e, Int.pow_add, show (2 : Int) ^ 64 = 18446744073709551616 from by decide, Int.add_zero, ← Int.mul_assoc, Int.mul_right_comm]
theorem ad_inj {H L H' L' : Int} (hL : InU L) (hL' : InU L') (h : ad H L = ad H' L') : H = H' ∧ L = L' := by
  unfold ad InU at *
  omega
theorem cl_same {A : Int} (k : Nat) : cl A k = A ↔ A % 2 ^ k = 0 := by
  have := Int.mul_ediv_add_emod A (2 ^ k)
  unfold cl
  rw [Int.mul_comm] at this
  omega
theorem cl_eq {A A' : Int} (k : Nat) (h : A % 2 ^ k = 0) : cl A' k = A ↔ A / 2 ^ k = A' / 2 ^ k := by
  have h1 := (cl_same k).2 h
  have hp := pow_pos2 k
  constructor
  · intro e
    unfold cl at e
    rw [← e, Int.mul_ediv_cancel _ (by omega)]
  · intro e
    rw [← h1]
    unfold cl
    rw [e]
/-- An address's first bits. -/
def bh (F B : Int) : Int := (if F = 4 then 32 else 128) - B
def bH (F H B : Int) : Int := cl H (bh F B - 64).toNat
def bL (F L B : Int) : Int := cl L (bh F B).toNat
theorem nb_va {F H L : Int} (h : va F H L = true) : (nb F : Int) = if F = 4 then 32 else 128 := by
  have hF := of_decide_eq_true (show decide _ = true from h)
  unfold nb
  rcases hF with rfl | ⟨rfl, _⟩
  · rfl
  · rfl
theorem bh_nat {F H L B : Int} (h : va F H L = true) (hB : 0 ≤ B ∧ B ≤ nb F) : (bh F B).toNat = nb F - B.toNat ∧ (bh F B - 64).toNat = nb F - B.toNat - 64 ∧ nb F - B.toNat ≤ 128 := by
  have h1 := nb_va h
  have h2 := nb_le F
  unfold bh
  rw [← h1]
  omega
theorem vp_begin {F H L B : Int} (h : va F H L = true) (hH : InU H) (hL : InU L) (hB : 0 ≤ B ∧ B ≤ nb F) : vp F H L B = decide (bH F H B = H ∧ bL F L B = L) := by
  obtain ⟨e1, e2, hk⟩ := bh_nat h hB
  have hc := cl_ad hH hL _ hk
  have hs := cl_same (A := ad H L) (nb F - B.toNat)
  unfold vp bH bL
  rw [h, Bool.true_and, e1, e2]
  refine decide_eq_decide.2 ⟨fun h => ?_, fun h => ⟨hB.1, hB.2, ?_⟩⟩
  · rw [hs.2 h.2.2] at hc
    exact ad_inj (cl_in hL _) hL hc
  · rw [h.1, h.2] at hc
    exact hs.1 hc.symm
theorem ho_begin {F H L B F' H' L' : Int} (h : vp F H L B = true) (h' : va F' H' L' = true) (hH : InU H) (hL : InU L) (hH' : InU H') (hL' : InU L') : ho F H L B F' H' L' = decide (F' = F ∧ bH F' H' B = H ∧ bL F' L' B = L) := by
  obtain ⟨hv, hB0, hB1, hm⟩ := vp_in h
  unfold ho
  rw [h, h', Bool.true_and, Bool.true_and]
  by_cases e : F' = F
  · subst e
    obtain ⟨e1, e2, hk⟩ := bh_nat h' ⟨hB0, hB1⟩
    have hc := cl_ad hH' hL' _ hk
    have hs := cl_eq (A' := ad H' L') _ hm
    unfold bH bL
    rw [e1, e2]
    refine decide_eq_decide.2 ⟨fun h => ⟨rfl, ?_⟩, fun h => ⟨rfl, ?_⟩⟩
    · rw [hs.2 h.2] at hc
      exact ad_inj (cl_in hL' _) hL hc
    · rw [h.2.1, h.2.2] at hc
      exact hs.1 hc.symm
  · rw [decide_eq_false (fun h => e h.1.symm), decide_eq_false (fun h => e h.1)]
end Go.Proofs.Ytnjfckijpbgagaa
namespace Go.Proofs.Ytnjfckijpbgagaa
set_option maxRecDepth 100000
open Go.RowKit
set_option linter.unusedVariables false

theorem eqa (F H L F' H' L' : Int) (w : World) : (Op.equalIn 9999 43 (.agg #[.int .i64 F, .int .u64 H, .int .u64 L]) (.agg #[.int .i64 F', .int .u64 H', .int .u64 L'])).run Try.prog w = .ok (sa F H L F' H' L') w := by
  rw [show (9999 : Nat) = 9998 + 1 from rfl, run_equalIn_agg w 9998 43 _ _ (by kernel_rfl) (by kernel_rfl)]
  simp only [Program.fieldsOf, Try.underlying43]
  go_simp
  unfold sa
  by_cases h1 : F = F' <;> by_cases h2 : H = H' <;> by_cases h3 : L = L' <;> simp [h1, h2, h3]
theorem eqp (F H L B F' H' L' B' : Int) (w : World) : (binOp .eql 112 (.agg #[.int .i64 F, .int .u64 H, .int .u64 L, .int .i64 B]) (.agg #[.int .i64 F', .int .u64 H', .int .u64 L', .int .i64 B'])).run Try.prog w = .ok (.bool (spx F H L B F' H' L' B')) w := by
  have ea := fun w => eqa F H L F' H' L' w
  have HS : spx F H L B F' H' L' B' = (sa F H L F' H' L' && (B == B')) := by unfold spx sa; rw [Bool.decide_and, Bool.beq_eq_decide_eq]
  rw [run_eql_struct, show (10000 : Nat) = 9999 + 1 from rfl, run_equalIn_agg w 9999 112 _ _ (by kernel_rfl) (by kernel_rfl), HS]
  simp only [Program.fieldsOf, Try.underlying112]
  clear HS
  generalize sa F H L F' H' L' = q at *
  cases q
  · go_simp
  · go_simp
    by_cases h : B = B' <;> simp [h]
set_option maxHeartbeats 400000 in
theorem validAddr_ (F H L : Int) (w : World) (hF : InI F) (hH : InU H) (hL : InU L) :
    Calls Try.prog 37 #[.agg #[.int .i64 F, .int .u64 H, .int .u64 L]] w fun e w' => e = .returned (.bool (va F H L)) ∧ Below w.heap.size w w' := by
  have B0 := anew w F H L
  unfold InU at hL hH
  by_cases h4 : F = 4
  · subst h4
    go_enter Try.func37, Try.ntmps37
    go_wp2_with fail
    all_goals
      go_ret
      refine ⟨ret_bool ?_, anew w _ _ _⟩
      unfold va
      first
        | (rw [Bool.beq_eq_decide_eq]; refine decide_eq_decide.2 ?_; simp_all; omega)
        | (refine (decide_eq_false ?_).symm; simp_all; done)
        | (refine (decide_eq_false ?_).symm; simp_all; omega)
  · have e4 : (F == 4) = false := by simpa using h4
    by_cases h6 : F = 6
    · subst h6
      go_enter Try.func37, Try.ntmps37
      go_wp2_with fail
      go_ret
      exact ⟨ret_bool (decide_eq_true (.inl rfl)).symm, B0⟩
    · have e6 : (F == 6) = false := by simpa using h6
      go_enter Try.func37, Try.ntmps37
      go_wp2_with fail
      go_ret
      exact ⟨ret_bool (decide_eq_false (by omega)).symm, B0⟩
set_option maxHeartbeats 400000 in
theorem width_ (F : Int) (w : World) : Calls Try.prog 108 #[.int .i64 F] w fun e w' => e = .returned (.int .i64 (if F = 4 then 32 else 128)) ∧ w' = w := by
  by_cases h4 : F = 4
  · subst h4
    go_enter Try.func108, Try.ntmps108
    go_wp2_with fail
    go_ret
    exact ⟨rfl, rfl⟩
  · have e4 : (F == 4) = false := by simpa using h4
    rw [if_neg h4]
    go_enter Try.func108, Try.ntmps108
    go_wp2_with fail
    go_ret
    exact ⟨rfl, rfl⟩
set_option maxHeartbeats 400000 in
theorem clearLow_ (x n : Int) (w : World) (hx : InU x) (hn : -1000 ≤ n ∧ n ≤ 1000) : Calls Try.prog 120 #[.int .u64 x, .int .i64 n] w fun e w' => e = .returned (.int .u64 (cl x n.toNat)) ∧ w' = w := by
  have hI := hid (cl_in hx n.toNat)
  have HB := hid (fun h => cl_big (k := n.toNat) hx h)
  have HD : Hid (x / 2 ^ n.toNat * 2 ^ n.toNat = cl x n.toNat) := rfl
  unfold InU at hx
  by_cases h0 : n < 0
  · have e : n.toNat = 0 := by omega
    have hm : max n 0 = 0 := by omega
    rw [e, cl_zero]
    go_enter Try.func120, Try.ntmps120
    go_wp2_with fail
    all_goals
      go_ret
      exact ⟨rfl, rfl⟩
  · obtain ⟨k, rfl⟩ : ∃ k : Nat, n = k := ⟨n.toNat, by omega⟩
    rw [Int.toNat_natCast] at *
    have hm : max (k : Int) 0 = (k : Int) := by omega
    have hI2 := hI.out
    unfold InU at hI2
    by_cases h64 : k < 64
    · have hd := HD.out
      go_enter Try.func120, Try.ntmps120
      go_wp2_with fail
      all_goals
        go_ret
        exact ⟨rfl, rfl⟩
    · have hb := HB.out (by omega)
      rw [hb]
      go_enter Try.func120, Try.ntmps120
      go_wp2_with fail
      all_goals
        go_ret
        refine ⟨?_, rfl⟩
        show Ending.returned (.int .u64 (IntKind.u64.wrap (x / 2 ^ min k 64 * 2 ^ min k 64))) = _
        rw [show min k 64 = 64 from by omega, Int.ediv_eq_zero_of_lt hx.1 (show x < 2 ^ 64 from Int.lt_of_le_of_lt hx.2 (by decide)), Int.zero_mul]
        rfl
end Go.Proofs.Ytnjfckijpbgagaa
namespace Go.Proofs.Ytnjfckijpbgagaa
set_option maxRecDepth 100000
open Go.RowKit
set_option linter.unusedVariables false

theorem bh_in {F B : Int} (hB : 0 ≤ B ∧ B ≤ 200) : -1000 ≤ bh F B - 64 ∧ bh F B - 64 ≤ 1000 ∧ -1000 ≤ bh F B ∧ bh F B ≤ 1000 := by
  unfold bh
  split <;> omega
theorem Am.set1 {w : World} {g : Nat} {F H L : Int} (h : Am w g F H L) (x : Int) : Am (w.setCell ⟨g, 1, none⟩ (.int .u64 x)) g F x L := by
  unfold Am at *; simp [World.setCell, Array.getElem?_modify, h]
theorem Am.set2 {w : World} {g : Nat} {F H L : Int} (h : Am w g F H L) (x : Int) : Am (w.setCell ⟨g, 2, none⟩ (.int .u64 x)) g F H x := by
  unfold Am at *; simp [World.setCell, Array.getElem?_modify, h]
theorem Pm.fz {w : World} {g : Nat} {F H L B : Int} (h : Pm w g F H L B) (i : Nat) : w.frozen? ⟨g, i, none⟩ = false := by unfold Pm at h; simp [World.frozen?, h]
theorem Pm.other {w : World} {g g' : Nat} {F H L B : Int} (h : Pm w g F H L B) (hn : g ≠ g') (i : Nat) (v : Value) : Pm (w.setCell ⟨g', i, none⟩ v) g F H L B := h.at (Below.heap_setCell _ _ _ _ hn)
set_option maxHeartbeats 1000000 in
theorem begin_ (F H L B : Int) (w : World) (hF : InI F) (hH : InU H) (hL : InU L) (hB : 0 ≤ B ∧ B ≤ 200) :
    Calls Try.prog 109 #[.agg #[.int .i64 F, .int .u64 H, .int .u64 L], .int .i64 B] w fun e w' => e = .returned (.agg #[.int .i64 F, .int .u64 (bH F H B), .int .u64 (bL F L B), .int .i64 B]) ∧ Below w.heap.size w w' := by
  have B0 := anew w F H L
  have m0 := Am.new w F H L
  obtain ⟨b1, b2, b3, b4⟩ := bh_in (F := F) hB
  have k1 := fun w => width_ F w
  have k2 := fun w => clearLow_ H (bh F B - 64) w hH ⟨b1, b2⟩
  have k3 := fun w => clearLow_ L (bh F B) w hL ⟨b3, b4⟩
  have HX : Hid (bH F H B = cl H (bh F B - 64).toNat) := rfl
  have HY : Hid (bL F L B = cl L (bh F B).toNat) := rfl
  have hw : (if F = 4 then 32 else 128) - B = bh F B := rfl
  have hww : (0 : Int) ≤ (if F = 4 then 32 else 128) ∧ (if F = 4 then 32 else 128) ≤ (128 : Int) := by split <;> omega
  obtain ⟨W, Hw⟩ : ∃ W : Int, Hid ((if F = 4 then 32 else 128) = W) := ⟨_, rfl⟩
  rw [Hw.out] at hw hww k1
  rw [← HX.out] at k2
  rw [← HY.out] at k3
  generalize bH F H B = X at *
  generalize bL F L B = Y at *
  generalize bh F B = D at *
  clear HX HY
  go_enter Try.func109, Try.ntmps109
  have c0 := m0.c0
  go_wp2_with fail
  clear c0
  refine (k1 _).mono ?_
  rintro e w1 ⟨rfl, rfl⟩
  have c1 := m0.c1
  go_wp2_with fail
  clear c1
  refine (k2 _).mono ?_
  rintro e w1 ⟨rfl, rfl⟩
  have m1 : Pm ((w.alloc (.cells #[.int .i64 F, .int .u64 H, .int .u64 L] 43)).alloc (.cells #[.int .i64 0, .int .u64 0, .int .u64 0, .int .i64 0] 112)) (w.heap.size + 1) 0 0 0 0 := by
    have := Pm.new (w.alloc (.cells #[.int .i64 F, .int .u64 H, .int .u64 L] 43)) 0 0 0 0
    simpa using this
  replace m0 := m0.alloc (.cells #[.int .i64 0, .int .u64 0, .int .u64 0, .int .i64 0] 112)
  replace B0 := B0.alloc (by simp) (.cells #[.int .i64 0, .int .u64 0, .int .u64 0, .int .i64 0] 112)
  generalize (w.alloc (.cells #[.int .i64 F, .int .u64 H, .int .u64 L] 43)).alloc (.cells #[.int .i64 0, .int .u64 0, .int .u64 0, .int .i64 0] 112) = w1 at *
  have c1 := m0.c1
  have f1 := m0.fz 1
  have f2 := (m0.set1 X).fz 2
  have c2 := (m0.set1 X).c2
  go_wp2_with fail
  clear c1 c2
  refine (k3 _).mono ?_
  rintro e w2 ⟨rfl, rfl⟩
  replace m0 := m0.set1 X
  have c2 := m0.c2
  replace m1 := ((m1.other (g' := w.heap.size) (by omega) 1 (.int .u64 X)).other (g' := w.heap.size) (by omega) 2 (.int .u64 Y) : Pm _ (w.heap.size + 1) 0 0 0 0)
  have m2 := m0.set2 Y
  have d0 := m2.c0
  have d1 := m2.c1
  have d2 := m2.c2
  replace B0 := (B0.setCell (p := ⟨w.heap.size, 1, none⟩) (Nat.le_refl _) (.int .u64 X)).setCell (p := ⟨w.heap.size, 2, none⟩) (Nat.le_refl _) (.int .u64 Y)
  go_wp2_with (refine wpList_spx rfl rfl _ _ rfl (w.heap.size + 1) F X Y B rfl rfl _ _ _ _ m1 ?_)
  refine bodyPost_ret (v := .agg #[.int .i64 F, .int .u64 X, .int .u64 Y, .int .i64 B]) ?_ rfl ⟨rfl, bel_row B0 (by omega) _⟩
  exact results_cell_row rfl _ _ (w.heap.size + 1) 112 _ (0, 0) _ rfl (m1.row _ _ _ _) Try.underlying112 rfl sizep
/-- What a region with loads of a prefix's parts holds to. -/
def SP (g : Nat) (F H L B : Int) (w0 w : World) : Prop := (w.cell? ⟨g, 0, none⟩ = some (.int .i64 F) ∧ w.cell? ⟨g, 1, none⟩ = some (.int .u64 H) ∧ w.cell? ⟨g, 2, none⟩ = some (.int .u64 L) ∧ w.cell? ⟨g, 3, none⟩ = some (.int .i64 B)) ∧ Pm w g F H L B ∧ Below w0.heap.size w0 w
theorem SP.of {g : Nat} {F H L B : Int} {w0 w : World} (h : Pm w g F H L B) (hb : Below w0.heap.size w0 w) : SP g F H L B w0 w := ⟨⟨h.c0, h.c1, h.c2, h.c3⟩, h, hb⟩
theorem SP.kept {g : Nat} {F H L B : Int} {w0 w w' : World} (h : SP g F H L B w0 w) (hb : Below w.heap.size w w') : SP g F H L B w0 w' := SP.of (h.2.1.kept hb) (bel_bel h.2.2 h.2.2.size hb)
theorem SP.drew {g : Nat} {F H L B : Int} {w0 w : World} (h : SP g F H L B w0 w) : SP g F H L B w0 { w with drawn := w.drawn + 1 } := h.kept ⟨rfl, rfl, rfl, Nat.le_refl _, fun _ _ => rfl⟩
set_option maxHeartbeats 4000000 in
theorem valid_ (F H L B : Int) (w : World) (hF : InI F) (hH : InU H) (hL : InU L) (hB : InI B) :
    Calls Try.prog 90 #[.agg #[.int .i64 F, .int .u64 H, .int .u64 L, .int .i64 B]] w fun e w' => e = .returned (.bool (vp F H L B)) ∧ Below w.heap.size w w' := by
  have s0 := SP.of (Pm.new w F H L B) (pnew w F H L B)
  have k1 := fun w => validAddr_ F H L w hF hH hL
  have k2 := fun w => width_ F w
  cases hv : va F H L with
  | false =>
    have HE := hid (va_out hv B)
    rw [hv] at k1
    clear hv
    go_enter Try.func90, Try.ntmps90
    go_wp2_with fail
    refine wp_region_quiet (C := SP w.heap.size F H L B w) (by kernel_rfl) (by kernel_rfl) s0.drew ?_
    repeat
      refine wpQuiet_step (fun K hK => ?_)
      go_simp
      first
        | (refine hK _ ?_; clear hK K)
        | (apply Exists.intro
           refine ⟨fun wq hq => ?_, hK _ ?_⟩
           · first
             | rfl
             | (obtain ⟨⟨q0, q1, q2, q3⟩, _, _⟩ := hq; go_simp; rfl)
             | (go_at_call 37; exact (k1 _).mono fun _ _ h => ⟨h.1, hq.kept h.2⟩)
           clear hK K)
    refine wpQuiet_nil ?_
    intro w1 s1
    go_wp2_with fail
    go_ret
    exact ⟨ret_bool HE.out.symm, s1.2.2⟩
  | true =>
    have HVN : Hid (¬ (0 ≤ B ∧ B ≤ nb F) → vp F H L B = false) := fun h => by
      unfold vp
      rw [decide_eq_false (fun h' => h ⟨h'.1, h'.2.1⟩), Bool.and_false]
    have HVP := hid (fun h => vp_begin hv hH hL (B := B) h)
    have hnb := nb_va hv
    have hn128 := nb_le F
    rw [← hnb] at k2
    rw [hv] at k1
    generalize nb F = n at *
    clear hnb hv
    by_cases hneg : 0 ≤ B
    · by_cases hbig : B ≤ n
      · have HV := hid (HVP.out ⟨hneg, hbig⟩)
        have k3 := fun w => begin_ F H L B w hF hH hL (by omega)
        have he := fun w => eqp F (bH F H B) (bL F L B) B F H L B w
        have HS : Hid (spx F (bH F H B) (bL F L B) B F H L B = decide (bH F H B = H ∧ bL F L B = L)) := by
          show _ = _
          unfold spx
          exact decide_eq_decide.2 ⟨fun h => h.1.2, fun h => ⟨⟨rfl, h⟩, rfl⟩⟩
        generalize bH F H B = X at *
        generalize bL F L B = Y at *
        clear HVN HVP hB
        go_enter Try.func90, Try.ntmps90
        go_wp2_with fail
        refine wp_region_quiet (C := SP w.heap.size F H L B w) (by kernel_rfl) (by kernel_rfl) s0.drew ?_
        repeat
          refine wpQuiet_step (fun K hK => ?_)
          go_simp
          first
            | (refine hK _ ?_; clear hK K)
            | (apply Exists.intro
               refine ⟨fun wq hq => ?_, hK _ ?_⟩
               · first
                 | rfl
                 | (go_at_call 37; exact (k1 _).mono fun _ _ h => ⟨h.1, hq.kept h.2⟩)
                 | (go_at_call 108; exact (k2 _).mono fun _ _ h => ⟨h.1, by rw [h.2]; exact hq⟩)
                 | (go_at_call 109; exact (k3 _).mono fun _ _ h => ⟨h.1, hq.kept h.2⟩)
                 | (obtain ⟨⟨q0, q1, q2, q3⟩, _, _⟩ := hq; go_simp; rfl)
               clear hK K)
        refine wpQuiet_nil ?_
        intro w1 s1
        go_wp2_with fail
        go_ret
        exact ⟨ret_bool (HS.out.trans HV.out.symm), s1.2.2⟩
      · have HE := hid (HVN.out (by omega))
        have d2 : decide (B ≤ (n : Int)) = false := decide_eq_false hbig
        clear HVN HVP hB hbig
        go_enter Try.func90, Try.ntmps90
        go_wp2_with fail
        refine wp_region_quiet (C := SP w.heap.size F H L B w) (by kernel_rfl) (by kernel_rfl) s0.drew ?_
        repeat
          refine wpQuiet_step (fun K hK => ?_)
          go_simp
          first
            | (refine hK _ ?_; clear hK K)
            | (apply Exists.intro
               refine ⟨fun wq hq => ?_, hK _ ?_⟩
               · first
                 | rfl
                 | (go_at_call 37; exact (k1 _).mono fun _ _ h => ⟨h.1, hq.kept h.2⟩)
                 | (go_at_call 108; exact (k2 _).mono fun _ _ h => ⟨h.1, by rw [h.2]; exact hq⟩)
                 | (obtain ⟨⟨q0, q1, q2, q3⟩, _, _⟩ := hq; go_simp; rfl)
               clear hK K)
        refine wpQuiet_nil ?_
        intro w1 s1
        go_wp2_with fail
        go_ret
        exact ⟨ret_bool HE.out.symm, s1.2.2⟩
    · have HE := hid (HVN.out (by omega))
      have d2 : decide (0 ≤ B) = false := decide_eq_false hneg
      clear HVN HVP hB hneg
      go_enter Try.func90, Try.ntmps90
      go_wp2_with fail
      refine wp_region_quiet (C := SP w.heap.size F H L B w) (by kernel_rfl) (by kernel_rfl) s0.drew ?_
      repeat
        refine wpQuiet_step (fun K hK => ?_)
        go_simp
        first
          | (refine hK _ ?_; clear hK K)
          | (apply Exists.intro
             refine ⟨fun wq hq => ?_, hK _ ?_⟩
             · first
               | rfl
               | (go_at_call 37; exact (k1 _).mono fun _ _ h => ⟨h.1, hq.kept h.2⟩)
               | (obtain ⟨⟨q0, q1, q2, q3⟩, _, _⟩ := hq; go_simp; rfl)
             clear hK K)
      refine wpQuiet_nil ?_
      intro w1 s1
      go_wp2_with fail
      go_ret
      exact ⟨ret_bool HE.out.symm, s1.2.2⟩
end Go.Proofs.Ytnjfckijpbgagaa
