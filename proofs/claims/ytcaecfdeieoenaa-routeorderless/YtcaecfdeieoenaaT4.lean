import Derived.Test.YtcaecfdeieoenaaT3
import Derived.Test.YtcaecfdeieoenaaQ3
import Derived.Test.YtcaecfdeieoenaaShelf
import Derived.Laws.Bits64
import Derived.Laws.Bits64b
import Derived.Lib.ItoaNum
namespace Go.Proofs.Ytcaecfdeieoenaa
open Go.RowKit Go.Shelf
set_option linter.unusedVariables false

/-! The landed package route: small things. -/
theorem bl_len (n : Nat) (h : n < 2 ^ 64) : Lib.bitLen n = bl n := by
  have h1 : Lib.bitLen n ≤ bl n := Lib.bitLenAux_le 64 n (bl n) ((bl_le n _).1 (Nat.le_refl _))
  have h2 : bl n ≤ Lib.bitLen n := by
    by_cases h0 : n = 0
    · subst h0
      exact Nat.zero_le _
    · exact (bl_le n _).2 (Lib.bitLenAux_bounds 64 n h h0).2.2
  omega
theorem len64_ (x : Int) (w : World) (hx : InU x) : Calls Try.prog 70 #[.int .u64 x] w fun e w' => e = .returned (.int .i64 (bl x.toNat)) ∧ w' = w := by
  have h := Any.bits_Len64 (P := Try.prog) (ρ := Try.sortL_ren.viaSlsf) { (SlLaysF0.n15.bits (P := Try.prog) (ρ := Try.sortL_ren) { Try.sortL with }) with } x w hx.1 hx.2
  rw [bl_len _ (by unfold InU at hx; omega)] at h
  exact h
set_option maxHeartbeats 400000 in
theorem rwidth_ (F : Int) (w : World) : Calls Try.prog 37 #[.int .i64 F] w fun e w' => e = .returned (.int .i64 (if F = 4 then 32 else 128)) ∧ w' = w := by
  by_cases h4 : F = 4
  · subst h4
    go_enter Try.func37, Try.ntmps37
    go_wp2_with fail
    go_ret
    exact ⟨rfl, rfl⟩
  · have e4 : (F == 4) = false := by simpa using h4
    rw [if_neg h4]
    go_enter Try.func37, Try.ntmps37
    go_wp2_with fail
    go_ret
    exact ⟨rfl, rfl⟩
set_option maxHeartbeats 400000 in
theorem place_ (F : Int) (w : World) : Calls Try.prog 42 #[.int .i64 F] w fun e w' => e = .returned (.int .i64 (if F = 4 then 0 else 1)) ∧ w' = w := by
  by_cases h4 : F = 4
  · subst h4
    go_enter Try.func42, Try.ntmps42
    go_wp2_with fail
    go_ret
    exact ⟨rfl, rfl⟩
  · have e4 : (F == 4) = false := by simpa using h4
    rw [if_neg h4]
    go_enter Try.func42, Try.ntmps42
    go_wp2_with fail
    go_ret
    exact ⟨rfl, rfl⟩
set_option maxHeartbeats 400000 in
theorem rclearLow_ (x n : Int) (w : World) (hx : InU x) (hn : -1000 ≤ n ∧ n ≤ 1000) : Calls Try.prog 75 #[.int .u64 x, .int .i64 n] w fun e w' => e = .returned (.int .u64 (cl x n.toNat)) ∧ w' = w := by
  have hI := hid (cl_in hx n.toNat)
  have HB := hid (fun h => cl_big (k := n.toNat) hx h)
  have HD : Hid (x / 2 ^ n.toNat * 2 ^ n.toNat = cl x n.toNat) := rfl
  unfold InU at hx
  by_cases h0 : n < 0
  · have e : n.toNat = 0 := by omega
    have hm : max n 0 = 0 := by omega
    rw [e, cl_zero]
    go_enter Try.func75, Try.ntmps75
    go_wp2_with fail
    all_goals
      go_ret
      exact ⟨rfl, rfl⟩
  · obtain ⟨k, rfl⟩ : ∃ k : Nat, n = k := ⟨n.toNat, by omega⟩
    rw [Int.toNat_natCast] at *
    have hm : max (k : Int) 0 = (k : Int) := by omega
    have hI2 := hI.out
    unfold InU at hI2
    by_cases h64 : k < 64
    · have hd := HD.out
      go_enter Try.func75, Try.ntmps75
      go_wp2_with fail
      all_goals
        go_ret
        exact ⟨rfl, rfl⟩
    · have hb := HB.out (by omega)
      rw [hb]
      go_enter Try.func75, Try.ntmps75
      go_wp2_with fail
      all_goals
        go_ret
        refine ⟨?_, rfl⟩
        show Ending.returned (.int .u64 (IntKind.u64.wrap (x / 2 ^ min k 64 * 2 ^ min k 64))) = _
        rw [show min k 64 = 64 from by omega, Int.ediv_eq_zero_of_lt hx.1 (show x < 2 ^ 64 from Int.lt_of_le_of_lt hx.2 (by decide)), Int.zero_mul]
        rfl
theorem and_dv (x : Int) (k : Nat) (hx : InU x) : bits .and .u64 (x / 2 ^ k) 1 = x / 2 ^ k % 2 := by
  have h0 : 0 ≤ x / 2 ^ k := Int.ediv_nonneg hx.1 (Int.le_of_lt (pow_pos2 k))
  have h1 : x / 2 ^ k ≤ x := Int.ediv_le_self _ hx.1
  obtain ⟨a, ha⟩ := Int.eq_ofNat_of_zero_le h0
  unfold InU at hx
  rw [ha]
  have := bits_and_u64_nat a 1 (by omega) (by omega)
  rw [Nat.and_one_is_mod] at this
  exact this.trans (by omega)
theorem bi_hi {F H L n : Int} (hL : InU L) (k : Nat) (hk : (nb F : Int) - n - 1 = 64 + k) (hn : 0 ≤ n) : bi (nb F) (ad H L) n.toNat = H / 2 ^ k % 2 := by
  unfold bi
  rw [show nb F - (n.toNat + 1) = 64 + k from by omega, ad_dv hL]
theorem bi_lo {F H L n : Int} (hL : InU L) (k : Nat) (hk : (nb F : Int) - n - 1 = k) (h64 : k < 64) (hn : 0 ≤ n) : bi (nb F) (ad H L) n.toNat = L / 2 ^ k % 2 := by
  unfold bi
  rw [show nb F - (n.toNat + 1) = k from by omega]
  obtain ⟨m, hm⟩ : ∃ m, 64 = k + (m + 1) := ⟨63 - k, by omega⟩
  have e0 : (18446744073709551616 : Int) = 2 ^ k * 2 ^ (m + 1) := by rw [← Int.pow_add, ← hm]; decide
  unfold ad
  rw [e0, Int.mul_left_comm, Int.add_comm, Int.add_mul_ediv_left _ _ (by have := pow_pos2 k; omega), Int.pow_succ, ← Int.mul_assoc]
  omega
theorem bit01 (x : Int) (k : Nat) : 0 ≤ x / 2 ^ k % 2 ∧ x / 2 ^ k % 2 ≤ 1 := by omega
set_option maxHeartbeats 1000000 in
theorem bit_ (F H L n : Int) (w : World) (hH : InU H) (hL : InU L) (ha : va F H L = true) (hn : 0 ≤ n ∧ n < nb F) :
    Calls Try.prog 54 #[.agg #[.int .i64 F, .int .u64 H, .int .u64 L], .int .i64 n] w fun e w' => e = .returned (.int .i64 (bi (nb F) (ad H L) n.toNat)) ∧ Below w.heap.size w w' := by
  have m0 := Am.new w F H L
  have B0 := anew w F H L
  have k1 := fun w => rwidth_ F w
  have hw := nb_va ha
  rw [← hw] at k1
  have h128 := nb_le F
  have c0 := m0.c0
  have c1 := m0.c1
  have c2 := m0.c2
  by_cases h64 : 64 ≤ (nb F : Int) - n - 1
  · obtain ⟨k, hk⟩ : ∃ k : Nat, (nb F : Int) - n - 1 = 64 + k := ⟨((nb F : Int) - n - 1 - 64).toNat, by omega⟩
    have hb := and_dv H k hH
    have hq := bit01 H k
    rw [bi_hi hL k hk hn.1]
    generalize (nb F : Int) = W at *
    generalize H / 2 ^ k % 2 = q at *
    have hk64 : k < 64 := by omega
    have hge : (64 : Int) ≤ W - n - 1 := h64
    unfold InU at hH hL
    clear hw ha
    go_enter Try.func54, Try.ntmps54
    go_wp2_with (go_at_call 37; refine (k1 _).mono ?_; rintro e w1 ⟨rfl, rfl⟩)
    go_ret
    exact ⟨rfl, B0⟩
  · obtain ⟨k, hk⟩ : ∃ k : Nat, (nb F : Int) - n - 1 = k := ⟨((nb F : Int) - n - 1).toNat, by omega⟩
    have hb := and_dv L k hL
    have hq := bit01 L k
    rw [bi_lo hL k hk (by omega) hn.1]
    generalize (nb F : Int) = W at *
    generalize L / 2 ^ k % 2 = q at *
    have hk64 : k < 64 := by omega
    have hge : ¬ (64 : Int) ≤ W - n - 1 := h64
    unfold InU at hH hL
    clear hw ha
    go_enter Try.func54, Try.ntmps54
    go_wp2_with (go_at_call 37; refine (k1 _).mono ?_; rintro e w1 ⟨rfl, rfl⟩)
    go_ret
    exact ⟨rfl, B0⟩
set_option maxHeartbeats 1000000 in
theorem unlike_ (F H L F' H' L' : Int) (w : World) (hH : InU H) (hL : InU L) (hH' : InU H') (hL' : InU L') :
    Calls Try.prog 74 #[.agg #[.int .i64 F, .int .u64 H, .int .u64 L], .agg #[.int .i64 F', .int .u64 H', .int .u64 L']] w fun e w' => e = .returned (.int .i64 (ul (ad H L) (ad H' L'))) ∧ Below w.heap.size w w' := by
  rw [ul_ad hH hL hH' hL']
  have xr : ∀ a b : Int, InU a → InU b → bits .xor .u64 a b = ((a.toNat ^^^ b.toNat : Nat) : Int) ∧ a.toNat ^^^ b.toNat < 18446744073709551616 := fun a b ha hb => by
    obtain ⟨a, rfl⟩ := Int.eq_ofNat_of_zero_le ha.1
    obtain ⟨b, rfl⟩ := Int.eq_ofNat_of_zero_le hb.1
    unfold InU at ha hb
    exact ⟨bits_xor_u64_nat a b (by omega) (by omega), Nat.xor_lt_two_pow (n := 64) (by simp; omega) (by simp; omega)⟩
  have m0 := (Am.new w F H L).alloc (.cells #[.int .i64 F', .int .u64 H', .int .u64 L'] 30)
  have m1 := Am.new (w.alloc (.cells #[.int .i64 F, .int .u64 H, .int .u64 L] 30)) F' H' L'
  have B0 := (anew w F H L).alloc (by simp) (.cells #[.int .i64 F', .int .u64 H', .int .u64 L'] 30)
  rw [World.size_alloc] at m1
  have c1 := m0.c1
  have c2 := m0.c2
  have d1 := m1.c1
  have d2 := m1.c2
  have xH := (xr H H' hH hH').1
  have xL := (xr L L' hL hL').1
  have yH := (xr H H' hH hH').2
  have yL := (xr L L' hL hL').2
  have k1 := fun w => len64_ ((H.toNat ^^^ H'.toNat : Nat) : Int) w ⟨by omega, by omega⟩
  have k2 := fun w => len64_ ((L.toNat ^^^ L'.toNat : Nat) : Int) w ⟨by omega, by omega⟩
  rw [Int.toNat_natCast] at k1 k2
  have z1 : ul H H' = bl (H.toNat ^^^ H'.toNat) := rfl
  have z2 : ul L L' = bl (L.toNat ^^^ L'.toNat) := rfl
  have b1 : bl (H.toNat ^^^ H'.toNat) ≤ 64 := (bl_le _ _).2 yH
  have hz : H.toNat ^^^ H'.toNat = 0 ↔ H = H' := by
    rw [xor_zero_iff]
    unfold InU at hH hH'
    omega
  rw [z1, z2]
  generalize bl (H.toNat ^^^ H'.toNat) = u at *
  generalize bl (L.toNat ^^^ L'.toNat) = v at *
  generalize H.toNat ^^^ H'.toNat = X at *
  generalize L.toNat ^^^ L'.toNat = Y at *
  clear xr z1 z2
  by_cases h : H = H'
  · rw [if_pos h]
    have hx0 := hz.2 h
    subst hx0
    clear hz h
    go_enter Try.func74, Try.ntmps74
    go_wp2_with (go_at_call 70; refine (k2 _).mono ?_; rintro e w1 ⟨rfl, rfl⟩)
    go_ret
    exact ⟨rfl, B0⟩
  · rw [if_neg h]
    have hx0 : ((X : Int) != 0) = true := by
      have := mt hz.1 h
      simp
      omega
    clear hz h
    go_enter Try.func74, Try.ntmps74
    go_wp2_with (go_at_call 70; refine (k1 _).mono ?_; rintro e w1 ⟨rfl, rfl⟩)
    go_ret
    exact ⟨rfl, B0⟩
end Go.Proofs.Ytcaecfdeieoenaa
