import Derived.Test.YtgjamfnhkeoedaaBase
namespace Go.Proofs.Ytgjamfnhkeoedaa
open Go.RowKit
set_option linter.unusedVariables false

theorem ret_i8 {a b : Int} (h : a = b) : Ending.returned (.int .u8 a) = .returned (.int .u8 b) := by rw [h]
set_option maxRecDepth 100000 in
theorem t8_is : ∀ r, r < 256 → (r / 128 % 2 = 1 → (r * 2 % 256) ^^^ 27 = t8 r ∧ r &&& 128 = 128) ∧ (¬ r / 128 % 2 = 1 → r * 2 % 256 = t8 r ∧ r &&& 128 = 0) := by decide +kernel
set_option maxHeartbeats 400000 in
theorem timesX8_ (r : Nat) (w : World) (hr : r < 256) :
    Calls Try.prog 63 #[.int .u8 r] w fun e w' => e = .returned (.int .u8 (t8 r)) ∧ w' = w := by
  obtain ⟨h1, h2⟩ := t8_is r hr
  have ea := u8_and_nat r 128 hr (by omega)
  by_cases h : r / 128 % 2 = 1
  · obtain ⟨e1, e2⟩ := h1 h
    have e3 : bits .and .u8 (r : Int) 128 = 128 := by rw [show (128 : Int) = ((128 : Nat) : Int) from rfl, ea, e2]
    have e4 : bits .xor .u8 ((r : Int) * 2 % 256) 27 = ((t8 r : Nat) : Int) := by
      rw [← e1, ← u8_xor_nat (r * 2 % 256) 27 (by omega) (by omega)]; rfl
    generalize t8 r = q at *
    clear h1 h2 ea h e1 e2
    go_enter Try.func63, Try.ntmps63
    go_wp2
    go_ret
    exact ⟨rfl, rfl⟩
  · obtain ⟨e1, e2⟩ := h2 h
    have e3 : bits .and .u8 (r : Int) 128 = 0 := by rw [show (128 : Int) = ((128 : Nat) : Int) from rfl, ea, e2]; rfl
    have HQ : Hid ((r : Int) * 2 % 256 = ((t8 r : Nat) : Int)) := by show _ = _; rw [← e1]; rfl
    generalize t8 r = q at *
    clear h1 h2 ea h e1 e2
    go_enter Try.func63, Try.ntmps63
    go_wp2
    go_ret
    exact ⟨ret_i8 HQ.out, rfl⟩

/-- Bit i of a byte, as Go asks for it. -/
theorem and1_8 (q : Nat) (h : q < 256) : (q % 2 = 1 → bits .and .u8 (q : Int) 1 = 1) ∧ (¬ q % 2 = 1 → bits .and .u8 (q : Int) 1 = 0) := by
  have := u8_and_nat q 1 h (by omega)
  rw [show q &&& 1 = q % 2 from Nat.and_two_pow_sub_one_eq_mod q 1] at this
  have e : bits .and .u8 (q : Int) 1 = ((q % 2 : Nat) : Int) := this
  exact ⟨fun h1 => by rw [e, h1]; rfl, fun h0 => by rw [e, show q % 2 = 0 from by omega]; rfl⟩
/-- The same of a shifted byte. -/
theorem bit8 (b j : Nat) (h : b < 256) : (b / 2 ^ j % 2 = 1 → bits .and .u8 ((b : Int) / 2 ^ j) 1 = 1) ∧ (¬ b / 2 ^ j % 2 = 1 → bits .and .u8 ((b : Int) / 2 ^ j) 1 = 0) := by
  have := and1_8 (b / 2 ^ j) (Nat.lt_of_le_of_lt (Nat.div_le_self _ _) h)
  rwa [Int.natCast_ediv, Int.natCast_pow] at this
theorem t8s_succ : ∀ n a, t8s (n + 1) a = t8 (t8s n a)
  | 0, _ => rfl
  | n + 1, a => by rw [t8s, t8s_succ n]; rfl
theorem t8s_lt : ∀ n a, a < 256 → t8s n a < 256
  | 0, _, h => h
  | n + 1, a, h => t8s_lt n _ (t8_lt a h)
theorem p8_lt (n : Nat) : ∀ a b, a < 256 → p8 n a b < 256 := by
  induction n with
  | zero => intro a b _; rw [p8]; omega
  | succ n ih =>
    intro a b h
    rw [p8]
    exact Nat.xor_lt_two_pow (n := 8) (by split <;> omega) (ih _ _ (t8_lt a h))

set_option maxHeartbeats 400000 in
theorem mul8_ (a b : Nat) (w : World) (ha : a < 256) (hb : b < 256) :
    Calls Try.prog 54 #[.int .u8 a, .int .u8 b] w fun e w' => e = .returned (.int .u8 (mul8 a b)) ∧ w' = w := by
  go_enter Try.func54, Try.ntmps54
  go_wp2
  go_loopw [7, 0, 5] (fun i r s wr => ∃ j : Nat, j ≤ 8 ∧ i = .int .i64 j ∧ r = .int .u8 (t8s j a : Nat) ∧ s = .int .u8 (p8 j a b : Nat) ∧ wr = w) (fun i _ _ _ => 8 - (intOf i).toNat)
  case atStart => exact ⟨0, by omega, rfl, rfl, rfl, rfl⟩
  case round =>
    obtain ⟨j, hj, rfl, rfl, rfl, rfl⟩ := hrel
    by_cases hlt : j < 8
    · have HP := hid (p8_last j a b)
      have hq : b / 2 ^ j < 256 := Nat.lt_of_le_of_lt (Nat.div_le_self _ _) hb
      have HT := hid (t8s_succ j a)
      have hx := t8s_lt j a ha
      have hs := p8_lt j a b ha
      have ex := u8_xor_nat _ _ hs hx
      obtain ⟨e1, e2⟩ := bit8 b j hb
      generalize t8s j a = x at *
      generalize p8 j a b = s at *
      by_cases hc : b / 2 ^ j % 2 = 1
      · have e3 := e1 hc
        rw [if_pos hc] at HP
        clear e1 e2 hc
        go_wp2_with (go_at_call 63; refine (timesX8_ x _ hx).mono ?_; rintro e w2 ⟨rfl, hw⟩; obtain rfl := hw.symm)
        go_roundw
        case rel => exact ⟨j + 1, by omega, by go_num, by rw [HT.out], by rw [HP.out], trivial⟩
        case measure => simp [intOf]; omega
      · have e3 := e2 hc
        rw [if_neg hc, Nat.xor_zero] at HP
        clear e1 e2 hc ex
        go_wp2_with (go_at_call 63; refine (timesX8_ x _ hx).mono ?_; rintro e w2 ⟨rfl, hw⟩; obtain rfl := hw.symm)
        go_roundw
        case rel => exact ⟨j + 1, by omega, by go_num, by rw [HT.out], by rw [HP.out], trivial⟩
        case measure => simp [intOf]; omega
    · obtain rfl : j = 8 := by omega
      go_wp2
      go_ret
      exact ⟨rfl, rfl⟩

/-- k rounds of Inv8: the power, and the product of the powers. -/
def iv : Nat → Nat → Nat → Nat
  | 0, _, v => v
  | k + 1, a, v => iv k (mul8 a a) (mul8 v (mul8 a a))
set_option maxRecDepth 100000 in
theorem iv_ok : ∀ a, a < 256 → iv 7 a 1 = inv8 a := by decide +kernel

set_option maxHeartbeats 400000 in
theorem inv8_ (a : Nat) (w : World) (ha : a < 256) :
    Calls Try.prog 61 #[.int .u8 a] w fun e w' => e = .returned (.int .u8 (inv8 a)) ∧ w' = w := by
  have HE := hid (iv_ok a ha)
  go_enter Try.func61, Try.ntmps61
  go_wp2
  go_loopw [4, 0, 3] (fun i r s wr => ∃ j x v : Nat, j ≤ 7 ∧ i = .int .i64 j ∧ r = .int .u8 (x : Nat) ∧ s = .int .u8 (v : Nat) ∧ x < 256 ∧ v < 256 ∧ Hid (iv (7 - j) x v = iv 7 a 1) ∧ wr = w) (fun i _ _ _ => 7 - (intOf i).toNat)
  case atStart => exact ⟨0, a, 1, by omega, rfl, rfl, rfl, ha, by omega, rfl, rfl⟩
  case round =>
    obtain ⟨j, x, v, hj, rfl, rfl, rfl, hx, hv, HI, rfl⟩ := hrel
    by_cases hlt : j < 7
    · have HI2 : Hid (iv (7 - (j + 1)) (mul8 x x) (mul8 v (mul8 x x)) = iv 7 a 1) := by
        show _ = _
        rw [← HI.out, show 7 - j = (7 - (j + 1)) + 1 from by omega]
        rfl
      have hx2 : mul8 x x < 256 := mul8_lt hx
      have hv2 : mul8 v (mul8 x x) < 256 := mul8_lt hv
      have k1 := fun w => mul8_ x x w hx hx
      have k2 := fun w => mul8_ v (mul8 x x) w hv hx2
      generalize mul8 v (mul8 x x) = v2 at *
      generalize mul8 x x = x2 at *
      go_wp2_with fail
      refine (k1 _).mono ?_
      rintro e w2 ⟨rfl, rfl⟩
      go_wp2_with fail
      refine (k2 _).mono ?_
      rintro e w3 ⟨rfl, rfl⟩
      clear k1 k2
      go_wp2
      go_roundw
      case rel => exact ⟨j + 1, x2, v2, by omega, by go_num, rfl, rfl, hx2, hv2, HI2, trivial⟩
      case measure => simp [intOf]; omega
    · obtain rfl : j = 7 := by omega
      have HV : Hid (v = inv8 a) := by show _ = _; rw [← HE.out, ← HI.out]; rfl
      go_wp2
      go_ret
      exact ⟨ret_u8 HV.out, rfl⟩
end Go.Proofs.Ytgjamfnhkeoedaa
