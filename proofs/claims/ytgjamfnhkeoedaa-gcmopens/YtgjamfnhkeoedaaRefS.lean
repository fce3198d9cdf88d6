import Derived.Test.YtgjamfnhkeoedaaRefE
import Derived.Test.YtgjamfnhkeoedaaAes
namespace Go.Proofs.Ytgjamfnhkeoedaa
open Go.RowKit
set_option linter.unusedVariables false

theorem castdiv (v m : Nat) : (v : Int) / 2 ^ m = ((v / 2 ^ m : Nat) : Int) := by rw [Int.natCast_ediv, Int.natCast_pow]; rfl
theorem div_lt8 {v : Nat} (h : v < 256) (m : Nat) : v / 2 ^ m < 256 := Nat.lt_of_le_of_lt (Nat.div_le_self _ _) h
theorem sbit_lt {v : Nat} (h : v < 256) (i : Nat) : sbit v i < 256 :=
  xor_lt8 (xor_lt8 (xor_lt8 (xor_lt8 (xor_lt8 (div_lt8 h _) (div_lt8 h _)) (div_lt8 h _)) (div_lt8 h _)) (div_lt8 h _)) (div_lt8 (by omega) _)
theorem xor5 {v : Nat} (h : v < 256) (i : Nat) : bits .xor .u8 (bits .xor .u8 (bits .xor .u8 (bits .xor .u8 (bits .xor .u8 ((v : Int) / 2 ^ i) ((v : Int) / 2 ^ ((i + 4) % 8))) ((v : Int) / 2 ^ ((i + 5) % 8))) ((v : Int) / 2 ^ ((i + 6) % 8))) ((v : Int) / 2 ^ ((i + 7) % 8))) (99 / 2 ^ i) = ((sbit v i : Nat) : Int) := by
  have h99 : (99 : Int) / 2 ^ i = ((99 / 2 ^ i : Nat) : Int) := castdiv 99 i
  have d := div_lt8 h
  rw [h99, castdiv, castdiv, castdiv, castdiv, castdiv, u8_xor_nat _ _ (d _) (d _), u8_xor_nat _ _ (xor_lt8 (d _) (d _)) (d _), u8_xor_nat _ _ (xor_lt8 (xor_lt8 (d _) (d _)) (d _)) (d _), u8_xor_nat _ _ (xor_lt8 (xor_lt8 (xor_lt8 (d _) (d _)) (d _)) (d _)) (d _), u8_xor_nat _ _ (xor_lt8 (xor_lt8 (xor_lt8 (xor_lt8 (d _) (d _)) (d _)) (d _)) (d _)) (div_lt8 (by omega) _)]
  rfl
theorem sgo_lt {v : Nat} : ∀ i, i ≤ 8 → sgo v i < 256
  | 0, _ => by rw [sgo]; omega
  | i + 1, h => by
    rw [sgo]
    refine Nat.or_lt_two_pow (n := 8) (sgo_lt i (by omega)) ?_
    have h1 : 2 ^ i ≤ 2 ^ 7 := Nat.pow_le_pow_right (by omega) (by omega)
    have h2 := Nat.mul_le_mul (show sbit v i % 2 ≤ 1 by omega) h1
    omega
theorem or_spell (s q i : Nat) (hs : s < 256) (hq : q < 256) (hi : i < 8) : bits .or .u8 (s : Int) (bits .and .u8 (q : Int) 1 * 2 ^ i % 256) = ((s ||| q % 2 * 2 ^ i : Nat) : Int) := by
  have ha := u8_and_nat q 1 hq (by omega)
  rw [show q &&& 1 = q % 2 from Nat.and_two_pow_sub_one_eq_mod q 1] at ha
  have h1 : 2 ^ i ≤ 2 ^ 7 := Nat.pow_le_pow_right (by omega) (by omega)
  have h2 := Nat.mul_le_mul (show q % 2 ≤ 1 by omega) h1
  have e : bits .and .u8 (q : Int) 1 * 2 ^ i % 256 = ((q % 2 * 2 ^ i : Nat) : Int) := by
    rw [show (1 : Int) = ((1 : Nat) : Int) from rfl, ha, show (2 : Int) ^ i = ((2 ^ i : Nat) : Int) from by rw [Int.natCast_pow]; rfl, ← Int.natCast_mul]
    omega
  rw [e]
  exact u8_or_nat _ _ hs (by omega)

set_option maxRecDepth 100000 in
set_option maxHeartbeats 1000000 in
theorem refSBox_ (x : Nat) (w : World) (hx : x < 256) :
    Calls Try.prog 31 #[.int .u8 x] w fun e w' => e = .returned (.int .u8 (sbx x)) ∧ w' = w := by
  have HE := hid (sgo_ok x hx)
  have k1 := fun w => refInv8_ x w hx
  have hv : inv8 x < 256 := (inv8_ok x hx).1
  generalize inv8 x = v at *
  go_enter Try.func31, Try.ntmps31
  go_wp2_with fail
  refine (k1 _).mono ?_
  rintro e w2 ⟨rfl, rfl⟩
  clear k1
  go_wp2_with fail
  go_loopw [5, 4] (fun i o wr => ∃ j : Nat, j ≤ 8 ∧ i = .int .i64 j ∧ o = .int .u8 (sgo v j : Nat) ∧ wr = w2) (fun i _ _ => 8 - (intOf i).toNat)
  case atStart => exact ⟨0, by omega, rfl, rfl, rfl⟩
  case round =>
    obtain ⟨j, hj, rfl, rfl, rfl⟩ := hrel
    by_cases hlt : j < 8
    · have H5 := hid (xor5 hv j)
      have HO := hid (or_spell (sgo v j) (sbit v j) j (sgo_lt j hj) (sbit_lt hv j) hlt)
      have HN : Hid (sgo v (j + 1) = sgo v j ||| sbit v j % 2 * 2 ^ j) := rfl
      go_wp2_with fail
      go_roundw
      case rel => exact ⟨j + 1, by omega, by go_num, by rw [H5.out, HO.out, HN.out], trivial⟩
      case measure => simp [intOf]; omega
    · obtain rfl : j = 8 := by omega
      rw [HE.out]
      go_wp2_with fail
      go_ret
      exact ⟨rfl, rfl⟩
end Go.Proofs.Ytgjamfnhkeoedaa
