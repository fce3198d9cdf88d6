import Derived.Test.YtfgnllfgccbolaaDoorFirst
import Derived.Test.YtfgnllfgccbolaaDoorPlace
import Derived.Deep.RegionHeld
namespace Go.Proofs.YtfgnllfgccbolaaDoor
open Go.RowKit
set_option linter.unusedVariables false

theorem drawnA (w : World) : Drawn w w.drew := ⟨rfl, rfl, rfl, rfl⟩
theorem flp8 (z : Int) (j : Nat) (hz : 0 ≤ z ∧ z ≤ 255) (hj : j < 8) : bits .xor .u8 z ((2 ^ j : Nat) : Int) = ((z.toNat ^^^ 2 ^ j : Nat) : Int) := by
  have h8 : 2 ^ j < 2 ^ 8 := Nat.pow_lt_pow_right (by omega) hj
  rw [u8_xor z _ hz.1 (by omega) (Int.natCast_nonneg _) (Int.ofNat_lt.2 h8), Int.toNat_natCast]

set_option maxHeartbeats 400000 in
theorem turn_ (g n cap c k : Nat) (ys : List Int) (w : World) (hh : Head w g cap ys) (hl : ys.length = n) (hy : ∀ z ∈ ys, 0 ≤ z ∧ z ≤ 255) (hk : k < 8 * n) (hn : n ≤ 1000000) :
    Calls Tryd.prog 19 #[.slice (some ⟨g, 0, none⟩) n c, .int .i64 k] w fun e w' => e = .returned (.tuple #[]) ∧ Head w' g cap (flp ys k) ∧ ∀ B, B ≤ g → Below B w w' := by
  have hc := hh.cell (k / 8) (by omega)
  have hf := hh.unfrozen (k / 8)
  have HF := hid (flp8 (ys.getD (k / 8) 0) (k % 8) (getD_byte hy _) (Nat.mod_lt _ (by omega)))
  have HH := hid (hh.set (k / 8) (((ys.getD (k / 8) 0).toNat ^^^ 2 ^ (k % 8) : Nat) : Int))
  have HD : Hid (flp ys k = ys.set (k / 8) (((ys.getD (k / 8) 0).toNat ^^^ 2 ^ (k % 8) : Nat) : Int)) := rfl
  have d1 : (k : Int).tdiv 8 = ((k / 8 : Nat) : Int) := by rw [Int.tdiv_eq_ediv_of_nonneg (by omega)]; omega
  have d2 : (k : Int).tmod 8 = ((k % 8 : Nat) : Int) := by rw [Int.tmod_eq_emod_of_nonneg (by omega)]; omega
  have hq : ((k / 8 : Nat) : Int) < (n : Int) := by omega
  have hj : k % 8 < 8 := Nat.mod_lt _ (by omega)
  generalize k / 8 = q at *
  generalize k % 8 = j at *
  generalize ys.getD q 0 = z at *
  have HM : Hid ((2 : Int) ^ j % 256 = ((2 ^ j : Nat) : Int)) := by
    show _ = _
    have h8 : 2 ^ j < 2 ^ 8 := Nat.pow_lt_pow_right (by omega) hj
    rw [show (2 : Int) ^ j = ((2 ^ j : Nat) : Int) from by rw [Int.natCast_pow]; rfl]
    exact Int.emod_eq_of_lt (Int.natCast_nonneg _) (Int.ofNat_lt.2 h8)
  go_enter Tryd.func19, Tryd.ntmps19
  go_wp2_with fail
  go_region
  rw [HM.out, HF.out]
  go_end0
  exact ⟨rfl, by rw [HD.out]; exact HH.out.below (drawnA _).below, fun B hB => bel_draw ((Below.refl _ _).setCell hB _) (drawnA _)⟩
end Go.Proofs.YtfgnllfgccbolaaDoor
