import Derived.Test.YtejnknkehigkdaaFirst
namespace Go.Proofs.Ytejnknkehigkdaa
open Go.RowKit
set_option linter.unusedVariables false

set_option maxHeartbeats 1000000 in
theorem aesBoxTurns_ (x y : Nat) (w : World) (hx : x < 256) (hy : y < 256) :
    Calls Try.prog 7 #[.int .u8 x, .int .u8 y] w fun e w' => e = .returned (.bool true) ∧ Below w.heap.size w w' := by
  have k1 := fun w => sbox_ x w hx
  have k2 := fun w => sbox_ y w hy
  obtain ⟨ha, hback, hne, hnx⟩ := sbx_ok x hx
  clear hback
  have ex := u8x ha hx
  have HI : Hid (sbx x = sbx y ↔ x = y) := ⟨fun h => sbx_inj hx hy h, fun h => by rw [h]⟩
  have e3 : ((sbx x : Int) == (x : Int)) = false := by
    have : ¬ (sbx x : Int) = (x : Int) := by omega
    simpa using this
  have e4 : (((sbx x ^^^ x : Nat) : Int) == 255) = false := by
    have : ¬ ((sbx x ^^^ x : Nat) : Int) = 255 := by omega
    simpa using this
  have n3 : ¬ (sbx x : Int) = (x : Int) := by omega
  have n4 : ¬ ((sbx x ^^^ x : Nat) : Int) = 255 := by omega
  have e5 : ((sbx x : Int) != (x : Int)) = true := by simpa using n3
  have e6 : (((sbx x ^^^ x : Nat) : Int) != 255) = true := by simpa using n4
  clear ha hne hnx n3 n4 e3 e4
  generalize sbx x ^^^ x = d at *
  generalize sbx x = a at *
  generalize sbx y = b at *
  go_enter Try.func7, Try.ntmps7
  go_wp2_with fail
  refine (first_ _).mono ?_
  rintro e w1 ⟨rfl, B0⟩
  have S0 := B0.size
  go_wp2_with fail
  refine (k1 _).mono ?_
  rintro e w2 ⟨rfl, g⟩
  have B0 := bel_bel B0 S0 g
  have S0 := B0.size
  clear g
  go_wp2_with fail
  refine (k2 _).mono ?_
  rintro e w3 ⟨rfl, g⟩
  have B0 := bel_bel B0 S0 g
  clear k1 k2 g S0
  by_cases h : x = y
  · have e1 : ((x : Int) == (y : Int)) = true := by rw [h]; simp
    have e2 : ((a : Int) == (b : Int)) = true := by rw [HI.out.2 h]; simp
    clear h
    go_wp2_with fail
    go_ret
    exact ⟨rfl, B0⟩
  · have e1 : ((x : Int) == (y : Int)) = false := by
      have : ¬ (x : Int) = (y : Int) := by omega
      simpa using this
    have e2 : ((a : Int) == (b : Int)) = false := by
      have : ¬ a = b := fun e => h (HI.out.1 e)
      have : ¬ (a : Int) = (b : Int) := by omega
      simpa using this
    clear h
    go_wp2_with fail
    go_ret
    exact ⟨rfl, B0⟩
end Go.Proofs.Ytejnknkehigkdaa
