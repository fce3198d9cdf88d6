import Derived.Test.YtjajcbjodokfnaaGreatDoorWW
namespace Go.Proofs.YtjajcbjodokfnaaGreatDoor
set_option maxRecDepth 100000
open Go.RowKit
set_option linter.unusedVariables false
set_option linter.unusedSimpArgs false

/-! The document's Pieces and Need, and the landed ones. -/
theorem refPieces_ (n : Int) (w : World) (hn : n ≤ 9223372036854775807) : Calls Tryz.prog 13 #[.int .i64 n] w fun e w' => e = .returned (.int .i64 (pcN n.toNat)) ∧ w' = w := by
  by_cases h : n < 1
  · have e0 : ((pcN n.toNat : Nat) : Int) = 0 := by unfold pcN; omega
    rw [e0]
    go_enter Tryz.func13, Tryz.ntmps13
    go_wp2_with fail
    go_ret
    exact ⟨rfl, rfl⟩
  · have e0 : ((pcN n.toNat : Nat) : Int) = (n - 1) / 480 + 1 := by unfold pcN; omega
    have e1 : (n - 1).tdiv 480 = (n - 1) / 480 := Int.tdiv_eq_ediv_of_nonneg (by omega)
    have e2 : 1 ≤ n := by omega
    have h1 : 0 ≤ (n - 1) / 480 := by omega
    have h2 : (n - 1) / 480 ≤ 19215358410114116 := by omega
    rw [e0]
    go_enter Tryz.func13, Tryz.ntmps13
    go_wp2_with fail
    go_ret
    exact ⟨rfl, rfl⟩
theorem refNeed_ (n : Int) (w : World) (hn : n ≤ 9223372036854775807) : Calls Tryz.prog 12 #[.int .i64 n] w fun e w' => e = .returned (.int .i64 (ned n.toNat)) ∧ w' = w := by
  by_cases h : n < 1
  · have e0 : ((ned n.toNat : Nat) : Int) = 0 := by unfold ned; rw [if_pos (by omega)]; rfl
    rw [e0]
    go_enter Tryz.func12, Tryz.ntmps12
    go_wp2_with fail
    go_ret
    exact ⟨rfl, rfl⟩
  by_cases hb : 4800 < n
  · have e0 : ((ned n.toNat : Nat) : Int) = 0 := by unfold ned; rw [if_pos (by omega)]; rfl
    rw [e0]
    go_enter Tryz.func12, Tryz.ntmps12
    go_wp2_with fail
    go_ret
    exact ⟨rfl, rfl⟩
  by_cases hs : n ≤ 480
  · have e0 : ((ned n.toNat : Nat) : Int) = 1 := by rw [ned_one (by omega) (by omega)]; rfl
    rw [e0]
    go_enter Tryz.func12, Tryz.ntmps12
    go_wp2_with fail
    go_ret
    exact ⟨rfl, rfl⟩
  · obtain ⟨k1, k2, k3⟩ := ned_more (n := n.toNat) (by omega) (by omega)
    have e0 : ((ned n.toNat : Nat) : Int) = (pcN n.toNat : Nat) + 1 := by rw [k1]; rfl
    have kp := refPieces_ n w hn
    obtain ⟨P, HP⟩ : ∃ P : Nat, Hid (pcN n.toNat = P) := ⟨_, rfl⟩
    rw [e0]
    rw [HP.out] at kp k3 ⊢
    clear k1 k2 e0
    go_enter Tryz.func12, Tryz.ntmps12
    go_wp2_with fail
    refine kp.mono ?_
    rintro e w' ⟨rfl, hw⟩
    obtain rfl := hw.symm
    go_wp2_with fail
    go_ret
    exact ⟨rfl, rfl⟩
theorem pieces0_ (n : Int) (w : World) (hn : n ≤ 9223372036854775807) : Calls Tryz.prog 11 #[.int .i64 n] w fun e w' => e = .returned (.int .i64 (pcN n.toNat)) ∧ w' = w := by
  by_cases h : n < 1
  · have e0 : ((pcN n.toNat : Nat) : Int) = 0 := by unfold pcN; omega
    rw [e0]
    go_enter Tryz.func11, Tryz.ntmps11
    go_wp2_with fail
    go_ret
    exact ⟨rfl, rfl⟩
  · have e0 : ((pcN n.toNat : Nat) : Int) = (n - 1) / 480 + 1 := by unfold pcN; omega
    have e1 : (n - 1).tdiv 480 = (n - 1) / 480 := Int.tdiv_eq_ediv_of_nonneg (by omega)
    have e2 : 1 ≤ n := by omega
    have h1 : 0 ≤ (n - 1) / 480 := by omega
    have h2 : (n - 1) / 480 ≤ 19215358410114116 := by omega
    rw [e0]
    go_enter Tryz.func11, Tryz.ntmps11
    go_wp2_with fail
    go_ret
    exact ⟨rfl, rfl⟩
theorem need0_ (n : Int) (w : World) (hn : n ≤ 9223372036854775807) : Calls Tryz.prog 10 #[.int .i64 n] w fun e w' => e = .returned (.int .i64 (ned n.toNat)) ∧ w' = w := by
  by_cases h : n < 1
  · have e0 : ((ned n.toNat : Nat) : Int) = 0 := by unfold ned; rw [if_pos (by omega)]; rfl
    rw [e0]
    go_enter Tryz.func10, Tryz.ntmps10
    go_wp2_with fail
    go_ret
    exact ⟨rfl, rfl⟩
  by_cases hb : 4800 < n
  · have e0 : ((ned n.toNat : Nat) : Int) = 0 := by unfold ned; rw [if_pos (by omega)]; rfl
    rw [e0]
    go_enter Tryz.func10, Tryz.ntmps10
    go_wp2_with fail
    go_ret
    exact ⟨rfl, rfl⟩
  by_cases hs : n ≤ 480
  · have e0 : ((ned n.toNat : Nat) : Int) = 1 := by rw [ned_one (by omega) (by omega)]; rfl
    rw [e0]
    go_enter Tryz.func10, Tryz.ntmps10
    go_wp2_with fail
    go_ret
    exact ⟨rfl, rfl⟩
  · obtain ⟨k1, k2, k3⟩ := ned_more (n := n.toNat) (by omega) (by omega)
    have e0 : ((ned n.toNat : Nat) : Int) = (pcN n.toNat : Nat) + 1 := by rw [k1]; rfl
    have kp := pieces0_ n w hn
    obtain ⟨P, HP⟩ : ∃ P : Nat, Hid (pcN n.toNat = P) := ⟨_, rfl⟩
    rw [e0]
    rw [HP.out] at kp k3 ⊢
    clear k1 k2 e0
    go_enter Tryz.func10, Tryz.ntmps10
    go_wp2_with fail
    refine kp.mono ?_
    rintro e w' ⟨rfl, hw⟩
    obtain rfl := hw.symm
    go_wp2_with fail
    go_ret
    exact ⟨rfl, rfl⟩
/-- A number that goes on where nothing was refused. -/
def inc (E : Int) (x k : Nat) : Nat := if E = 0 then x + k else x
theorem inc_y (x k : Nat) : inc 0 x k = x + k := rfl
theorem inc_n {E : Int} (h : E ≠ 0) (x k : Nat) : inc E x k = x := if_neg h
end Go.Proofs.YtjajcbjodokfnaaGreatDoor
