import Derived.Test.YtmnmmkonkimjeaaGreatDoorCBase
import Derived.Test.YtmnmmkonkimjeaaGreatDoorRefD
namespace Go.Proofs.YtmnmmkonkimjeaaGreatDoor
open Go.RowKit
set_option linter.unusedVariables false
set_option maxRecDepth 100000

/-- Turned left by k places. -/
def rl (x k : Nat) : Nat := x * 2 ^ k % 256 ||| x / 2 ^ (8 - k)
theorem rl_lt {x : Nat} (k : Nat) (h : x < 256) : rl x k < 256 := Nat.or_lt_two_pow (n := 8) (by omega) (Nat.lt_of_le_of_lt (Nat.div_le_self _ _) h)
theorem or_rl {x : Nat} (h : x < 256) (k a b : Nat) (ha : 2 ^ k = a) (hb : 2 ^ (8 - k) = b) : bits .or .u8 ((x : Int) * (a : Int) % 256) ((x : Int) / (b : Int)) = ((rl x k : Nat) : Int) := by
  subst ha hb
  have := u8_or_nat (x * 2 ^ k % 256) (x / 2 ^ (8 - k)) (by omega) (Nat.lt_of_le_of_lt (Nat.div_le_self _ _) h)
  unfold rl
  rw [← this]
  congr 1
set_option maxHeartbeats 400000 in
theorem rot8_ (x k : Nat) (w : World) (hx : x < 256) (h1 : 1 ≤ k) (h4 : k ≤ 4) :
    Calls Tryz.prog 177 #[.int .u8 x, .int .i64 k] w fun e w' => e = .returned (.int .u8 (rl x k : Nat)) ∧ w' = w := by
  obtain rfl | rfl | rfl | rfl : k = 1 ∨ k = 2 ∨ k = 3 ∨ k = 4 := by omega
  · have HO := hid (or_rl hx 1 2 128 rfl rfl)
    have e : bits .and .u64 1 7 = 1 := by decide
    go_enter Tryz.func177, Tryz.ntmps177
    go_wp2_with fail
    go_ret
    exact ⟨by rw [← HO.out]; rfl, rfl⟩
  · have HO := hid (or_rl hx 2 4 64 rfl rfl)
    have e : bits .and .u64 2 7 = 2 := by decide
    go_enter Tryz.func177, Tryz.ntmps177
    go_wp2_with fail
    go_ret
    exact ⟨by rw [← HO.out]; rfl, rfl⟩
  · have HO := hid (or_rl hx 3 8 32 rfl rfl)
    have e : bits .and .u64 3 7 = 3 := by decide
    go_enter Tryz.func177, Tryz.ntmps177
    go_wp2_with fail
    go_ret
    exact ⟨by rw [← HO.out]; rfl, rfl⟩
  · have HO := hid (or_rl hx 4 16 16 rfl rfl)
    have e : bits .and .u64 4 7 = 4 := by decide
    go_enter Tryz.func177, Tryz.ntmps177
    go_wp2_with fail
    go_ret
    exact ⟨by rw [← HO.out]; rfl, rfl⟩
/-- The substitution, n turns of it. -/
def sac (v : Nat) : Nat → Nat
  | 0 => v ^^^ 99
  | n + 1 => sac v n ^^^ rl v (n + 1)
theorem sac_lt {v : Nat} (h : v < 256) : ∀ n, sac v n < 256
  | 0 => xor_lt8 h (by omega)
  | n + 1 => xor_lt8 (sac_lt h n) (rl_lt _ h)
set_option maxRecDepth 100000 in
theorem sac_ok : ∀ x, x < 256 → sac (inv8 x) 4 = sbx x := by decide +kernel
set_option maxRecDepth 100000 in
set_option maxHeartbeats 1000000 in
theorem sbox0_ (x : Nat) (w : World) (hx : x < 256) :
    Calls Tryz.prog 161 #[.int .u8 x] w fun e w' => e = .returned (.int .u8 (sbx x : Nat)) ∧ w' = w := by
  have HE := hid (sac_ok x hx)
  have k1 := fun w => inv8_ x w hx
  have hv : inv8 x < 256 := (inv8_ok x hx).1
  generalize inv8 x = v at *
  have H0 : Hid (bits .xor .u8 (v : Int) 99 = ((sac v 0 : Nat) : Int)) := u8_xor_nat v 99 hv (by omega)
  go_enter Tryz.func161, Tryz.ntmps161
  go_wp2_with fail
  refine (k1 _).mono ?_
  rintro e w2 ⟨rfl, rfl⟩
  clear k1
  go_wp2_with fail
  rw [H0.out]
  go_loopw [4, 5] (fun o i wr => ∃ j : Nat, j ≤ 4 ∧ i = .int .i64 ((j : Int) + 1) ∧ o = .int .u8 (sac v j : Nat) ∧ wr = w2) (fun _ i _ => 5 - (intOf i).toNat)
  case atStart => exact ⟨0, by omega, rfl, rfl, rfl⟩
  case round =>
    obtain ⟨j, hj, rfl, rfl, rfl⟩ := hrel
    by_cases hlt : j < 4
    · have HX : Hid (bits .xor .u8 (sac v j : Int) (rl v (j + 1) : Int) = ((sac v (j + 1) : Nat) : Int)) := u8_xor_nat _ _ (sac_lt hv j) (rl_lt _ hv)
      have k2 := fun w => rot8_ v (j + 1) w hv (by omega) (by omega)
      rw [show ((j + 1 : Nat) : Int) = (j : Int) + 1 from rfl] at k2
      generalize rl v (j + 1) = r at *
      go_wp2_with fail
      refine (k2 _).mono ?_
      rintro e w3 ⟨rfl, rfl⟩
      clear k2
      go_wp2_with fail
      go_roundw
      case rel => exact ⟨j + 1, by omega, by go_num, by rw [HX.out], trivial⟩
      case measure => simp [intOf]; omega
    · obtain rfl : j = 4 := by omega
      rw [HE.out]
      go_wp2_with fail
      go_ret
      exact ⟨rfl, rfl⟩
theorem sbox_ (x : Nat) (w : World) (hx : x < 256) :
    Calls Tryz.prog 161 #[.int .u8 x] w fun e w' => e = .returned (.int .u8 (sbx x : Nat)) ∧ Below w.heap.size w w' := by
  refine (sbox0_ x w hx).mono ?_
  rintro e w' ⟨rfl, rfl⟩
  exact ⟨rfl, Below.refl _ _⟩

theorem under256 : Tryz.prog.underlying 126 = some (.array 256 5) := by kernel_rfl
theorem size256 : (Tryz.prog.info? 126).map (·.size) = some 256 := by kernel_rfl
theorem zero256 : (Tryz.prog.info? 126).map (·.zero) = some (some (.agg (rw8 256 fun _ => 0))) := by kernel_rfl
set_option maxRecDepth 100000 in
set_option maxHeartbeats 1000000 in
theorem allSubs_ (w : World) :
    Calls Tryz.prog 110 #[] w fun e w' => e = .returned (.agg (rw8 256 sbx)) ∧ Below w.heap.size w w' := by
  go_enter Tryz.func110, Tryz.ntmps110
  go_wp2_with (refine wpList_al rfl _ rfl 256 (by exact zero256) ?_)
  obtain ⟨A0, A1, B0⟩ := rnew2 w 126 256 (fun _ => 0) 126 256 (fun _ => 0)
  generalize (w.alloc (.cells (rw8 256 fun _ => 0) 126)).alloc (.cells (rw8 256 fun _ => 0) 126) = w1 at *
  go_loopw [3] (fun i wr => ∃ j : Nat, j ≤ 256 ∧ i = .int .i64 j ∧ Rw wr w.heap.size 126 256 (fun _ => 0) ∧ Rw wr (w.heap.size + 1) 126 256 (mix j sbx fun _ => 0) ∧ Below w.heap.size w wr) (fun i _ => 256 - (intOf i).toNat)
  case atStart => exact ⟨0, by omega, rfl, A0, by rw [mix0]; exact A1, B0⟩
  case round =>
    obtain ⟨j, hj, rfl, a0, a1, b0⟩ := hrel
    clear A0 A1 B0
    by_cases hlt : j < 256
    · have c1 := a1.byte j hlt
      have f1 := a1.fz j
      have A1 := a1.step
      have A0 := a0.other (g' := w.heap.size + 1) (by omega) j (.int .u8 (sbx j : Nat))
      have B3 : Below w.heap.size w (wr.setCell ⟨w.heap.size + 1, j, none⟩ (.int .u8 (sbx j : Nat))) := b0.setCell (by show _ ≤ w.heap.size + 1; omega) _
      have k1 := fun w => sbox0_ j w hlt
      have e : (j : Int) % 256 = j := by omega
      clear a0 a1 b0
      generalize mix j sbx (fun _ => 0) j = o at *
      generalize sbx j = y at *
      go_wp2_with fail
      refine (k1 _).mono ?_
      rintro e w3 ⟨rfl, rfl⟩
      clear k1
      go_wp2_with fail
      go_roundw
      case rel => exact ⟨j + 1, by omega, by go_num, A0, A1, B3⟩
      case measure => simp [intOf]; omega
    · obtain rfl : j = 256 := by omega
      have a1 := a1.full
      go_wp2_with (first | (refine wpList_ldw rfl _ _ rfl _ rfl _ _ 256 _ (by exact a1) (by omega) _ (by exact under256) rfl (by exact size256) ?_) | (refine wpList_stm rfl rfl _ _ _ rfl w.heap.size 0 rfl 256 sbx rfl _ _ _ (by exact a0) (by omega) (by exact size256) ?_))
      refine bodyPost_ret (v := .agg (rw8 256 sbx)) ?_ rfl ⟨rfl, bel_cells (Nat.le_refl _) _ _ _ b0⟩
      exact results_rw rfl _ _ w.heap.size 256 sbx _ rfl (a0.whole _) under256 rfl size256
end Go.Proofs.YtmnmmkonkimjeaaGreatDoor
