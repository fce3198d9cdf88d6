import Derived.Test.YtfgnllfgccbolaaDoorTake
namespace Go.Proofs.YtfgnllfgccbolaaDoor
open Go.RowKit
set_option linter.unusedVariables false

set_option maxHeartbeats 400000 in
theorem refStep_ (r : Nat) (w : World) (hr : r < 4294967296) :
    Calls Tryd.prog 21 #[.int .u32 r] w fun e w' => e = .returned (.int .u32 (stp r)) ∧ w' = w := by
  have e1 : bits .and .u32 (r : Int) 1 = ((r % 2 : Nat) : Int) := by
    have := u32_and_nat r 1 hr (by omega)
    rw [show r &&& 1 = r % 2 from Nat.and_two_pow_sub_one_eq_mod r 1] at this
    exact this
  have e2 : bits .xor .u32 ((r : Int) / 2) 2197175160 = ((r / 2 ^^^ 2197175160 : Nat) : Int) := by
    rw [show (r : Int) / 2 = ((r / 2 : Nat) : Int) from by omega]
    exact u32_xor_nat (r / 2) 2197175160 (by omega) (by omega)
  by_cases h : r % 2 = 1
  · have HS : Hid (stp r = r / 2 ^^^ 2197175160) := by show _ = _; unfold stp; rw [if_pos h]
    have e3 : bits .and .u32 (r : Int) 1 = 1 := by rw [e1, h]; rfl
    clear h e1
    go_enter Tryd.func21, Tryd.ntmps21
    go_wp2
    go_ret
    exact ⟨ret_u32 HS.out.symm, rfl⟩
  · have HS : Hid (stp r = r / 2) := by show _ = _; unfold stp; rw [if_neg h]
    have e3 : bits .and .u32 (r : Int) 1 = 0 := by rw [e1, show r % 2 = 0 from by omega]; rfl
    clear h e1 e2
    go_enter Tryd.func21, Tryd.ntmps21
    go_wp2
    go_ret
    refine ⟨?_, rfl⟩
    rw [HS.out]
    rfl

set_option maxHeartbeats 400000 in
theorem refUpdate_ (c : Nat) (a : Option Addr) (n cap : Nat) (zs : List Int) (w : World) (hb : Bs w a n zs) (hc : c < 4294967296) (hn : n ≤ 1000000) :
    Calls Tryd.prog 15 #[.int .u32 c, .slice a n cap] w fun e w' => e = .returned (.int .u32 (updc c zs)) ∧ w' = w := by
  have e1 := (not32 c hc).2
  have H0 : c ^^^ 4294967295 < 4294967296 := xor_lt32 hc (by omega)
  have HU : Hid (updc c zs = upd (c ^^^ 4294967295) zs ^^^ 4294967295) := rfl
  generalize c ^^^ 4294967295 = r0 at *
  go_enter Tryd.func15, Tryd.ntmps15
  go_wp2
  clear e1
  go_loopw [6, 5] (fun i r wr => ∃ k : Nat, k ≤ n ∧ i = .int .i64 k ∧ r = .int .u32 (upd r0 (zs.take k)) ∧ wr = w) (fun i _ _ => n - (intOf i).toNat)
  case atStart => exact ⟨0, by omega, rfl, rfl, rfl⟩
  case round =>
    obtain ⟨k, hk, rfl, rfl, rfl⟩ := hrel
    have hl := upd_lt (zs.take k) H0 fun z hz => hb.2.1 z (List.mem_of_mem_take hz)
    by_cases hlt : k < n
    · obtain ⟨e1, e2, e3⟩ := hb
      rcases e3 with e3 | ⟨b, off, rfl, hcl⟩
      · omega
      have hck := hcl k hlt
      have hz := getD_byte e2 k
      have HS := hid (upd_take r0 zs k (by omega))
      clear hcl e2
      generalize zs.getD k 0 = z at *
      generalize upd r0 (zs.take k) = r at *
      have e4 : bits .xor .u32 (r : Int) z = ((r ^^^ z.toNat : Nat) : Int) := by
        rw [u32_xor _ _ (by omega) (by omega) hz.1 (by omega), Int.toNat_natCast]
      have hs : r ^^^ z.toNat < 4294967296 := xor_lt32 hl (by omega)
      have HK : Hid (tk r z = stps 8 (r ^^^ z.toNat)) := rfl
      generalize r ^^^ z.toNat = s at *
      clear hl
      go_wp2
      clear e4
      obtain ⟨wq, rfl⟩ : ∃ wq, wq = wr := ⟨_, rfl⟩
      go_loopw [7, 5] (fun i r wr => ∃ j : Nat, j ≤ 8 ∧ i = .int .i64 j ∧ r = .int .u32 (stps j s) ∧ wr = wq) (fun i _ _ => 8 - (intOf i).toNat)
      case atStart => exact ⟨0, by omega, rfl, rfl, rfl⟩
      case round =>
        obtain ⟨j, hj, rfl, rfl, rfl⟩ := hrel
        have hq : stps j s < 4294967296 := stps_lt j hs
        have HJ : Hid (stps (j + 1) s = stp (stps j s)) := by show _ = _; rw [stps_add]; rfl
        by_cases hj8 : j < 8
        · generalize stps j s = q at *
          go_wp2_with (go_at_call 21; refine (refStep_ q _ hq).mono ?_; rintro e w1 ⟨rfl, hw⟩; obtain rfl := hw.symm)
          go_roundw
          case rel => exact ⟨j + 1, by omega, by go_num, by rw [HJ.out], trivial⟩
          case measure => simp [intOf]; omega
        · obtain rfl : j = 8 := by omega
          rw [← HK.out, ← HS.out]
          go_wp2
          go_roundw
          case rel => exact ⟨k + 1, by omega, by go_num, rfl, trivial⟩
          case measure => simp [intOf]; omega
    · obtain rfl : k = n := by omega
      rw [List.take_of_length_le (by rw [hb.1]; exact Nat.le_refl _)] at hl ⊢
      have e1 := (not32 _ hl).2
      clear hb hl
      generalize upd r0 zs = r at *
      go_wp2
      go_ret
      exact ⟨ret_u32 HU.out.symm, rfl⟩

set_option maxHeartbeats 400000 in
theorem refSum_ (a : Option Addr) (n cap : Nat) (zs : List Int) (w : World) (hb : Bs w a n zs) (hn : n ≤ 1000000) :
    Calls Tryd.prog 12 #[.slice a n cap] w fun e w' => e = .returned (.int .u32 (updc 0 zs)) ∧ w' = w := by
  go_enter Tryd.func12, Tryd.ntmps12
  go_wp2_with (go_at_call 15; refine (refUpdate_ 0 a n cap zs _ hb (by omega) hn).mono ?_; rintro e w1 ⟨rfl, hw⟩; obtain rfl := hw.symm)
  go_ret
  exact ⟨rfl, rfl⟩
end Go.Proofs.YtfgnllfgccbolaaDoor
