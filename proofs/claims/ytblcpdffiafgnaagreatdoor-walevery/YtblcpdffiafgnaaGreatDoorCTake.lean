import Derived.Test.YtblcpdffiafgnaaGreatDoorCTab
namespace Go.Proofs.YtblcpdffiafgnaaGreatDoor
set_option maxRecDepth 100000
open Go.RowKit
set_option linter.unusedVariables false

theorem half (s : Nat) (hs : s < 4294967296) : bits .xor .u32 ((s : Int) / 16) (tab.getD (s % 16) 0) = ((stps 4 s : Nat) : Int) ∧ bits .and .u32 (s : Int) 15 = ((s % 16 : Nat) : Int) := by
  constructor
  · have ht := tab_ok (s % 16) (Nat.mod_lt _ (by omega))
    rw [← ht, show (s : Int) / 16 = ((s / 16 : Nat) : Int) from by omega, u32_xor_nat _ _ (by omega) (stps_lt 4 (by omega)), stps4 s, ← ht, Int.toNat_natCast]
  · have := u32_and_nat s 15 hs (by omega)
    rw [show s &&& 15 = s % 16 from Nat.and_two_pow_sub_one_eq_mod s 4] at this
    exact this

theorem ret_u32 {a b : Nat} (h : a = b) : Ending.returned (.int .u32 (a : Int)) = .returned (.int .u32 b) := by rw [h]
theorem max32 : IntKind.u32.max = 4294967295 := by decide
theorem unsigned32 : IntKind.u32.signed = false := rfl
set_option maxHeartbeats 400000 in
theorem takeIn_ (r : Nat) (x : Int) (w : World) (hT : Tab w) (hr : r < 4294967296) (h0 : 0 ≤ x) (h1 : x ≤ 255) :
    Calls Tryz.prog 120 #[.int .u32 r, .int .u8 x] w fun e w' => e = .returned (.int .u32 (tk r x)) ∧ w' = w := by
  have e1 : bits .xor .u32 (r : Int) x = ((r ^^^ x.toNat : Nat) : Int) := by
    rw [u32_xor _ _ (by omega) (by omega) h0 (by omega), Int.toNat_natCast]
  have hs : r ^^^ x.toNat < 4294967296 := xor_lt32 hr (by omega)
  have HT : Hid (tk r x = stps 4 (stps 4 (r ^^^ x.toNat))) := by show _ = _; rw [← stps_add]; rfl
  generalize r ^^^ x.toNat = s at *
  have ht : stps 4 s < 4294967296 := stps_lt 4 hs
  obtain ⟨e2, e3⟩ := half s hs
  obtain ⟨e4, e5⟩ := half (stps 4 s) ht
  have c1 := hT.2 (s % 16) (Nat.mod_lt _ (by omega))
  have c2 := hT.2 (stps 4 s % 16) (Nat.mod_lt _ (by omega))
  have m1 : s % 16 < 16 := Nat.mod_lt _ (by omega)
  have m2 : stps 4 s % 16 < 16 := Nat.mod_lt _ (by omega)
  clear hT
  generalize tab.getD (s % 16) 0 = t1 at *
  generalize tab.getD (stps 4 s % 16) 0 = t2 at *
  generalize s % 16 = k1 at *
  generalize stps 4 s % 16 = k2 at *
  generalize stps 4 s = q at *
  go_enter Tryz.func120, Tryz.ntmps120
  go_wp2
  go_ret
  exact ⟨ret_u32 HT.out.symm, rfl⟩

theorem not32 (c : Nat) (hc : c < 4294967296) : bits .xor .u32 4294967295 (c : Int) = ((c ^^^ 4294967295 : Nat) : Int) ∧ bits .xor .u32 (c : Int) 4294967295 = ((c ^^^ 4294967295 : Nat) : Int) := by
  have h1 := u32_xor_nat 4294967295 c (by omega) hc
  have h2 := u32_xor_nat c 4294967295 hc (by omega)
  rw [Nat.xor_comm] at h1
  exact ⟨h1, h2⟩

set_option maxHeartbeats 400000 in
theorem update_ (c : Nat) (a : Option Addr) (n cap : Nat) (zs : List Int) (w : World) (hT : Tab w) (hb : Bs w a n zs) (hc : c < 4294967296) (hn : n ≤ maxLen) :
    Calls Tryz.prog 99 #[.int .u32 c, .slice a n cap] w fun e w' => e = .returned (.int .u32 (updc c zs)) ∧ w' = w := by
  unfold maxLen at hn
  have e1 : bits .xor .u32 IntKind.u32.max (c : Int) = ((c ^^^ 4294967295 : Nat) : Int) := by rw [max32]; exact (not32 c hc).1
  have sg := unsigned32
  have H0 : c ^^^ 4294967295 < 4294967296 := xor_lt32 hc (by omega)
  have HU : Hid (updc c zs = upd (c ^^^ 4294967295) zs ^^^ 4294967295) := rfl
  generalize c ^^^ 4294967295 = r0 at *
  go_enter Tryz.func99, Tryz.ntmps99
  go_wp2
  clear e1
  go_loopw [12, 5] (fun i r wr => ∃ k : Nat, k ≤ n ∧ i = .int .i64 k ∧ r = .int .u32 (upd r0 (zs.take k)) ∧ wr = w) (fun i _ _ => n - (intOf i).toNat)
  case atStart => exact ⟨0, by omega, rfl, rfl, rfl⟩
  case round =>
    obtain ⟨k, hk, rfl, rfl, rfl⟩ := hrel
    have hl := upd_lt (zs.take k) H0 fun z hz => hb.2.1 z (List.mem_of_mem_take hz)
    by_cases hlt : k < n
    · obtain ⟨e1, e2, e3⟩ := hb
      rcases e3 with e3 | ⟨b, off, rfl, hcl⟩
      · omega
      have hck := hcl k hlt
      have hz := getD_byte e2 k
      have HS := hid (upd_take r0 zs k (by omega))
      clear hcl e2
      generalize zs.getD k 0 = z at *
      generalize upd r0 (zs.take k) = r at *
      go_wp2_with (go_at_call 120; refine (takeIn_ r z _ hT hl hz.1 hz.2).mono ?_; rintro e w1 ⟨rfl, hw⟩; obtain rfl := hw.symm)
      go_roundw
      case rel => exact ⟨k + 1, by omega, by go_num, by rw [HS.out], trivial⟩
      case measure => simp [intOf]; omega
    · obtain rfl : k = n := by omega
      rw [List.take_of_length_le (by rw [hb.1]; exact Nat.le_refl _)] at hl ⊢
      have e1 : bits .xor .u32 IntKind.u32.max ((upd r0 zs : Nat) : Int) = ((upd r0 zs ^^^ 4294967295 : Nat) : Int) := by rw [max32]; exact (not32 _ hl).1
      clear hb hl
      generalize upd r0 zs = r at *
      go_wp2
      go_ret
      exact ⟨ret_u32 HU.out.symm, rfl⟩

set_option maxHeartbeats 400000 in
theorem sum_ (a : Option Addr) (n cap : Nat) (zs : List Int) (w : World) (hT : Tab w) (hb : Bs w a n zs) (hn : n ≤ maxLen) :
    Calls Tryz.prog 71 #[.slice a n cap] w fun e w' => e = .returned (.int .u32 (updc 0 zs)) ∧ w' = w := by
  go_enter Tryz.func71, Tryz.ntmps71
  go_wp2_with (go_at_call 99; refine (update_ 0 a n cap zs _ hT hb (by omega) hn).mono ?_; rintro e w1 ⟨rfl, hw⟩; obtain rfl := hw.symm)
  go_ret
  exact ⟨rfl, rfl⟩
end Go.Proofs.YtblcpdffiafgnaaGreatDoor
