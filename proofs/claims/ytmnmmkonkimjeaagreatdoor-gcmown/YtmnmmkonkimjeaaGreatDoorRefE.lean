import Derived.Test.YtmnmmkonkimjeaaGreatDoorMul
namespace Go.Proofs.YtmnmmkonkimjeaaGreatDoor
open Go.RowKit
set_option linter.unusedVariables false
set_option maxRecDepth 100000

theorem clp_lt {a b : Nat} (ha : a < 256) : ∀ i, i ≤ 8 → clp a b i < 65536
  | 0, _ => by rw [clp]; omega
  | i + 1, h => by
    have h1 := clp_lt (b := b) ha i (by omega)
    rw [clp]
    split
    · refine Nat.xor_lt_two_pow (n := 16) h1 ?_
      have : 2 ^ i ≤ 2 ^ 8 := Nat.pow_le_pow_right (by omega) (by omega)
      have := Nat.mul_le_mul (show a ≤ 255 by omega) this
      omega
    · exact h1
theorem rdp_lt {p : Nat} (hp : p < 65536) : ∀ k, rdp p k < 65536
  | 0 => hp
  | k + 1 => by
    have h1 := rdp_lt hp k
    rw [rdp]
    split
    · refine Nat.xor_lt_two_pow (n := 16) h1 ?_
      have : 2 ^ (6 - k) ≤ 2 ^ 6 := Nat.pow_le_pow_right (by omega) (by omega)
      have := Nat.mul_le_mul (Nat.le_refl 283) this
      omega
    · exact h1

theorem xor64 (s q : Nat) (hs : s < 65536) (hq : q < 65536) : bits .xor .u64 (s : Int) (IntKind.u64.wrap ((q : Nat) : Int)) = ((s ^^^ q : Nat) : Int) := by
  have e : IntKind.u64.wrap ((q : Nat) : Int) = ((q : Nat) : Int) := by simp [IntKind.wrap, IntKind.bits, IntKind.signed]; omega
  rw [e]
  exact u64_xor_nat s q (by omega) (by omega)
theorem xor_shl (s a j : Nat) (hs : s < 65536) (ha : a < 256) (hj : j < 8) : bits .xor .u64 (s : Int) (IntKind.u64.wrap ((a : Int) * 2 ^ j)) = ((s ^^^ a * 2 ^ j : Nat) : Int) := by
  have h1 : 2 ^ j ≤ 2 ^ 7 := Nat.pow_le_pow_right (by omega) (by omega)
  have h2 := Nat.mul_le_mul (show a ≤ 255 by omega) h1
  have := xor64 s (a * 2 ^ j) hs (by omega)
  rwa [Int.natCast_mul, Int.natCast_pow] at this

theorem xor_shl2 (s j : Nat) (hs : s < 65536) (hj : j < 7) : bits .xor .u64 (s : Int) (IntKind.u64.wrap (283 * 2 ^ j)) = ((s ^^^ 283 * 2 ^ j : Nat) : Int) := by
  have h1 : 2 ^ j ≤ 2 ^ 6 := Nat.pow_le_pow_right (by omega) (by omega)
  have h2 := Nat.mul_le_mul (Nat.le_refl 283) h1
  have := xor64 s (283 * 2 ^ j) hs (by omega)
  rwa [Int.natCast_mul, Int.natCast_pow] at this
theorem bit64 (s m : Nat) (h : s < 65536) : (s / 2 ^ m % 2 = 1 → bits .and .u64 ((s : Int) / 2 ^ m) 1 = 1) ∧ (¬ s / 2 ^ m % 2 = 1 → bits .and .u64 ((s : Int) / 2 ^ m) 1 = 0) := by
  have hl : s / 2 ^ m < 65536 := Nat.lt_of_le_of_lt (Nat.div_le_self _ _) h
  have := u64_and_nat (s / 2 ^ m) 1 (by omega) (by omega)
  rw [show s / 2 ^ m &&& 1 = s / 2 ^ m % 2 from Nat.and_two_pow_sub_one_eq_mod _ 1, Int.natCast_ediv, Int.natCast_pow] at this
  have e : bits .and .u64 ((s : Int) / 2 ^ m) 1 = ((s / 2 ^ m % 2 : Nat) : Int) := this
  exact ⟨fun h1 => by rw [e, h1]; rfl, fun h0 => by rw [e, show s / 2 ^ m % 2 = 0 from by omega]; rfl⟩

set_option maxHeartbeats 400000 in
theorem refMul8_ (a b : Nat) (w : World) (ha : a < 256) (hb : b < 256) :
    Calls Tryz.prog 88 #[.int .u8 a, .int .u8 b] w fun e w' => e = .returned (.int .u8 (mul8 a b)) ∧ w' = w := by
  go_enter Tryz.func88, Tryz.ntmps88
  go_wp2
  go_loopw [7, 6] (fun i s wr => ∃ j : Nat, j ≤ 8 ∧ i = .int .i64 j ∧ s = .int .u64 (clp a b j : Nat) ∧ wr = w) (fun i _ _ => 8 - (intOf i).toNat)
  case atStart => exact ⟨0, by omega, rfl, rfl, rfl⟩
  case round =>
    obtain ⟨j, hj, rfl, rfl, rfl⟩ := hrel
    by_cases hlt : j < 8
    · obtain ⟨e1, e2⟩ := bit8 b j hb
      have hs := clp_lt (b := b) ha j (by omega)
      have HN : Hid (clp a b (j + 1) = if b / 2 ^ j % 2 = 1 then clp a b j ^^^ a * 2 ^ j else clp a b j) := rfl
      have HX := hid (xor_shl (clp a b j) a j hs ha hlt)
      generalize clp a b j = s at *
      by_cases hc : b / 2 ^ j % 2 = 1
      · have e3 := e1 hc
        rw [if_pos hc] at HN
        clear e1 e2 hc
        go_wp2
        go_roundw
        case rel => exact ⟨j + 1, by omega, by go_num, by rw [HX.out, HN.out], trivial⟩
        case measure => simp [intOf]; omega
      · have e3 := e2 hc
        rw [if_neg hc] at HN
        clear e1 e2 hc
        go_wp2
        go_roundw
        case rel => exact ⟨j + 1, by omega, by go_num, by rw [HN.out], trivial⟩
        case measure => simp [intOf]; omega
    · have hge : ¬ (j : Int) < 8 := by omega
      have HE : Hid (rdp (clp a b j) 7 = mul8 a b) := by show _ = _; rw [show j = 8 from by omega]; exact ref8 ha
      have hP := clp_lt (b := b) ha j hj
      have hm : mul8 a b < 256 := mul8_lt ha
      generalize clp a b j = P at *
      obtain ⟨M, HMM⟩ : ∃ M, Hid (mul8 a b = M) := ⟨_, rfl⟩
      rw [HMM.out] at HE hm
      clear hj hlt
      obtain ⟨wq, rfl⟩ : ∃ wq, wq = wr := ⟨_, rfl⟩
      go_wp2
      go_loopw [8, 6] (fun i s wr => ∃ m : Nat, 7 ≤ m ∧ m ≤ 14 ∧ i = .int .i64 m ∧ s = .int .u64 (rdp P (14 - m) : Nat) ∧ wr = wq) (fun i _ _ => (intOf i).toNat)
      case atStart => exact ⟨14, by omega, by omega, rfl, rfl, rfl⟩
      case round =>
        obtain ⟨m, hm1, hm2, rfl, rfl, rfl⟩ := hrel
        by_cases hlt : 8 ≤ m
        · have hs := rdp_lt hP (14 - m)
          have HN : Hid (rdp P (14 - (m - 1)) = if rdp P (14 - m) / 2 ^ m % 2 = 1 then rdp P (14 - m) ^^^ 283 * 2 ^ (m - 8) else rdp P (14 - m)) := by
            show _ = _
            rw [show 14 - (m - 1) = (14 - m) + 1 from by omega, rdp, show 14 - (14 - m) = m from by omega, show 6 - (14 - m) = m - 8 from by omega]
          obtain ⟨e1, e2⟩ := bit64 (rdp P (14 - m)) m hs
          have HX := hid (xor_shl2 (rdp P (14 - m)) (m - 8) hs (by omega))
          generalize rdp P (14 - m) = s at *
          by_cases hc : s / 2 ^ m % 2 = 1
          · have e3 := e1 hc
            rw [if_pos hc] at HN
            clear e1 e2 hc
            go_wp2
            go_roundw
            case rel => exact ⟨m - 1, by omega, by omega, by go_num, by rw [HX.out, HN.out], trivial⟩
            case measure => simp [intOf]; omega
          · have e3 := e2 hc
            rw [if_neg hc] at HN
            clear e1 e2 hc
            go_wp2
            go_roundw
            case rel => exact ⟨m - 1, by omega, by omega, by go_num, by rw [HN.out], trivial⟩
            case measure => simp [intOf]; omega
        · obtain rfl : m = 7 := by omega
          rw [show 14 - 7 = 7 from rfl, HE.out]
          have HM : Hid ((M : Int) % 256 = (M : Int)) := by show _ = _; omega
          go_wp2
          go_ret
          exact ⟨by rw [HMM.out]; first | rfl | exact ret_i8 HM.out, rfl⟩

set_option maxRecDepth 100000 in
set_option maxHeartbeats 400000 in
theorem refInv8_ (a : Nat) (w : World) (ha : a < 256) :
    Calls Tryz.prog 150 #[.int .u8 a] w fun e w' => e = .returned (.int .u8 (inv8 a)) ∧ w' = w := by
  obtain ⟨hi, h1, _⟩ := inv8_ok a ha
  have HI : Hid (inv8 a < 256) := hi
  have H1 : Hid (a ≠ 0 → mul8 a (inv8 a) = 1) := h1
  clear hi h1
  go_enter Tryz.func150, Tryz.ntmps150
  go_wp2
  go_loopw [3] (fun i wr => ∃ b : Nat, 1 ≤ b ∧ b ≤ 256 ∧ i = .int .i64 b ∧ Hid (∀ c, 1 ≤ c → c < b → mul8 a c ≠ 1) ∧ wr = w) (fun i _ => 256 - (intOf i).toNat)
  case atStart => exact ⟨1, by omega, by omega, rfl, fun c h1 h2 => by omega, rfl⟩
  case round =>
    obtain ⟨b, hb1, hb2, rfl, HN, rfl⟩ := hrel
    by_cases hlt : b < 256
    · have k1 := fun w => refMul8_ a b w ha hlt
      have HO := fun h => inv8_only ha hlt h
      have HQ : Hid (mul8 a b = 1 → b = inv8 a) := HO
      have HW : Hid (∀ h : mul8 a b ≠ 1, ∀ c, 1 ≤ c → c < b + 1 → mul8 a c ≠ 1) := by
        intro h c c1 c2
        by_cases e : c = b
        · rw [e]; exact h
        · exact HN.out c c1 (by omega)
      clear HO
      generalize hq : mul8 a b = q at *
      have HM : Hid ((b : Int) % 256 = (b : Int)) := by show _ = _; omega
      clear hq HN
      go_wp2_with fail
      refine (k1 _).mono ?_
      rintro e w2 ⟨rfl, rfl⟩
      by_cases hc : q = 1
      · have HE : Hid (b = inv8 a) := HQ.out hc
        rw [hc]
        go_wp2
        go_ret
        exact ⟨by first | exact ret_u8 HE.out | (rw [← HE.out]; exact ret_i8 HM.out), rfl⟩
      · have hne : ¬ (q : Int) = 1 := by omega
        have hnb : ((q : Int) == 1) = false := by simpa using hne
        have HW2 := hid (HW.out hc)
        go_wp2
        go_roundw
        case rel => exact ⟨b + 1, by omega, by omega, by go_num, HW2, trivial⟩
        case measure => simp [intOf]; omega
    · obtain rfl : b = 256 := by omega
      have HZ : Hid (inv8 a = 0) := by
        show _ = _
        by_cases h0 : a = 0
        · rw [h0]; rfl
        · have h := H1.out h0
          by_cases hz : inv8 a = 0
          · exact hz
          · exact absurd h (HN.out _ (by omega) HI.out)
      go_wp2
      go_ret
      exact ⟨ret_u8 HZ.out.symm, rfl⟩
end Go.Proofs.YtmnmmkonkimjeaaGreatDoor
