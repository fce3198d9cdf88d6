import Derived.Test.YtfgnllfgccbolaaDoorTurn
namespace Go.Proofs.YtfgnllfgccbolaaDoor
open Go.RowKit
set_option linter.unusedVariables false

set_option maxRecDepth 100000 in
set_option maxHeartbeats 2000000 in
theorem crcBurst_ (a : Option Addr) (n c : Nat) (zs : List Int) (bit pat : Int) (w : World) (hT : Tab w) (hb : Bs w a n zs) (hnm : n ≤ maxLen) (hi0 : -9223372036854775808 ≤ bit) (hi1 : bit ≤ 9223372036854775807) (hp0 : 0 ≤ pat) (hp1 : pat ≤ 4294967295) :
    Calls Tryd.prog 8 #[.slice a n c, .int .i64 bit, .int .u32 pat] w fun en w' => en = .returned (.bool true) ∧ Below w.heap.size w w' := by
  unfold maxLen at hnm
  by_cases hn : 0 < n ∧ n ≤ 65536
  · have hcond : (decide ((65536 : Int) < (n : Int)) || (n : Int) == 0) = false := by simp; omega
    have hnb : n ≤ 65536 := hn.2
    obtain ⟨P, rfl⟩ := Int.eq_ofNat_of_zero_le hp0
    have hP : P < 4294967296 := by omega
    obtain ⟨I, hI, eI⟩ := place bit (8 * (n : Int)) (by omega) (by omega)
    have hI2 : I < 8 * n := by omega
    have HN := hid hn
    have HI := hid eI
    clear eI hn hI hp0 hp1
    go_enter Tryd.func8, Tryd.ntmps8
    go_wp2_with fail
    refine (first_ w hT).mono ?_
    rintro en w1 ⟨rfl, B1⟩
    have b1 := hb.below B1
    have S1 := B1.size
    go_wp2_with fail
    rw [HI.out]
    clear HI
    generalize wrap64 (bit.tmod (8 * (n : Int)) + 8 * (n : Int)) = j1
    generalize bit.tmod (8 * (n : Int)) = j3
    refine (refBytes a n c zs _ b1 (by omega)).mono ?_
    rintro en w2 ⟨v, rfl, ho, hg⟩
    obtain ⟨g, cap, rfl, hcap, hcm, hgb, hh2, hl2⟩ := own_head ho HN.out.1
    have hgw : w.heap.size ≤ g := by omega
    have HB := hid hb.2.1
    have HL := hid hl2
    have B2 := bel_bel B1 S1 hg
    have t0 := hT
    clear ho hg b1 B1 S1 hl2 hgb hT hcm hcond
    go_wp2_with fail
    have HLN : Hid (zs.length = n) := HL
    go_loopw [2, 10, 11] (fun pv_ tv i wr => ∃ j : Nat, j ≤ 32 ∧ i = .int .i64 j ∧ pv_ = .int .u32 (P / 2 ^ j : Nat) ∧ tv = .bool (trn (8 * n) I P j) ∧ Head wr g cap (bur zs I P j) ∧ Below w.heap.size w wr) (fun _ _ i _ => 32 - (intOf i).toNat)
    case atStart => exact ⟨0, by omega, rfl, by simp, rfl, hh2, B2⟩
    case round =>
      obtain ⟨j, hj, rfl, rfl, rfl, hh, bb⟩ := hrel
      clear hh2 B2
      by_cases hlt : j < 32
      · have HQ : Hid ((P / 2 ^ (j + 1) : Nat) = P / 2 ^ j / 2) := by show _ = _; rw [Nat.pow_succ, Nat.div_div_eq_div_mul]
        have hqb : P / 2 ^ j < 4294967296 := Nat.lt_of_le_of_lt (Nat.div_le_self _ _) hP
        have HU : Hid (bur zs I P (j + 1) = if P / 2 ^ j % 2 = 1 ∧ I + j < 8 * n then flp (bur zs I P j) (I + j) else bur zs I P j) := by show _ = _; rw [← HLN.out]; rfl
        have HV : Hid (trn (8 * n) I P (j + 1) = if P / 2 ^ j % 2 = 1 ∧ I + j < 8 * n then true else trn (8 * n) I P j) := rfl
        by_cases hd : P / 2 ^ j % 2 = 1
        · have e3 : ((P / 2 ^ j : Nat) : Int) % 2 = 1 := by omega
          by_cases hin : I + j < 8 * n
          · have HU1 : Hid (bur zs I P (j + 1) = flp (bur zs I P j) (I + j)) := by show _ = _; rw [HU.out, if_pos ⟨hd, hin⟩]
            have HV1 : Hid (trn (8 * n) I P (j + 1) = true) := by show _ = _; rw [HV.out, if_pos ⟨hd, hin⟩]
            have i1 : (I : Int) + (j : Int) < 8 * (n : Int) := by omega
            generalize P / 2 ^ j = q at *
            generalize trn (8 * n) I P j = tb at *
            clear hd HU HV
            go_wp2_with fail
            rw [show (I : Int) + (j : Int) = ((I + j : Nat) : Int) from by omega]
            refine (turn_ g n cap cap (I + j) _ wr hh (by rw [bur_length]; exact HL.out) (bur_byte HB.out _ _ _) hin (by omega)).mono ?_
            rintro en w3 ⟨rfl, hh3, f3⟩
            rw [← HU1.out] at hh3
            have B3 := bb.trans (f3 _ hgw)
            clear f3 bb hh
            generalize ((I + j : Nat) : Int) = j9
            go_wp2_with fail
            go_roundw
            case rel => exact ⟨j + 1, by omega, by go_num, by rw [HQ.out]; rfl, by rw [HV1.out], hh3, B3⟩
            case measure => simp [intOf]; omega
          · have hno : ¬ (P / 2 ^ j % 2 = 1 ∧ I + j < 8 * n) := fun h => hin h.2
            have HU1 : Hid (bur zs I P (j + 1) = bur zs I P j) := by show _ = _; rw [HU.out, if_neg hno]
            have HV1 : Hid (trn (8 * n) I P (j + 1) = trn (8 * n) I P j) := by show _ = _; rw [HV.out, if_neg hno]
            have i1 : ¬ (I : Int) + (j : Int) < 8 * (n : Int) := by omega
            have i2 : decide ((I : Int) + (j : Int) < 8 * (n : Int)) = false := decide_eq_false i1
            rw [← HU1.out] at hh
            clear hd hno HU HV HU1
            generalize P / 2 ^ j = q at *
            generalize trn (8 * n) I P j = tb at *
            go_wp2_with fail
            go_roundw
            case rel => exact ⟨j + 1, by omega, by go_num, by rw [HQ.out]; rfl, by rw [HV1.out], hh, bb⟩
            case measure => simp [intOf]; omega
        · have hno : ¬ (P / 2 ^ j % 2 = 1 ∧ I + j < 8 * n) := fun h => hd h.1
          have HU1 : Hid (bur zs I P (j + 1) = bur zs I P j) := by show _ = _; rw [HU.out, if_neg hno]
          have HV1 : Hid (trn (8 * n) I P (j + 1) = trn (8 * n) I P j) := by show _ = _; rw [HV.out, if_neg hno]
          have e3 : ((P / 2 ^ j : Nat) : Int) % 2 = 0 := by omega
          rw [← HU1.out] at hh
          clear hd hno HU HV HU1
          generalize P / 2 ^ j = q at *
          generalize trn (8 * n) I P j = tb at *
          go_wp2_with fail
          go_roundw
          case rel => exact ⟨j + 1, by omega, by go_num, by rw [HQ.out]; rfl, by rw [HV1.out], hh, bb⟩
          case measure => simp [intOf]; omega
      · have hjm : j = 32 := by omega
        have hge : ¬ (j : Int) < 32 := by omega
        have t4 := t0.below bb t0.1
        have b4 := hb.below bb
        have HO := hid (burst_told zs I P HB.out (by rw [HL.out]; exact hI2))
        have HY := hid (bur_byte HB.out I P j)
        have HLL : Hid ((bur zs I P j).length = n) := by show _ = _; rw [bur_length]; exact HL.out
        have HJM := hid hjm
        clear hjm
        go_wp2_with fail
        refine (sum_ a n c zs _ t4 b4 (by unfold maxLen; omega)).mono ?_
        rintro en w5 ⟨rfl, rfl⟩
        go_wp2_with fail
        refine (sum_ (some ⟨g, 0, none⟩) n cap _ _ t4 (hh.all HLL.out HY.out) (by unfold maxLen; omega)).mono ?_
        rintro en w6 ⟨rfl, rfl⟩
        have hne : (((updc 0 zs : Nat) : Int) != ((updc 0 (bur zs I P j) : Nat) : Int)) = trn (8 * n) I P j := by
          have h := HO.out
          rw [← HJM.out, HL.out] at h
          cases ht : trn (8 * n) I P j with
          | true =>
            rw [ht] at h
            simp only [bne_iff_ne, ne_eq, Int.ofNat_inj]; exact h.2 rfl
          | false =>
            rw [ht] at h
            have h2 : updc 0 zs = updc 0 (bur zs I P j) := Decidable.byContradiction fun hx => by simpa using h.1 hx
            rw [h2]; simp
        generalize updc 0 (bur zs I P j) = t at *
        generalize updc 0 zs = s at *
        generalize trn (8 * n) I P j = tb at *
        go_wp2_with fail
        go_ret
        exact ⟨ret_bool (by simp), bb⟩
  · have hcond : (decide ((65536 : Int) < (n : Int)) || (n : Int) == 0) = true := by simp; omega
    go_enter Tryd.func8, Tryd.ntmps8
    go_wp2_with fail
    refine (first_ w hT).mono ?_
    rintro en w1 ⟨rfl, B1⟩
    go_wp2_with fail
    all_goals (go_ret; exact ⟨rfl, B1⟩)
end Go.Proofs.YtfgnllfgccbolaaDoor
