import Derived.Test.YtfgnllfgccbolabDoorTurn
namespace Go.Proofs.YtfgnllfgccbolabDoor
open Go.RowKit
set_option linter.unusedVariables false

theorem pow8 (j : Nat) (hj : j < 8) : (2 : Int) ^ j % 256 = ((2 ^ j : Nat) : Int) ∧ 2 ^ j < 256 := by
  have h8 : 2 ^ j < 2 ^ 8 := Nat.pow_lt_pow_right (by omega) hj
  refine ⟨?_, h8⟩
  rw [show (2 : Int) ^ j = ((2 ^ j : Nat) : Int) from by rw [Int.natCast_pow]; rfl]
  exact Int.emod_eq_of_lt (Int.natCast_nonneg _) (Int.ofNat_lt.2 h8)
theorem place2 (x : Int) : ∃ k : Nat, (k : Int) < 268435454 ∧ (wrap64 (wrap64 (x.tmod 268435454 + 268435456) - 2)).tmod 268435454 = k := by
  have h1 := Int.tmod_lt_of_pos x (show (0 : Int) < 268435454 by omega)
  have h2 := Int.lt_tmod_of_pos x (show (0 : Int) < 268435454 by omega)
  generalize x.tmod 268435454 = r at *
  have e1 : wrap64 (r + 268435456) = r + 268435456 := by unfold wrap64; omega
  have e2 : wrap64 (r + 268435456 - 2) = r + 268435454 := by unfold wrap64; omega
  rw [e1, e2, Int.tmod_eq_emod_of_nonneg (by omega)]
  exact ⟨((r + 268435454) % 268435454).toNat, by omega, by omega⟩
theorem one_byte (x : Nat) : updc 0 [(x : Int)] = stps 8 (4294967295 ^^^ x) ^^^ 4294967295 := by
  show upd (0 ^^^ 4294967295) [(x : Int)] ^^^ 4294967295 = _
  rw [Nat.zero_xor, upd_cons, upd_nil]; rfl
theorem one_diff (x y : Nat) : updc 0 [(x : Int)] ^^^ updc 0 [(y : Int)] = stps 8 (x ^^^ y) := by
  rw [one_byte, one_byte, stps_xor, stps_xor, stps_xor]
  generalize stps 8 4294967295 = f
  generalize stps 8 x = p
  generalize stps 8 y = q
  rw [Nat.xor_comm f p, Nat.xor_comm f q, Nat.xor_assoc, Nat.xor_assoc, Nat.xor_assoc]
  rw [xor_lc 4294967295 q, xor_lc 4294967295 f, Nat.xor_self, Nat.xor_zero, xor_lc f q, Nat.xor_self, Nat.xor_zero]
/-- Two bits far apart. -/
theorem far_told (f j : Nat) (hf : f < 268435454) (hj : j < 8) : (stps (8 * (f + 1)) (updc 0 [(1 : Int)]) ^^^ 0) ^^^ (stps (8 * (f + 1)) (updc 0 [(0 : Int)]) ^^^ 0) ≠ updc 0 [((2 ^ j : Nat) : Int)] ^^^ updc 0 [(0 : Int)] := by
  rw [Nat.xor_zero, Nat.xor_zero, ← stps_xor]
  have h1 := one_diff 1 0
  have h2 := one_diff (2 ^ j) 0
  rw [Nat.xor_zero] at h1 h2
  rw [show ((1 : Nat) : Int) = 1 from rfl, show ((0 : Nat) : Int) = 0 from rfl] at h1
  rw [show ((0 : Nat) : Int) = 0 from rfl] at h2
  rw [h1, h2, ← stps_add]
  intro e
  have e2 : stps 8 (2 ^ j) = stps (8 - j) 1 := by
    have := stps_pow j 1
    rw [Nat.mul_one] at this
    rw [show (8 : Nat) = j + (8 - j) from by omega, stps_add, this]
    congr 1
    omega
  rw [e2] at e
  have := one_inj e.symm (by omega) (by omega)
  omega

set_option maxRecDepth 100000 in
set_option maxHeartbeats 2000000 in
theorem crcTwo_ (a : Option Addr) (n c : Nat) (zs : List Int) (i k far : Int) (w : World) (hT : Tab w) (hb : Bs w a n zs) (hnm : n ≤ maxLen) (hi0 : -9223372036854775808 ≤ i) (hi1 : i ≤ 9223372036854775807) (hk0 : -9223372036854775808 ≤ k) (hk1 : k ≤ 9223372036854775807) (hf0 : -9223372036854775808 ≤ far) (hf1 : far ≤ 9223372036854775807) :
    Calls Tryd.prog 4 #[.slice a n c, .int .i64 i, .int .i64 k, .int .i64 far] w fun en w' => en = .returned (.bool true) ∧ Below w.heap.size w w' := by
  unfold maxLen at hnm
  by_cases hn : 0 < n ∧ n ≤ 65536
  · have hcond : (decide ((65536 : Int) < (n : Int)) || (n : Int) == 0) = false := by simp; omega
    have hnb : n ≤ 65536 := hn.2
    obtain ⟨I, hI, eI⟩ := place i (8 * (n : Int)) (by omega) (by omega)
    obtain ⟨K, hK, eK⟩ := place k (8 * (n : Int)) (by omega) (by omega)
    obtain ⟨f, hf, ef⟩ := place2 far
    have hI2 : I < 8 * n := by omega
    have hK2 : K < 8 * n := by omega
    have hf2 : f < 268435454 := by omega
    have HN := hid hn
    have HI := hid eI
    have HK := hid eK
    have HF := hid ef
    clear eI eK ef hn hI hK hf
    go_enter Tryd.func4, Tryd.ntmps4
    go_wp2_with fail
    refine (first_ w hT).mono ?_
    rintro en w1 ⟨rfl, B1⟩
    have b1 := hb.below B1
    have S1 := B1.size
    have t1 := hT.bel B1
    go_wp2_with fail
    rw [HI.out, HK.out]
    clear HI HK
    generalize wrap64 (i.tmod (8 * (n : Int)) + 8 * (n : Int)) = j1
    generalize wrap64 (k.tmod (8 * (n : Int)) + 8 * (n : Int)) = j2
    generalize i.tmod (8 * (n : Int)) = j3
    generalize k.tmod (8 * (n : Int)) = j4
    generalize 8 * (n : Int) = j5
    refine (refBytes a n c zs _ b1 (by omega)).mono ?_
    rintro en w2 ⟨v, rfl, ho, hg⟩
    obtain ⟨g, cap, rfl, hcap, hcm, hgb, hh2, hl2⟩ := own_head ho HN.out.1
    have hgw : w.heap.size ≤ g := by omega
    have HB := hid hb.2.1
    have HL := hid hl2
    have B2 := bel_bel B1 S1 hg
    have t0 := hT
    clear ho hg b1 B1 S1 hl2 hgb t1 hT hcm hcond
    go_wp2_with fail
    refine (turn_ g n cap cap I zs w2 hh2 HL.out HB.out hI2 (by omega)).mono ?_
    rintro en w3 ⟨rfl, hh3, f3⟩
    have B3 := B2.trans (f3 _ hgw)
    clear f3 B2 hh2
    go_wp2_with fail
    refine (turn_ g n cap cap K (flp zs I) w3 hh3 (by rw [flp_length]; exact HL.out) (flp_byte HB.out I) hK2 (by omega)).mono ?_
    rintro en w4 ⟨rfl, hh4, f4⟩
    have B4 := B3.trans (f4 _ hgw)
    clear f4 B3 hh3
    have t4 := t0.below B4 t0.1
    have b4 := hb.below B4
    go_wp2_with fail
    refine (sum_ a n c zs _ t4 b4 (by unfold maxLen; omega)).mono ?_
    rintro en w5 ⟨rfl, rfl⟩
    go_wp2_with fail
    have HY := hid (flp_byte (flp_byte HB.out I) K)
    have HLL : Hid ((flp (flp zs I) K).length = n) := by show _ = _; rw [flp_length, flp_length]; exact HL.out
    refine (sum_ (some ⟨g, 0, none⟩) n cap _ _ t4 (hh4.all HLL.out HY.out) (by unfold maxLen; omega)).mono ?_
    rintro en w6 ⟨rfl, rfl⟩
    have HT := hid (two_told zs I K HB.out (by rw [HL.out]; exact hI2) (by rw [HL.out]; exact hK2) (by rw [HL.out]; exact hnb))
    generalize updc 0 (flp (flp zs I) K) = t at *
    generalize updc 0 zs = s at *
    have S6 := B4.size
    clear hh4 HY HLL b4 hb t0
    go_wp2_with fail
    rw [HF.out]
    generalize wrap64 (wrap64 (far.tmod 268435454 + 268435456) - 2) = j6
    generalize wrap64 (far.tmod 268435454 + 268435456) = j7
    generalize far.tmod 268435454 = j8
    clear HF
    refine (sumConst w6 [1] 1 (0, 0) _ t4 rfl (by decide) (by omega) rfl).mono ?_
    rintro en w7 ⟨rfl, b7, t7⟩
    have B7 := bel_bel B4 S6 b7
    have S7 := B7.size
    clear b7 B4 S6 t4
    go_wp2_with fail
    rw [show (f : Int) + 1 = ((f + 1 : Nat) : Int) from by omega]
    refine (join_ (updc 0 [1]) 0 (f + 1) _ t7 (updc_lt (by omega) (by decide)) (by omega) (by omega)).mono ?_
    rintro en w8 ⟨rfl, b8⟩
    have t8 := t7.bel b8
    have B8 := bel_bel B7 S7 b8
    have S8 := B8.size
    clear b8 B7 S7 t7
    have HFar := hid (fun j hj => far_told f j hf2 hj)
    have x1 : stps (8 * (f + 1)) (updc 0 [1]) ^^^ 0 < 4294967296 := xor_lt32 (stps_lt _ (updc_lt (by omega) (by decide))) (by omega)
    generalize stps (8 * (f + 1)) (updc 0 [1]) ^^^ 0 = o1 at *
    generalize ((f + 1 : Nat) : Int) = j9
    go_wp2_with fail
    refine (sumConst w8 [0] 1 (0, 0) _ t8 rfl (by decide) (by omega) rfl).mono ?_
    rintro en w9 ⟨rfl, b9, t9⟩
    have B9 := bel_bel B8 S8 b9
    have S9 := B9.size
    clear b9 B8 S8 t8
    go_wp2_with fail
    rw [show (f : Int) + 1 = ((f + 1 : Nat) : Int) from by omega]
    refine (join_ (updc 0 [0]) 0 (f + 1) _ t9 (updc_lt (by omega) (by decide)) (by omega) (by omega)).mono ?_
    rintro en w10 ⟨rfl, b10⟩
    have t10 := t9.bel b10
    have B10 := bel_bel B9 S9 b10
    have S10 := B10.size
    clear b10 B9 S9 t9
    have x2 : stps (8 * (f + 1)) (updc 0 [0]) ^^^ 0 < 4294967296 := xor_lt32 (stps_lt _ (updc_lt (by omega) (by decide))) (by omega)
    generalize stps (8 * (f + 1)) (updc 0 [0]) ^^^ 0 = o2 at *
    generalize ((f + 1 : Nat) : Int) = j10
    have ex := u32_xor_nat o1 o2 x1 x2
    clear x1 x2
    have HM := hid (pow8 (I % 8) (Nat.mod_lt _ (by omega)))
    have HFin := hid (HFar.out (I % 8) (Nat.mod_lt _ (by omega)))
    have hx8 := HM.out.2
    clear HFar
    go_wp2_with fail
    rw [HM.out.1]
    generalize 2 ^ (I % 8) = x8 at *
    clear HM
    refine (sumConst w10 [(x8 : Int)] 1 (0, 0) _ t10 rfl (by intro z hz; simp at hz; omega) (by omega) rfl).mono ?_
    rintro en w11 ⟨rfl, b11, t11⟩
    have B11 := bel_bel B10 S10 b11
    have S11 := B11.size
    clear b11 B10 S10 t10
    have x3 : updc 0 [(x8 : Int)] < 4294967296 := updc_lt (by omega) (by intro z hz; simp at hz; omega)
    generalize updc 0 [(x8 : Int)] = p1 at *
    go_wp2_with fail
    refine (sumConst w11 [0] 1 (0, 0) _ t11 rfl (by decide) (by omega) rfl).mono ?_
    rintro en w12 ⟨rfl, b12, t12⟩
    have B12 := bel_bel B11 S11 b12
    clear b12 B11 S11 t11
    have x4 : updc 0 [0] < 4294967296 := updc_lt (by omega) (by decide)
    generalize updc 0 [0] = p2 at *
    have ey := u32_xor_nat p1 p2 x3 x4
    clear x3 x4
    have hne : (((o1 ^^^ o2 : Nat) : Int) != ((p1 ^^^ p2 : Nat) : Int)) = true := by have := HFin.out; simp only [bne_iff_ne, ne_eq, Int.ofNat_inj]; exact this
    generalize o1 ^^^ o2 = f1 at *
    generalize p1 ^^^ p2 = f2 at *
    by_cases hik : I = K
    · have e1 : ((s : Int) != (t : Int)) = false := by
        have h : ¬ s ≠ t := fun h => (HT.out.1 h) hik
        simp only [ne_eq, Decidable.not_not] at h
        simp [h]
      have e2 : ((I : Int) != (K : Int)) = false := by simp [hik]
      clear hik
      go_wp2_with fail
      go_ret
      exact ⟨rfl, B12⟩
    · have e1 : ((s : Int) != (t : Int)) = true := by
        have h : s ≠ t := HT.out.2 hik
        simp only [bne_iff_ne, ne_eq, Int.ofNat_inj]; exact h
      have e2 : ((I : Int) != (K : Int)) = true := by simp only [bne_iff_ne, ne_eq, Int.ofNat_inj]; exact hik
      clear hik
      go_wp2_with fail
      go_ret
      exact ⟨rfl, B12⟩
  · have hcond : (decide ((65536 : Int) < (n : Int)) || (n : Int) == 0) = true := by simp; omega
    go_enter Tryd.func4, Tryd.ntmps4
    go_wp2_with fail
    refine (first_ w hT).mono ?_
    rintro en w1 ⟨rfl, B1⟩
    go_wp2_with fail
    all_goals (go_ret; exact ⟨rfl, B1⟩)
end Go.Proofs.YtfgnllfgccbolabDoor
