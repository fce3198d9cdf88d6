import Derived.Test.YtfgnllfgccbolabDoorTurn
import Derived.Test.YtfgnllfgccbolabDoorRow
import Derived.Deep.RegionHeld
namespace Go.Proofs.YtfgnllfgccbolabDoor
open Go.RowKit
set_option linter.unusedVariables false

/-- The place that a number stands for, of n bytes' bits. -/
noncomputable def pl (n : Nat) (p : Int) : Nat := ((wrap64 (p.tmod (8 * (n : Int)) + 8 * (n : Int))).tmod (8 * (n : Int))).toNat
theorem pl_is (n : Nat) (p : Int) (h0 : 0 < n) (hn : n ≤ 65536) : (wrap64 (p.tmod (8 * (n : Int)) + 8 * (n : Int))).tmod (8 * (n : Int)) = (pl n p : Int) ∧ pl n p < 8 * n := by
  obtain ⟨k, hk, e⟩ := place p (8 * (n : Int)) (by omega) (by omega)
  unfold pl
  rw [e, Int.toNat_natCast]
  exact ⟨rfl, by omega⟩
theorem flps_take (zs : List Int) (ks : List Nat) (j : Nat) (h : j < ks.length) : flps zs (ks.take (j + 1)) = flp (flps zs (ks.take j)) (ks.getD j 0) := by
  have hg : ks.getD j 0 = ks[j] := by simp [List.getD, h]
  rw [hg, List.take_succ_eq_append_getElem h, flps_append]
  rfl
theorem pls_get (n : Nat) (ps : List Int) (j : Nat) (h : j < ps.length) : (ps.map (pl n)).getD j 0 = pl n (ps.getD j 0) := by simp [List.getD, h]

set_option maxRecDepth 100000 in
set_option maxHeartbeats 2000000 in
theorem crcOdd_ (a : Option Addr) (n c : Nat) (zs : List Int) (ap : Option Addr) (m cp : Nat) (ps : List Int) (w : World) (hT : Tab w) (hb : Bs w a n zs) (hnm : n ≤ maxLen) (hp : Is w ap m ps) (hmm : m ≤ maxLen) :
    Calls Tryd.prog 3 #[.slice a n c, .slice ap m cp] w fun en w' => en = .returned (.bool true) ∧ Below w.heap.size w w' := by
  unfold maxLen at hnm hmm
  by_cases hq : 0 < n ∧ n ≤ 65536 ∧ m % 2 = 1 ∧ m ≤ 1001
  · obtain ⟨hn0, hnb, hm2, hmb⟩ := hq
    have q1 : (decide ((65536 : Int) < (n : Int)) || (n : Int) == 0) = false := by simp; omega
    have q2 : ((m : Int) % 2 == 0) = false := by simp; omega
    have q3 : decide ((1001 : Int) < (m : Int)) = false := by simp; omega
    have HN := hid hn0
    have HM := hid hm2
    clear hn0 hm2
    go_enter Tryd.func3, Tryd.ntmps3
    go_wp2_with fail
    refine (first_ w hT).mono ?_
    rintro en w1 ⟨rfl, B1⟩
    have b1 := hb.below B1
    have S1 := B1.size
    go_wp2_with fail
    refine (refBytes a n c zs _ b1 (by omega)).mono ?_
    rintro en w2 ⟨v, rfl, ho, hg⟩
    obtain ⟨g, cap, rfl, hcap, hcm, hgb, hh2, hl2⟩ := own_head ho HN.out
    have hgw : w.heap.size ≤ g := by omega
    have HB := hid hb.2.1
    have HL := hid hl2
    have B2 := bel_bel B1 S1 hg
    have t0 := hT
    clear ho hg b1 B1 S1 hl2 hgb hT hcm q1 q2 q3
    go_wp2_with fail
    go_loopw [8] (fun i wr => ∃ j : Nat, j ≤ m ∧ i = .int .i64 j ∧ Head wr g cap (flps zs ((ps.map (pl n)).take j)) ∧ Below w.heap.size w wr) (fun i _ => m - (intOf i).toNat)
    case atStart => exact ⟨0, by omega, rfl, hh2, B2⟩
    case round =>
      obtain ⟨j, hj, rfl, hh, bb⟩ := hrel
      clear hh2 B2
      by_cases hlt : j < m
      · obtain ⟨hpl, hpc⟩ := hp
        rcases hpc with h0 | ⟨b, off, rfl, hcl⟩
        · omega
        have hck := (bb.cell (World.block_lt_of_cell? w _ (hcl j hlt))).trans (hcl j hlt)
        have HP := hid (pl_is n (ps.getD j 0) HN.out hnb)
        have hlt2 := HP.out.2
        have HF : Hid (flps zs ((ps.map (pl n)).take (j + 1)) = flp (flps zs ((ps.map (pl n)).take j)) (pl n (ps.getD j 0))) := by
          show _ = _
          rw [flps_take zs _ j (by simp; omega), pls_get n ps j (by omega)]
        generalize pl n (ps.getD j 0) = K at *
        generalize ps.getD j 0 = p at *
        go_wp2_with fail
        rw [HP.out.1]
        refine (turn_ g n cap cap K _ wr hh (by rw [flps_length]; exact HL.out) (flps_byte _ HB.out) hlt2 (by omega)).mono ?_
        rintro en w3 ⟨rfl, hh3, f3⟩
        rw [← HF.out] at hh3
        have B3 := bb.trans (f3 _ hgw)
        clear f3 bb hh hck HP
        generalize wrap64 (p.tmod (8 * (n : Int)) + 8 * (n : Int)) = j1
        generalize p.tmod (8 * (n : Int)) = j2
        go_wp2_with fail
        go_roundw
        case rel => exact ⟨j + 1, by omega, by go_num, hh3, B3⟩
        case measure => simp [intOf]; omega
      · have hjm : j = m := by omega
        have hge : ¬ (j : Int) < (m : Int) := by omega
        rw [hjm, List.take_of_length_le (by simp [hp.1])] at hh
        have t4 := t0.below bb t0.1
        have b4 := hb.below bb
        have HO := hid (odd_told zs (ps.map (pl n)) HB.out (by
          intro k hk
          obtain ⟨p, _, rfl⟩ := List.mem_map.1 hk
          rw [HL.out]
          exact (pl_is n p HN.out hnb).2) (by rw [List.length_map, hp.1]; exact HM.out))
        have HY := hid (flps_byte (ps.map (pl n)) HB.out)
        have HLL : Hid ((flps zs (ps.map (pl n))).length = n) := by show _ = _; rw [flps_length]; exact HL.out
        clear hjm
        go_wp2_with fail
        refine (sum_ a n c zs _ t4 b4 (by unfold maxLen; omega)).mono ?_
        rintro en w5 ⟨rfl, rfl⟩
        go_wp2_with fail
        refine (sum_ (some ⟨g, 0, none⟩) n cap _ _ t4 (hh.all HLL.out HY.out) (by unfold maxLen; omega)).mono ?_
        rintro en w6 ⟨rfl, rfl⟩
        have hne : (((updc 0 zs : Nat) : Int) != ((updc 0 (flps zs (ps.map (pl n))) : Nat) : Int)) = true := by simp only [bne_iff_ne, ne_eq, Int.ofNat_inj]; exact HO.out
        generalize updc 0 (flps zs (ps.map (pl n))) = t at *
        generalize updc 0 zs = s at *
        go_wp2_with fail
        go_ret
        exact ⟨rfl, bb⟩
  · have q1 : (decide ((65536 : Int) < (n : Int)) || (n : Int) == 0 || (m : Int) % 2 == 0 || decide ((1001 : Int) < (m : Int))) = true := by simp; omega
    go_enter Tryd.func3, Tryd.ntmps3
    go_wp2_with fail
    refine (first_ w hT).mono ?_
    rintro en w1 ⟨rfl, B1⟩
    go_wp2_with fail
    all_goals (go_ret; exact ⟨rfl, B1⟩)
end Go.Proofs.YtfgnllfgccbolabDoor
