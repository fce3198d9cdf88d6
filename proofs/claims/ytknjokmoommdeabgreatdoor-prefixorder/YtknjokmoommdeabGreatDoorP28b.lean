import Derived.Test.YtknjokmoommdeabGreatDoorP28
import Derived.Test.YtknjokmoommdeabGreatDoorP23
namespace Go.Proofs.YtknjokmoommdeabGreatDoor
set_option maxRecDepth 100000
open Go.RowKit
set_option linter.unusedVariables false

set_option maxHeartbeats 4000000 in
theorem prefixOrder_ (F H L B F' H' L' B' : Int) (w : World) (hT : Tb w) (hF : InI F) (hH : InU H) (hL : InU L) (hB : InI B) (hF' : InI F') (hH' : InU H') (hL' : InU L') (hB' : InI B') :
    Calls Tryz.prog 5 #[.agg #[.int .i64 F, .int .u64 H, .int .u64 L, .int .i64 B], .agg #[.int .i64 F', .int .u64 H', .int .u64 L', .int .i64 B']] w fun e w' => e = .returned (.bool true) ∧ Below w.heap.size w w' := by
  have k1 := fun w => put_ F H L B w hF hH hL hB
  have k2 := fun w => put_ F' H' L' B' w hF' hH' hL' hB'
  have k3 := fun w => compare_ F H L B F' H' L' B' w hF hH hL hB hF' hH' hL' hB'
  have k4 := fun w => compare_ F' H' L' B' F H L B w hF' hH' hL' hB' hF hH hL hB
  have HA := hid (pp_byte F H L B)
  have HP := hid (pp_byte F' H' L' B')
  have A0 := hid (pp_len0 (F := F) (H := H) (L := L) (B := B))
  have A1 := hid (pp_lenp (F := F) (H := H) (L := L) (B := B))
  have P0 := hid (pp_len0 (F := F') (H := H') (L := L') (B := B'))
  have P1 := hid (pp_lenp (F := F') (H := H') (L := L') (B := B'))
  have X1 : Hid (vp F H L B = true → vp F' H' L' B' = true → lx (pp F H L B) (pp F' H' L' B') = decide (cp F H L B F' H' L' B' < 0) ∧ lx (pp F' H' L' B') (pp F H L B) = decide (0 < cp F H L B F' H' L' B')
      ∧ ∀ n, n = min (pp F H L B).length (pp F' H' L' B').length → sameB ((pp F H L B).take n) ((pp F' H' L' B').take n) = decide (cp F H L B F' H' L' B' = 0)) := fun h1 h2 => by
    refine ⟨lx_pp h1 h2 hH hL hH' hL', ?_, fun n hn => ?_⟩
    · rw [lx_pp h2 h1 hH' hL' hH hL, cp_neg F H L B F' H' L' B']
      exact decide_eq_decide.2 (by omega)
    · unfold sameB
      exact decide_eq_decide.2 (pp_begin h1 h2 hH hL hH' hL' n hn)
  have NG := cp_neg F H L B F' H' L' B'
  have IC : -1 ≤ cp F H L B F' H' L' B' ∧ cp F H L B F' H' L' B' ≤ 1 := by
    have : ∀ a b : Int, -1 ≤ od a b ∧ od a b ≤ 1 := fun a b => by unfold od; split <;> (try split) <;> omega
    unfold cp
    have t1 := this F F'
    have t2 := this B B'
    have t3 := this H H'
    have t4 := this L L'
    repeat' split
    all_goals first | assumption | omega
  generalize pp F H L B = A at *
  generalize pp F' H' L' B' = P at *
  generalize cp F H L B F' H' L' B' = cc at *
  generalize cp F' H' L' B' F H L B = dd at *
  obtain ⟨vv, V1⟩ : ∃ b, Hid (vp F H L B = b) := ⟨_, rfl⟩
  obtain ⟨vw, V2⟩ : ∃ b, Hid (vp F' H' L' B' = b) := ⟨_, rfl⟩
  rw [V1.out] at A0 A1 X1
  rw [V2.out] at P0 P1 X1
  clear hF hH hL hB hF' hH' hL' hB'
  obtain ⟨B0, m0, m1⟩ := ppnew w F H L B F' H' L' B'
  go_enter Tryz.func5, Tryz.ntmps5
  go_wp2_with fail
  refine (first_ _ (hT.kept B0)).mono ?_
  rintro e w1 ⟨rfl, g2⟩
  replace m0 := m0.kept g2
  replace m1 := m1.kept g2
  replace B0 := bel_bel B0 B0.size g2
  clear g2 hT
  have c0 := m0.c0
  have c1 := m0.c1
  have c2 := m0.c2
  have c3 := m0.c3
  have d0 := m1.c0
  have d1 := m1.c1
  have d2 := m1.c2
  have d3 := m1.c3
  go_wp2_with fail
  refine (k1 _).mono ?_
  rintro e w2 ⟨v, rfl, ho, g2⟩
  obtain ⟨pa, pc, rfl, pb, hpc, hpm, _⟩ := own_form ho HA.out
  clear c0 c1 c2 c3 d0 d1 d2 d3
  replace m0 := m0.kept g2
  replace m1 := m1.kept g2
  replace B0 := bel_bel B0 B0.size g2
  clear g2 ho k1
  have c0 := m0.c0
  have c1 := m0.c1
  have c2 := m0.c2
  have c3 := m0.c3
  have d0 := m1.c0
  have d1 := m1.c1
  have d2 := m1.c2
  have d3 := m1.c3
  go_wp2_with fail
  refine (k2 _).mono ?_
  rintro e w3 ⟨v, rfl, ho, g2⟩
  obtain ⟨qa, qc, rfl, qb, hqc, hqm, _⟩ := own_form ho HP.out
  clear c0 c1 c2 c3 d0 d1 d2 d3
  replace m0 := m0.kept g2
  replace m1 := m1.kept g2
  replace pb := pb.below g2
  replace B0 := bel_bel B0 B0.size g2
  clear g2 ho k2
  unfold maxLen at hpm hqm
  generalize LA : A.length = n at *
  generalize LP : P.length = m at *
  have c0 := m0.c0
  have c1 := m0.c1
  have c2 := m0.c2
  have c3 := m0.c3
  have d0 := m1.c0
  have d1 := m1.c1
  have d2 := m1.c2
  have d3 := m1.c3
  cases vv
  · obtain rfl : n = 0 := A0.out rfl
    go_wp2_with fail
    go_ret
    exact ⟨rfl, B0⟩
  cases vw
  · obtain rfl : m = 0 := P0.out rfl
    have hn0 := (A1.out rfl).1
    have hn1 : ((n : Int) == 0) = false := beq_eq_false_iff_ne.2 (by omega)
    go_wp2_with fail
    go_ret
    exact ⟨rfl, B0⟩
  obtain ⟨hn0, hn18⟩ := A1.out rfl
  obtain ⟨hm0, hm18⟩ := P1.out rfl
  obtain ⟨x1, x2, x3⟩ := X1.out rfl rfl
  replace x3 := x3 (min n m) rfl
  have hn1 : ((n : Int) == 0) = false := beq_eq_false_iff_ne.2 (by omega)
  have hm1 : ((m : Int) == 0) = false := beq_eq_false_iff_ne.2 (by omega)
  obtain ⟨k, hk⟩ : ∃ k, min n m = k := ⟨_, rfl⟩
  rw [hk] at x3
  have hmin : (min (n : Int) m) = (k : Int) := by omega
  have hmin' : (min (n : Int) m).toNat = k := by omega
  have hkn : k ≤ n := by omega
  have hkm : k ≤ m := by omega
  obtain ⟨ba, oa, rfl, ca⟩ := pb.block hn0
  obtain ⟨bq, oq, rfl, cq⟩ := qb.block hm0
  have HPB := hid pb
  have HQB := hid qb
  have CA := hid ca
  have CQ := hid cq
  have LA' := hid LA
  have LP' := hid LP
  have X1' := hid x1
  have X2' := hid x2
  have X3' := hid x3
  clear pb qb ca cq LA LP x1 x2 x3 A0 A1 P0 P1 X1
  go_wp2_with fail
  refine (k3 _).mono ?_
  rintro e w4 ⟨rfl, g2⟩
  clear c0 c1 c2 c3 d0 d1 d2 d3
  replace m0 := m0.kept g2
  replace m1 := m1.kept g2
  replace B0 := bel_bel B0 B0.size g2
  replace HPB := hid (HPB.out.below g2)
  replace HQB := hid (HQB.out.below g2)
  replace CA : Hid (∀ i, i < n → w4.cell? ⟨ba, oa + i, none⟩ = some (.int .u8 (A.getD i 0))) := fun i hi => (g2.cell (World.block_lt_of_cell? w3 _ (CA.out i hi))).trans (CA.out i hi)
  replace CQ : Hid (∀ i, i < m → w4.cell? ⟨bq, oq + i, none⟩ = some (.int .u8 (P.getD i 0))) := fun i hi => (g2.cell (World.block_lt_of_cell? w3 _ (CQ.out i hi))).trans (CQ.out i hi)
  clear g2 k3
  have c0 := m0.c0
  have c1 := m0.c1
  have c2 := m0.c2
  have c3 := m0.c3
  have d0 := m1.c0
  have d1 := m1.c1
  have d2 := m1.c2
  have d3 := m1.c3
  go_wp2_with fail
  refine (k4 _).mono ?_
  rintro e w5 ⟨rfl, g2⟩
  clear c0 c1 c2 c3 d0 d1 d2 d3 m0 m1
  replace B0 := bel_bel B0 B0.size g2
  replace HPB := hid (HPB.out.below g2)
  replace HQB := hid (HQB.out.below g2)
  replace CA : Hid (∀ i, i < n → w5.cell? ⟨ba, oa + i, none⟩ = some (.int .u8 (A.getD i 0))) := fun i hi => (g2.cell (World.block_lt_of_cell? w4 _ (CA.out i hi))).trans (CA.out i hi)
  replace CQ : Hid (∀ i, i < m → w5.cell? ⟨bq, oq + i, none⟩ = some (.int .u8 (P.getD i 0))) := fun i hi => (g2.cell (World.block_lt_of_cell? w4 _ (CQ.out i hi))).trans (CQ.out i hi)
  clear g2 k4
  go_wp2_with fail
  refine (refLess7_ ba oa _ bq oq _ n m A P _ LA'.out LP'.out (by omega) (by omega) CA.out CQ.out).mono ?_
  rintro e w6 ⟨rfl, g2⟩
  rw [X1'.out]
  replace B0 := bel_bel B0 B0.size g2
  replace HPB := hid (HPB.out.below g2)
  replace HQB := hid (HQB.out.below g2)
  replace CA : Hid (∀ i, i < n → w6.cell? ⟨ba, oa + i, none⟩ = some (.int .u8 (A.getD i 0))) := fun i hi => (g2.cell (World.block_lt_of_cell? w5 _ (CA.out i hi))).trans (CA.out i hi)
  replace CQ : Hid (∀ i, i < m → w6.cell? ⟨bq, oq + i, none⟩ = some (.int .u8 (P.getD i 0))) := fun i hi => (g2.cell (World.block_lt_of_cell? w5 _ (CQ.out i hi))).trans (CQ.out i hi)
  clear g2
  go_wp2_with fail
  refine (refLess7_ bq oq _ ba oa _ m n P A _ LP'.out LA'.out (by omega) (by omega) CQ.out CA.out).mono ?_
  rintro e w7 ⟨rfl, g2⟩
  rw [X2'.out]
  replace B0 := bel_bel B0 B0.size g2
  replace HPB := hid (HPB.out.below g2)
  replace HQB := hid (HQB.out.below g2)
  clear g2 CA CQ
  have hkM : k ≤ maxLen := by unfold maxLen; omega
  have k5 := fun w' (hd : Drawn w7 w') => same_d (some ⟨ba, oa, none⟩) (some ⟨bq, oq, none⟩) k pc k qc (A.take k) (P.take k) w' ((HPB.out.cut hkn).drawn hd) ((HQB.out.cut hkm).drawn hd) hkM hkM
  rw [X3'.out] at k5
  go_wp2_with fail
  go_region_with ((go_at_call 18; refine (k5 _ (drawnN w7 _)).mono ?_; rintro e w8 ⟨rfl, g2⟩))
  all_goals
    replace B0 := bel_bel (bel_drawn B0 1) (bel_drawn B0 1).size g2.below
    clear g2 HPB HQB X1' X2' X3' LA' LP' HA HP k5
    subst NG
    rcases (show dd = -1 ∨ dd = 0 ∨ dd = 1 by omega) with rfl | rfl | rfl
    · go_wp2_with fail
      go_ret
      exact ⟨rfl, B0⟩
    · go_wp2_with fail
      go_ret
      exact ⟨rfl, B0⟩
    · go_wp2_with fail
      go_ret
      exact ⟨rfl, B0⟩
end Go.Proofs.YtknjokmoommdeabGreatDoor
