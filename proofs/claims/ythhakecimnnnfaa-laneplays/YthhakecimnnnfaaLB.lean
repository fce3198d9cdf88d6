import Derived.Test.YthhakecimnnnfaaLB0
namespace Go.Proofs.Ythhakecimnnnfaa
set_option maxRecDepth 100000
open Go.RowKit
set_option linter.unusedVariables false

set_option maxHeartbeats 4000000 in
theorem ragain_ (a : Option Addr) (m c : Nat) (k : List Int) (S C N D E s n : Int) (w : World) (h : Li w a m k S C N D E s n) :
    Calls Try.prog 20 #[.agg #[.slice a m c, .int .i64 S, .int .i64 C, .int .i64 N, .int .u64 D, .int .u64 E, .int .i64 s, .int .i64 n]] w fun e w' => Rl2 w (agnL ⟨k, S, C, N, D, E, s, n⟩) (.int .i64 (agnE ⟨k, S, C, N, D, E, s, n⟩)) e w' := by
  have B1 := lnew w a m c S C N D E s n
  have B2 := B1.alloc (B := w.heap.size) (by simp) (.cells #[.slice none 0 0, .int .i64 0, .int .i64 0, .int .i64 0, .int .u64 0, .int .u64 0, .int .i64 0, .int .i64 0] 27)
  have m1 := (Lm.new w a m c S C N D E s n).kept (lnew _ none 0 0 0 0 0 0 0 0 0)
  have m2 := Lm.new (w.alloc (.cells #[.slice a m c, .int .i64 S, .int .i64 C, .int .i64 N, .int .u64 D, .int .u64 E, .int .i64 s, .int .i64 n] 27)) none 0 0 0 0 0 0 0 0 0
  rw [World.size_alloc] at m2
  obtain ⟨W, HW⟩ : ∃ y, Hid ((w.alloc (.cells #[.slice a m c, .int .i64 S, .int .i64 C, .int .i64 N, .int .u64 D, .int .u64 E, .int .i64 s, .int .i64 n] 27)).alloc (.cells #[.slice none 0 0, .int .i64 0, .int .i64 0, .int .i64 0, .int .u64 0, .int .u64 0, .int .i64 0, .int .i64 0] 27) = y) := ⟨_, rfl⟩
  obtain ⟨gg, Hg⟩ : ∃ y, Hid (w.heap.size = y) := ⟨_, rfl⟩
  have HWS : Hid (W.heap.size = gg + 2) := by show _ = _; rw [← HW.out, ← Hg.out]; simp
  rw [HW.out] at B2 m1 m2
  have HB2 := hid B2
  rw [Hg.out] at m1 m2
  have HM1 := hid m1
  have HM2 := hid m2
  have HL := hid (h.on B2)
  have hkl : k.length = m := h.k.1
  have kv := rvalid17_ a m c S C N D E s n W (Nat.le_trans h.m (by unfold maxLen; omega))
  have HLI := hid h
  obtain ⟨q1, hq1⟩ : ∃ q, lok m S C N s n = q := ⟨_, rfl⟩
  rw [hq1] at kv
  have HLK : Hid (lokL ⟨k, S, C, N, D, E, s, n⟩ = q1) := by show lok k.length S C N s n = q1; rw [hkl]; exact hq1
  have y0 := m1.c0
  have y1 := m1.c1
  have y2 := m1.c2
  have y3 := m1.c3
  have y4 := m1.c4
  have y5 := m1.c5
  have y6 := m1.c6
  have y7 := m1.c7
  clear B1 B2 m1 m2 h hq1
  go_enter Try.func20, Try.ntmps20
  go_wp2_with fail
  rw [HW.out, Hg.out]
  refine kv.mono ?_
  rintro e w1 ⟨rfl, g1⟩
  have HB1 : Hid (Bw W w1) := g1
  have n1 := HM1.out.kept g1
  have HN1 := hid n1
  have HZ1 := hid (HM2.out.kept g1)
  have HL1 := hid (HL.out.on g1)
  clear kv g1 y0 y1 y2 y3 y4 y5 y6 y7 HW
  have y0 := n1.c0
  have y1 := n1.c1
  have y2 := n1.c2
  have y3 := n1.c3
  have y4 := n1.c4
  have y5 := n1.c5
  have y6 := n1.c6
  have y7 := n1.c7
  clear n1
  have HBX : Hid (Below w.heap.size w w1) := bel_bel HB2.out HB2.out.size HB1.out
  cases q1 with
  | false =>
    have HRR : Hid (agnL ⟨k, S, C, N, D, E, s, n⟩ = lzero ∧ agnE ⟨k, S, C, N, D, E, s, n⟩ = 2) := by refine ⟨?_, ?_⟩ <;> (first | unfold agnL agnB | unfold prpL agnB | unfold prpG agnB | unfold agnE) <;> rw [HLK.out] <;> rfl
    go_wp2_with (first | refine wpList_sln rfl rfl _ _ rfl (gg + 1) none 0 0 0 0 0 0 0 0 0 rfl rfl (by with_reducible exact HZ1.out) ?_)
    refine bodyPost_ret (v := .tuple #[.agg #[.slice none 0 0, .int .i64 0, .int .i64 0, .int .i64 0, .int .u64 0, .int .u64 0, .int .i64 0, .int .i64 0], .int .i64 2]) ?_ rfl ?_
    · exact results_ln rfl _ _ (gg + 1) none 0 0 0 0 0 0 0 0 0 _ rfl rfl (HZ1.out.row none 0 0 0 0 0 0 0 0 0)
    · simp only [HRR.out]
      exact ⟨_, rfl, none, 0, rfl, vs_none _ _, bel_row HBX.out (by have := Hg.out; omega) _⟩
  | true =>
    have hll := lokL_of HLK.out
    simp only at hll
    have hab := abN_i64 HLK.out
    have ka := rabove_ a m c k S C N D E s n w1 hll.2.2.2.2.1 (by omega) hll.2.2.2.2.2.2 hll.2.2.2.2.2.1
    obtain ⟨G, hG⟩ : ∃ G, abN ⟨k, S, C, N, D, E, s, n⟩ = G := ⟨_, rfl⟩
    rw [hG] at ka hab
    have HGG := hid hG
    clear hG hll
    go_wp2_with fail
    refine ka.mono ?_
    rintro e w2 ⟨rfl, g2⟩
    have HB2' : Hid (Bw W w2) := HB1.out.on g2
    have n2 := HN1.out.kept g2
    have HN2 := hid n2
    have HZ2 := hid (HZ1.out.kept g2)
    have HL2 := hid (HL1.out.on g2)
    have HBX2 : Hid (Below w.heap.size w w2) := bel_bel HB2.out HB2.out.size HB2'.out
    clear ka g2 y0 y1 y2 y3 y4 y5 y6 y7 HB1 HN1 HZ1 HL1 HBX
    have HB1 := HB2'
    have HN1 := HN2
    have HZ1 := HZ2
    have HL1 := HL2
    have HBX := HBX2
    have y0 := n2.c0
    have y1 := n2.c1
    have y2 := n2.c2
    have y3 := n2.c3
    have y4 := n2.c4
    have y5 := n2.c5
    have y6 := n2.c6
    have y7 := n2.c7
    clear n2 HB2' HN2 HZ2 HL2 HBX2
    by_cases hcab : G ≤ 2147483647
    case neg =>
      have HRR : Hid (agnL ⟨k, S, C, N, D, E, s, n⟩ = lzero ∧ agnE ⟨k, S, C, N, D, E, s, n⟩ = 168) := by
        have e1 : agnB ⟨k, S, C, N, D, E, s, n⟩ = false := by unfold agnB; rw [HLK.out, HGG.out, decide_eq_false hcab]; rfl
        refine ⟨?_, ?_⟩
        · unfold agnL; rw [e1]; rfl
        · unfold agnE; rw [HLK.out, HGG.out, if_pos rfl, if_neg hcab]
      go_wp2_with (first | refine wpList_sln rfl rfl _ _ rfl (gg + 1) none 0 0 0 0 0 0 0 0 0 rfl rfl (by with_reducible exact HZ1.out) ?_)
      refine bodyPost_ret (v := .tuple #[.agg #[.slice none 0 0, .int .i64 0, .int .i64 0, .int .i64 0, .int .u64 0, .int .u64 0, .int .i64 0, .int .i64 0], .int .i64 168]) ?_ rfl ?_
      · exact results_ln rfl _ _ (gg + 1) none 0 0 0 0 0 0 0 0 0 _ rfl rfl (HZ1.out.row none 0 0 0 0 0 0 0 0 0)
      · simp only [HRR.out]
        exact ⟨_, rfl, none, 0, rfl, vs_none _ _, bel_row HBX.out (by have := Hg.out; omega) _⟩
    have HRR : Hid (agnL ⟨k, S, C, N, D, E, s, n⟩ = ⟨k, S, G, N, 0, 0, s, n⟩ ∧ agnE ⟨k, S, C, N, D, E, s, n⟩ = 0) := by
      have e1 : agnB ⟨k, S, C, N, D, E, s, n⟩ = true := by unfold agnB; rw [HLK.out, HGG.out, decide_eq_true hcab]; rfl
      refine ⟨?_, ?_⟩
      · unfold agnL; rw [e1, HGG.out]; rfl
      · unfold agnE; rw [HLK.out, HGG.out, if_pos rfl, if_pos hcab]
    have kl := refLane_ a m c k S C N D E s n w2 HL1.out.k HL1.out.m
    go_wp2_with fail
    refine kl.mono ?_
    rintro e y9 ⟨za, zc, rfl, vz, gz⟩
    have HBY : Hid (Bw W y9) := HB1.out.on gz
    have HZY := hid (HZ1.out.kept gz)
    have HVZ : Hid (Vs y9 (fun x => W.heap.size ≤ x) za m zc k) := vz.wide fun x _ hx => Nat.le_trans (Below.size HB1.out) hx
    have HS0 := hid (Zs.new HBY.out HVZ.out S C N D E s n)
    have HR0 := hid (HZY.out.kept (lnew y9 za m zc S C N D E s n))
    clear kl vz gz y0 y1 y2 y3 y4 y5 y6 y7
    obtain ⟨z0, HZ0⟩ : ∃ y, Hid (y9.alloc (.cells #[.slice za m zc, .int .i64 S, .int .i64 C, .int .i64 N, .int .u64 D, .int .u64 E, .int .i64 s, .int .i64 n] 27) = y) := ⟨_, rfl⟩
    obtain ⟨gv, Hgv⟩ : ∃ y, Hid (y9.heap.size = y) := ⟨_, rfl⟩
    rw [HZ0.out] at HS0 HR0
    rw [Hgv.out] at HS0
    have HGV : Hid (gv ≠ gg + 1) := by have h1 := HS0.out.ge; have h2 := HWS.out; show _ ≠ _; omega
    go_upto_region 8 with fail
    rw [HZ0.out, Hgv.out]
    clear HZ0 HVZ HBY HZY
    have f0 := HS0.out.lm.fz 2
    have d0 := HS0.out.lm.c2
    have HS1 := hid (HS0.out.s2 G)
    have HR1 : Hid (Lm (z0.setCell ⟨gv, 2, none⟩ (.int .i64 G)) (gg + 1) none 0 0 0 0 0 0 0 0 0) := HR0.out.at (Below.heap_setCell _ _ _ _ (Ne.symm HGV.out))
    obtain ⟨z1, HZ1⟩ : ∃ y, Hid (z0.setCell ⟨gv, 2, none⟩ (.int .i64 G) = y) := ⟨_, rfl⟩
    rw [HZ1.out] at HS1 HR1
    go_upto_region 9 with fail
    rw [HZ1.out]
    clear HZ1 f0 d0 HS0 HR0
    have f1 := HS1.out.lm.fz 4
    have d1 := HS1.out.lm.c4
    have HS2 := hid (HS1.out.s4 0)
    have HR2 : Hid (Lm (z1.setCell ⟨gv, 4, none⟩ (.int .u64 0)) (gg + 1) none 0 0 0 0 0 0 0 0 0) := HR1.out.at (Below.heap_setCell _ _ _ _ (Ne.symm HGV.out))
    obtain ⟨z2, HZ2⟩ : ∃ y, Hid (z1.setCell ⟨gv, 4, none⟩ (.int .u64 0) = y) := ⟨_, rfl⟩
    rw [HZ2.out] at HS2 HR2
    go_upto_region 10 with fail
    rw [HZ2.out]
    clear HZ2 f1 d1 HS1 HR1
    have f2 := HS2.out.lm.fz 5
    have d2 := HS2.out.lm.c5
    have HS3 := hid (HS2.out.s5 0)
    have HR3 : Hid (Lm (z2.setCell ⟨gv, 5, none⟩ (.int .u64 0)) (gg + 1) none 0 0 0 0 0 0 0 0 0) := HR2.out.at (Below.heap_setCell _ _ _ _ (Ne.symm HGV.out))
    obtain ⟨z3, HZ3⟩ : ∃ y, Hid (z2.setCell ⟨gv, 5, none⟩ (.int .u64 0) = y) := ⟨_, rfl⟩
    rw [HZ3.out] at HS3 HR3
    go_upto_region 11 with fail
    rw [HZ3.out]
    clear HZ3 f2 d2 HS2 HR2
    have d0 := HS3.out.lm.c0
    have d1 := HS3.out.lm.c1
    have d2 := HS3.out.lm.c2
    have d3 := HS3.out.lm.c3
    have d4 := HS3.out.lm.c4
    have d5 := HS3.out.lm.c5
    have d6 := HS3.out.lm.c6
    have d7 := HS3.out.lm.c7
    go_wp2_with (refine wpList_sln rfl rfl _ _ rfl (gg + 1) za m zc S G N 0 0 s n rfl rfl (by with_reducible exact HR3.out) ?_)
    refine bodyPost_ret (v := .tuple #[.agg #[.slice za m zc, .int .i64 S, .int .i64 G, .int .i64 N, .int .u64 0, .int .u64 0, .int .i64 s, .int .i64 n], .int .i64 0]) ?_ rfl ?_
    · exact results_ln rfl _ _ (gg + 1) za m zc S G N 0 0 s n _ rfl rfl (HR3.out.row za m zc S G N 0 0 s n)
    · simp only [HRR.out]
      refine ⟨_, rfl, za, zc, ?_, ?_, bel_row (bel_bel HB2.out HB2.out.size HS3.out.bw) (by have := Hg.out; omega) _⟩
      · simp only [hkl]
      · simp only [hkl]
        exact (HS3.out.vs.step fun x _ hx _ => setRow_other _ _ _ _ (by have := HWS.out; omega)).wide fun x _ hx => by have := HWS.out; have := Hg.out; omega
set_option maxHeartbeats 4000000 in
theorem rpropose_ (a : Option Addr) (m c : Nat) (k : List Int) (S C N D E s n : Int) (w : World) (h : Li w a m k S C N D E s n) :
    Calls Try.prog 22 #[.agg #[.slice a m c, .int .i64 S, .int .i64 C, .int .i64 N, .int .u64 D, .int .u64 E, .int .i64 s, .int .i64 n]] w fun e w' => Rl3 w (prpL ⟨k, S, C, N, D, E, s, n⟩) (.int .i64 (prpG ⟨k, S, C, N, D, E, s, n⟩)) (.int .i64 (agnE ⟨k, S, C, N, D, E, s, n⟩)) e w' := by
  have B1 := lnew w a m c S C N D E s n
  have B2 := B1.alloc (B := w.heap.size) (by simp) (.cells #[.slice none 0 0, .int .i64 0, .int .i64 0, .int .i64 0, .int .u64 0, .int .u64 0, .int .i64 0, .int .i64 0] 27)
  have m1 := (Lm.new w a m c S C N D E s n).kept (lnew _ none 0 0 0 0 0 0 0 0 0)
  have m2 := Lm.new (w.alloc (.cells #[.slice a m c, .int .i64 S, .int .i64 C, .int .i64 N, .int .u64 D, .int .u64 E, .int .i64 s, .int .i64 n] 27)) none 0 0 0 0 0 0 0 0 0
  rw [World.size_alloc] at m2
  obtain ⟨W, HW⟩ : ∃ y, Hid ((w.alloc (.cells #[.slice a m c, .int .i64 S, .int .i64 C, .int .i64 N, .int .u64 D, .int .u64 E, .int .i64 s, .int .i64 n] 27)).alloc (.cells #[.slice none 0 0, .int .i64 0, .int .i64 0, .int .i64 0, .int .u64 0, .int .u64 0, .int .i64 0, .int .i64 0] 27) = y) := ⟨_, rfl⟩
  obtain ⟨gg, Hg⟩ : ∃ y, Hid (w.heap.size = y) := ⟨_, rfl⟩
  have HWS : Hid (W.heap.size = gg + 2) := by show _ = _; rw [← HW.out, ← Hg.out]; simp
  rw [HW.out] at B2 m1 m2
  have HB2 := hid B2
  rw [Hg.out] at m1 m2
  have HM1 := hid m1
  have HM2 := hid m2
  have HL := hid (h.on B2)
  have hkl : k.length = m := h.k.1
  have kv := rvalid17_ a m c S C N D E s n W (Nat.le_trans h.m (by unfold maxLen; omega))
  have HLI := hid h
  obtain ⟨q1, hq1⟩ : ∃ q, lok m S C N s n = q := ⟨_, rfl⟩
  rw [hq1] at kv
  have HLK : Hid (lokL ⟨k, S, C, N, D, E, s, n⟩ = q1) := by show lok k.length S C N s n = q1; rw [hkl]; exact hq1
  have y0 := m1.c0
  have y1 := m1.c1
  have y2 := m1.c2
  have y3 := m1.c3
  have y4 := m1.c4
  have y5 := m1.c5
  have y6 := m1.c6
  have y7 := m1.c7
  clear B1 B2 m1 m2 h hq1
  go_enter Try.func22, Try.ntmps22
  go_wp2_with fail
  rw [HW.out, Hg.out]
  refine kv.mono ?_
  rintro e w1 ⟨rfl, g1⟩
  have HB1 : Hid (Bw W w1) := g1
  have n1 := HM1.out.kept g1
  have HN1 := hid n1
  have HZ1 := hid (HM2.out.kept g1)
  have HL1 := hid (HL.out.on g1)
  clear kv g1 y0 y1 y2 y3 y4 y5 y6 y7 HW
  have y0 := n1.c0
  have y1 := n1.c1
  have y2 := n1.c2
  have y3 := n1.c3
  have y4 := n1.c4
  have y5 := n1.c5
  have y6 := n1.c6
  have y7 := n1.c7
  clear n1
  have HBX : Hid (Below w.heap.size w w1) := bel_bel HB2.out HB2.out.size HB1.out
  cases q1 with
  | false =>
    have HRR : Hid (prpL ⟨k, S, C, N, D, E, s, n⟩ = lzero ∧ prpG ⟨k, S, C, N, D, E, s, n⟩ = 0 ∧ agnE ⟨k, S, C, N, D, E, s, n⟩ = 2) := by refine ⟨?_, ?_, ?_⟩ <;> (first | unfold agnL agnB | unfold prpL agnB | unfold prpG agnB | unfold agnE) <;> rw [HLK.out] <;> rfl
    go_wp2_with (first | refine wpList_sln rfl rfl _ _ rfl (gg + 1) none 0 0 0 0 0 0 0 0 0 rfl rfl (by with_reducible exact HZ1.out) ?_)
    refine bodyPost_ret (v := .tuple #[.agg #[.slice none 0 0, .int .i64 0, .int .i64 0, .int .i64 0, .int .u64 0, .int .u64 0, .int .i64 0, .int .i64 0], .int .i64 0, .int .i64 2]) ?_ rfl ?_
    · exact results_ln3 rfl _ _ (gg + 1) none 0 0 0 0 0 0 0 0 0 _ _ rfl rfl rfl (HZ1.out.row none 0 0 0 0 0 0 0 0 0)
    · simp only [HRR.out]
      exact ⟨_, rfl, none, 0, rfl, vs_none _ _, bel_row HBX.out (by have := Hg.out; omega) _⟩
  | true =>
    have hll := lokL_of HLK.out
    simp only at hll
    have hab := abN_i64 HLK.out
    have ka := rabove_ a m c k S C N D E s n w1 hll.2.2.2.2.1 (by omega) hll.2.2.2.2.2.2 hll.2.2.2.2.2.1
    obtain ⟨G, hG⟩ : ∃ G, abN ⟨k, S, C, N, D, E, s, n⟩ = G := ⟨_, rfl⟩
    rw [hG] at ka hab
    have HGG := hid hG
    clear hG hll
    go_wp2_with fail
    refine ka.mono ?_
    rintro e w2 ⟨rfl, g2⟩
    have HB2' : Hid (Bw W w2) := HB1.out.on g2
    have n2 := HN1.out.kept g2
    have HN2 := hid n2
    have HZ2 := hid (HZ1.out.kept g2)
    have HL2 := hid (HL1.out.on g2)
    have HBX2 : Hid (Below w.heap.size w w2) := bel_bel HB2.out HB2.out.size HB2'.out
    clear ka g2 y0 y1 y2 y3 y4 y5 y6 y7 HB1 HN1 HZ1 HL1 HBX
    have HB1 := HB2'
    have HN1 := HN2
    have HZ1 := HZ2
    have HL1 := HL2
    have HBX := HBX2
    have y0 := n2.c0
    have y1 := n2.c1
    have y2 := n2.c2
    have y3 := n2.c3
    have y4 := n2.c4
    have y5 := n2.c5
    have y6 := n2.c6
    have y7 := n2.c7
    clear n2 HB2' HN2 HZ2 HL2 HBX2
    by_cases hcab : G ≤ 2147483647
    case neg =>
      have HRR : Hid (prpL ⟨k, S, C, N, D, E, s, n⟩ = lzero ∧ prpG ⟨k, S, C, N, D, E, s, n⟩ = 0 ∧ agnE ⟨k, S, C, N, D, E, s, n⟩ = 168) := by
        have e1 : agnB ⟨k, S, C, N, D, E, s, n⟩ = false := by unfold agnB; rw [HLK.out, HGG.out, decide_eq_false hcab]; rfl
        refine ⟨?_, ?_, ?_⟩
        · unfold prpL; rw [e1]; rfl
        · unfold prpG; rw [e1]; rfl
        · unfold agnE; rw [HLK.out, HGG.out, if_pos rfl, if_neg hcab]
      go_wp2_with (first | refine wpList_sln rfl rfl _ _ rfl (gg + 1) none 0 0 0 0 0 0 0 0 0 rfl rfl (by with_reducible exact HZ1.out) ?_)
      refine bodyPost_ret (v := .tuple #[.agg #[.slice none 0 0, .int .i64 0, .int .i64 0, .int .i64 0, .int .u64 0, .int .u64 0, .int .i64 0, .int .i64 0], .int .i64 0, .int .i64 168]) ?_ rfl ?_
      · exact results_ln3 rfl _ _ (gg + 1) none 0 0 0 0 0 0 0 0 0 _ _ rfl rfl rfl (HZ1.out.row none 0 0 0 0 0 0 0 0 0)
      · simp only [HRR.out]
        exact ⟨_, rfl, none, 0, rfl, vs_none _ _, bel_row HBX.out (by have := Hg.out; omega) _⟩
    have HRR : Hid (prpL ⟨k, S, C, N, D, E, s, n⟩ = ⟨k, S, C, G, D, E, s, n⟩ ∧ prpG ⟨k, S, C, N, D, E, s, n⟩ = G ∧ agnE ⟨k, S, C, N, D, E, s, n⟩ = 0) := by
      have e1 : agnB ⟨k, S, C, N, D, E, s, n⟩ = true := by unfold agnB; rw [HLK.out, HGG.out, decide_eq_true hcab]; rfl
      refine ⟨?_, ?_, ?_⟩
      · unfold prpL; rw [e1, HGG.out]; rfl
      · unfold prpG; rw [e1, HGG.out]; rfl
      · unfold agnE; rw [HLK.out, HGG.out, if_pos rfl, if_pos hcab]
    have kl := refLane_ a m c k S C N D E s n w2 HL1.out.k HL1.out.m
    go_wp2_with fail
    refine kl.mono ?_
    rintro e y9 ⟨za, zc, rfl, vz, gz⟩
    have HBY : Hid (Bw W y9) := HB1.out.on gz
    have HZY := hid (HZ1.out.kept gz)
    have HVZ : Hid (Vs y9 (fun x => W.heap.size ≤ x) za m zc k) := vz.wide fun x _ hx => Nat.le_trans (Below.size HB1.out) hx
    have HS0 := hid (Zs.new HBY.out HVZ.out S C N D E s n)
    have HR0 := hid (HZY.out.kept (lnew y9 za m zc S C N D E s n))
    clear kl vz gz y0 y1 y2 y3 y4 y5 y6 y7
    obtain ⟨z0, HZ0⟩ : ∃ y, Hid (y9.alloc (.cells #[.slice za m zc, .int .i64 S, .int .i64 C, .int .i64 N, .int .u64 D, .int .u64 E, .int .i64 s, .int .i64 n] 27) = y) := ⟨_, rfl⟩
    obtain ⟨gv, Hgv⟩ : ∃ y, Hid (y9.heap.size = y) := ⟨_, rfl⟩
    rw [HZ0.out] at HS0 HR0
    rw [Hgv.out] at HS0
    have HGV : Hid (gv ≠ gg + 1) := by have h1 := HS0.out.ge; have h2 := HWS.out; show _ ≠ _; omega
    go_upto_region 8 with fail
    rw [HZ0.out, Hgv.out]
    clear HZ0 HVZ HBY HZY
    have f0 := HS0.out.lm.fz 3
    have d0 := HS0.out.lm.c3
    have HS1 := hid (HS0.out.s3 G)
    have HR1 : Hid (Lm (z0.setCell ⟨gv, 3, none⟩ (.int .i64 G)) (gg + 1) none 0 0 0 0 0 0 0 0 0) := HR0.out.at (Below.heap_setCell _ _ _ _ (Ne.symm HGV.out))
    obtain ⟨z1, HZ1⟩ : ∃ y, Hid (z0.setCell ⟨gv, 3, none⟩ (.int .i64 G) = y) := ⟨_, rfl⟩
    rw [HZ1.out] at HS1 HR1
    go_upto_region 9 with fail
    rw [HZ1.out]
    clear HZ1 f0 d0 HS0 HR0
    have d0 := HS1.out.lm.c0
    have d1 := HS1.out.lm.c1
    have d2 := HS1.out.lm.c2
    have d3 := HS1.out.lm.c3
    have d4 := HS1.out.lm.c4
    have d5 := HS1.out.lm.c5
    have d6 := HS1.out.lm.c6
    have d7 := HS1.out.lm.c7
    go_wp2_with (refine wpList_sln rfl rfl _ _ rfl (gg + 1) za m zc S C G D E s n rfl rfl (by with_reducible exact HR1.out) ?_)
    refine bodyPost_ret (v := .tuple #[.agg #[.slice za m zc, .int .i64 S, .int .i64 C, .int .i64 G, .int .u64 D, .int .u64 E, .int .i64 s, .int .i64 n], .int .i64 G, .int .i64 0]) ?_ rfl ?_
    · exact results_ln3 rfl _ _ (gg + 1) za m zc S C G D E s n _ _ rfl rfl rfl (HR1.out.row za m zc S C G D E s n)
    · simp only [HRR.out]
      refine ⟨_, rfl, za, zc, ?_, ?_, bel_row (bel_bel HB2.out HB2.out.size HS1.out.bw) (by have := Hg.out; omega) _⟩
      · simp only [hkl]
      · simp only [hkl]
        exact (HS1.out.vs.step fun x _ hx _ => setRow_other _ _ _ _ (by have := HWS.out; omega)).wide fun x _ hx => by have := HWS.out; have := Hg.out; omega
set_option maxHeartbeats 4000000 in
theorem rreserve_ (a : Option Addr) (m c : Nat) (k : List Int) (S C N D E s n x b : Int) (w : World) (h : Li w a m k S C N D E s n) (hx : u64r x) (hb : i64r b) :
    Calls Try.prog 25 #[.agg #[.slice a m c, .int .i64 S, .int .i64 C, .int .i64 N, .int .u64 D, .int .u64 E, .int .i64 s, .int .i64 n], .int .u64 x, .int .i64 b] w fun e w' => Rl1 w (resL ⟨k, S, C, N, D, E, s, n⟩ x b) e w' := by
  have B1 := lnew w a m c S C N D E s n
  have B2 := B1.alloc (B := w.heap.size) (by simp) (.cells #[.slice none 0 0, .int .i64 0, .int .i64 0, .int .i64 0, .int .u64 0, .int .u64 0, .int .i64 0, .int .i64 0] 27)
  have m1 := (Lm.new w a m c S C N D E s n).kept (lnew _ none 0 0 0 0 0 0 0 0 0)
  have m2 := Lm.new (w.alloc (.cells #[.slice a m c, .int .i64 S, .int .i64 C, .int .i64 N, .int .u64 D, .int .u64 E, .int .i64 s, .int .i64 n] 27)) none 0 0 0 0 0 0 0 0 0
  rw [World.size_alloc] at m2
  obtain ⟨W, HW⟩ : ∃ y, Hid ((w.alloc (.cells #[.slice a m c, .int .i64 S, .int .i64 C, .int .i64 N, .int .u64 D, .int .u64 E, .int .i64 s, .int .i64 n] 27)).alloc (.cells #[.slice none 0 0, .int .i64 0, .int .i64 0, .int .i64 0, .int .u64 0, .int .u64 0, .int .i64 0, .int .i64 0] 27) = y) := ⟨_, rfl⟩
  obtain ⟨gg, Hg⟩ : ∃ y, Hid (w.heap.size = y) := ⟨_, rfl⟩
  have HWS : Hid (W.heap.size = gg + 2) := by show _ = _; rw [← HW.out, ← Hg.out]; simp
  rw [HW.out] at B2 m1 m2
  have HB2 := hid B2
  rw [Hg.out] at m1 m2
  have HM1 := hid m1
  have HM2 := hid m2
  have HL := hid (h.on B2)
  have hkl : k.length = m := h.k.1
  have kv := rvalid17_ a m c S C N D E s n W (Nat.le_trans h.m (by unfold maxLen; omega))
  have HLI := hid h
  obtain ⟨q1, hq1⟩ : ∃ q, lok m S C N s n = q := ⟨_, rfl⟩
  rw [hq1] at kv
  have HLK : Hid (lokL ⟨k, S, C, N, D, E, s, n⟩ = q1) := by show lok k.length S C N s n = q1; rw [hkl]; exact hq1
  have y0 := m1.c0
  have y1 := m1.c1
  have y2 := m1.c2
  have y3 := m1.c3
  have y4 := m1.c4
  have y5 := m1.c5
  have y6 := m1.c6
  have y7 := m1.c7
  clear B1 B2 m1 m2 h hq1
  go_enter Try.func25, Try.ntmps25
  go_wp2_with fail
  rw [HW.out, Hg.out]
  refine kv.mono ?_
  rintro e w1 ⟨rfl, g1⟩
  have HB1 : Hid (Bw W w1) := g1
  have n1 := HM1.out.kept g1
  have HN1 := hid n1
  have HZ1 := hid (HM2.out.kept g1)
  have HL1 := hid (HL.out.on g1)
  clear kv g1 y0 y1 y2 y3 y4 y5 y6 y7 HW
  have y0 := n1.c0
  have y1 := n1.c1
  have y2 := n1.c2
  have y3 := n1.c3
  have y4 := n1.c4
  have y5 := n1.c5
  have y6 := n1.c6
  have y7 := n1.c7
  clear n1
  have HBX : Hid (Below w.heap.size w w1) := bel_bel HB2.out HB2.out.size HB1.out
  have kb := fun wx => rblocks_ b wx
  obtain ⟨q2, hq2⟩ : ∃ q, blk b = q := ⟨_, rfl⟩
  rw [hq2] at kb
  have HBK := hid hq2
  clear hq2
  cases q1 with
  | false =>
    have HRR : Hid (resL ⟨k, S, C, N, D, E, s, n⟩ x b = lzero) := by show _ = _; unfold resL resB; rw [HLK.out]; rfl
    go_wp2_with (first | (go_at_call 38; refine (kb _).mono ?_; rintro eb wb ⟨rfl, rfl⟩) | refine wpList_sln rfl rfl _ _ rfl (gg + 1) none 0 0 0 0 0 0 0 0 0 rfl rfl (by with_reducible exact HZ1.out) ?_)
    refine bodyPost_ret (v := .agg #[.slice none 0 0, .int .i64 0, .int .i64 0, .int .i64 0, .int .u64 0, .int .u64 0, .int .i64 0, .int .i64 0]) ?_ rfl ?_
    · exact results_cell_row rfl _ _ (gg + 1) _ _ _ _ rfl (HZ1.out.row none 0 0 0 0 0 0 0 0 0) Try.underlying27 rfl sizeln
    · simp only [HRR.out]
      exact ⟨_, rfl, none, 0, rfl, vs_none _ _, bel_row HBX.out (by have := Hg.out; omega) _⟩
  | true =>
    cases q2 with
    | false =>
      have HRR : Hid (resL ⟨k, S, C, N, D, E, s, n⟩ x b = lzero) := by show _ = _; unfold resL resB; rw [HLK.out, HBK.out]; rfl
      go_wp2_with (first | (go_at_call 38; refine (kb _).mono ?_; rintro eb wb ⟨rfl, rfl⟩) | refine wpList_sln rfl rfl _ _ rfl (gg + 1) none 0 0 0 0 0 0 0 0 0 rfl rfl (by with_reducible exact HZ1.out) ?_)
      refine bodyPost_ret (v := .agg #[.slice none 0 0, .int .i64 0, .int .i64 0, .int .i64 0, .int .u64 0, .int .u64 0, .int .i64 0, .int .i64 0]) ?_ rfl ?_
      · exact results_cell_row rfl _ _ (gg + 1) _ _ _ _ rfl (HZ1.out.row none 0 0 0 0 0 0 0 0 0) Try.underlying27 rfl sizeln
      · simp only [HRR.out]
        exact ⟨_, rfl, none, 0, rfl, vs_none _ _, bel_row HBX.out (by have := Hg.out; omega) _⟩
    | true =>
      by_cases hc1 : D ≤ x
      case neg =>
        have HRR : Hid (resL ⟨k, S, C, N, D, E, s, n⟩ x b = lzero) := by show _ = _; unfold resL resB; rw [HLK.out, HBK.out, decide_eq_false (by intro hh; simp only at hh; exact hc1 (by omega))]; rfl
        go_wp2_with (first | (go_at_call 38; refine (kb _).mono ?_; rintro eb wb ⟨rfl, rfl⟩) | refine wpList_sln rfl rfl _ _ rfl (gg + 1) none 0 0 0 0 0 0 0 0 0 rfl rfl (by with_reducible exact HZ1.out) ?_)
        refine bodyPost_ret (v := .agg #[.slice none 0 0, .int .i64 0, .int .i64 0, .int .i64 0, .int .u64 0, .int .u64 0, .int .i64 0, .int .i64 0]) ?_ rfl ?_
        · exact results_cell_row rfl _ _ (gg + 1) _ _ _ _ rfl (HZ1.out.row none 0 0 0 0 0 0 0 0 0) Try.underlying27 rfl sizeln
        · simp only [HRR.out]
          exact ⟨_, rfl, none, 0, rfl, vs_none _ _, bel_row HBX.out (by have := Hg.out; omega) _⟩
      by_cases hc2 : x ≤ 18446744073709551614
      case neg =>
        have HRR : Hid (resL ⟨k, S, C, N, D, E, s, n⟩ x b = lzero) := by show _ = _; unfold resL resB; rw [HLK.out, HBK.out, decide_eq_false (by intro hh; simp only at hh; exact hc2 (by omega))]; rfl
        go_wp2_with (first | (go_at_call 38; refine (kb _).mono ?_; rintro eb wb ⟨rfl, rfl⟩) | refine wpList_sln rfl rfl _ _ rfl (gg + 1) none 0 0 0 0 0 0 0 0 0 rfl rfl (by with_reducible exact HZ1.out) ?_)
        refine bodyPost_ret (v := .agg #[.slice none 0 0, .int .i64 0, .int .i64 0, .int .i64 0, .int .u64 0, .int .u64 0, .int .i64 0, .int .i64 0]) ?_ rfl ?_
        · exact results_cell_row rfl _ _ (gg + 1) _ _ _ _ rfl (HZ1.out.row none 0 0 0 0 0 0 0 0 0) Try.underlying27 rfl sizeln
        · simp only [HRR.out]
          exact ⟨_, rfl, none, 0, rfl, vs_none _ _, bel_row HBX.out (by have := Hg.out; omega) _⟩
      have HRR : Hid (resL ⟨k, S, C, N, D, E, s, n⟩ x b = ⟨k, S, C, N, (upN x b), E, s, n⟩) := by show _ = _; unfold resL resB; rw [HLK.out, HBK.out, decide_eq_true (by simp only; omega)]; rfl
      have kl := refLane_ a m c k S C N D E s n w1 HL1.out.k HL1.out.m
      go_wp2_with (first | (go_at_call 38; refine (kb _).mono ?_; rintro eb wb ⟨rfl, rfl⟩) | fail)
      refine kl.mono ?_
      rintro e y9 ⟨za, zc, rfl, vz, gz⟩
      have HBY : Hid (Bw W y9) := HB1.out.on gz
      have HZY := hid (HZ1.out.kept gz)
      have HVZ : Hid (Vs y9 (fun x => W.heap.size ≤ x) za m zc k) := vz.wide fun x _ hx => Nat.le_trans (Below.size HB1.out) hx
      have HS0 := hid (Zs.new HBY.out HVZ.out S C N D E s n)
      have HR0 := hid (HZY.out.kept (lnew y9 za m zc S C N D E s n))
      clear kl vz gz y0 y1 y2 y3 y4 y5 y6 y7
      obtain ⟨z0, HZ0⟩ : ∃ y, Hid (y9.alloc (.cells #[.slice za m zc, .int .i64 S, .int .i64 C, .int .i64 N, .int .u64 D, .int .u64 E, .int .i64 s, .int .i64 n] 27) = y) := ⟨_, rfl⟩
      obtain ⟨gv, Hgv⟩ : ∃ y, Hid (y9.heap.size = y) := ⟨_, rfl⟩
      rw [HZ0.out] at HS0 HR0
      rw [Hgv.out] at HS0
      have HGV : Hid (gv ≠ gg + 1) := by have h1 := HS0.out.ge; have h2 := HWS.out; show _ ≠ _; omega
      go_upto_region 6 with fail
      rw [HZ0.out, Hgv.out]
      clear HZ0 HVZ HBY HZY
      have ku := rup_ x b z0 hx hb
      go_wp2_with fail
      refine ku.mono ?_
      rintro e z1 ⟨rfl, gu⟩
      have HS1 := hid (HS0.out.on gu)
      have HR1 := hid (HR0.out.kept gu)
      clear ku gu HS0 HR0
      have f0 := HS1.out.lm.fz 4
      have d0 := HS1.out.lm.c4
      have HS2 := hid (HS1.out.s4 (upN x b))
      have HR2 : Hid (Lm (z1.setCell ⟨gv, 4, none⟩ (.int .u64 (upN x b))) (gg + 1) none 0 0 0 0 0 0 0 0 0) := HR1.out.at (Below.heap_setCell _ _ _ _ (Ne.symm HGV.out))
      obtain ⟨z2, HZ2⟩ : ∃ y, Hid (z1.setCell ⟨gv, 4, none⟩ (.int .u64 (upN x b)) = y) := ⟨_, rfl⟩
      rw [HZ2.out] at HS2 HR2
      go_upto_region 7 with fail
      rw [HZ2.out]
      clear HZ2 f0 d0 HS1 HR1
      have d0 := HS2.out.lm.c0
      have d1 := HS2.out.lm.c1
      have d2 := HS2.out.lm.c2
      have d3 := HS2.out.lm.c3
      have d4 := HS2.out.lm.c4
      have d5 := HS2.out.lm.c5
      have d6 := HS2.out.lm.c6
      have d7 := HS2.out.lm.c7
      go_wp2_with (refine wpList_sln rfl rfl _ _ rfl (gg + 1) za m zc S C N (upN x b) E s n rfl rfl (by with_reducible exact HR2.out) ?_)
      refine bodyPost_ret (v := .agg #[.slice za m zc, .int .i64 S, .int .i64 C, .int .i64 N, .int .u64 (upN x b), .int .u64 E, .int .i64 s, .int .i64 n]) ?_ rfl ?_
      · exact results_cell_row rfl _ _ (gg + 1) _ _ _ _ rfl (HR2.out.row za m zc S C N (upN x b) E s n) Try.underlying27 rfl sizeln
      · simp only [HRR.out]
        refine ⟨_, rfl, za, zc, ?_, ?_, bel_row (bel_bel HB2.out HB2.out.size HS2.out.bw) (by have := Hg.out; omega) _⟩
        · simp only [hkl]
        · simp only [hkl]
          exact (HS2.out.vs.step fun x _ hx _ => setRow_other _ _ _ _ (by have := HWS.out; omega)).wide fun x _ hx => by have := HWS.out; have := Hg.out; omega
set_option maxHeartbeats 4000000 in
theorem ropened_ (a : Option Addr) (m c : Nat) (k : List Int) (S C N D E s n g x b : Int) (w : World) (h : Li w a m k S C N D E s n) (hg : i64r g) (hx : u64r x) (hb : i64r b) :
    Calls Try.prog 27 #[.agg #[.slice a m c, .int .i64 S, .int .i64 C, .int .i64 N, .int .u64 D, .int .u64 E, .int .i64 s, .int .i64 n], .int .i64 g, .int .u64 x, .int .i64 b] w fun e w' => Rl1 w (opnL ⟨k, S, C, N, D, E, s, n⟩ g x b) e w' := by
  have B1 := lnew w a m c S C N D E s n
  have B2 := B1.alloc (B := w.heap.size) (by simp) (.cells #[.slice none 0 0, .int .i64 0, .int .i64 0, .int .i64 0, .int .u64 0, .int .u64 0, .int .i64 0, .int .i64 0] 27)
  have m1 := (Lm.new w a m c S C N D E s n).kept (lnew _ none 0 0 0 0 0 0 0 0 0)
  have m2 := Lm.new (w.alloc (.cells #[.slice a m c, .int .i64 S, .int .i64 C, .int .i64 N, .int .u64 D, .int .u64 E, .int .i64 s, .int .i64 n] 27)) none 0 0 0 0 0 0 0 0 0
  rw [World.size_alloc] at m2
  obtain ⟨W, HW⟩ : ∃ y, Hid ((w.alloc (.cells #[.slice a m c, .int .i64 S, .int .i64 C, .int .i64 N, .int .u64 D, .int .u64 E, .int .i64 s, .int .i64 n] 27)).alloc (.cells #[.slice none 0 0, .int .i64 0, .int .i64 0, .int .i64 0, .int .u64 0, .int .u64 0, .int .i64 0, .int .i64 0] 27) = y) := ⟨_, rfl⟩
  obtain ⟨gg, Hg⟩ : ∃ y, Hid (w.heap.size = y) := ⟨_, rfl⟩
  have HWS : Hid (W.heap.size = gg + 2) := by show _ = _; rw [← HW.out, ← Hg.out]; simp
  rw [HW.out] at B2 m1 m2
  have HB2 := hid B2
  rw [Hg.out] at m1 m2
  have HM1 := hid m1
  have HM2 := hid m2
  have HL := hid (h.on B2)
  have hkl : k.length = m := h.k.1
  have kv := rvalid17_ a m c S C N D E s n W (Nat.le_trans h.m (by unfold maxLen; omega))
  have HLI := hid h
  obtain ⟨q1, hq1⟩ : ∃ q, lok m S C N s n = q := ⟨_, rfl⟩
  rw [hq1] at kv
  have HLK : Hid (lokL ⟨k, S, C, N, D, E, s, n⟩ = q1) := by show lok k.length S C N s n = q1; rw [hkl]; exact hq1
  have y0 := m1.c0
  have y1 := m1.c1
  have y2 := m1.c2
  have y3 := m1.c3
  have y4 := m1.c4
  have y5 := m1.c5
  have y6 := m1.c6
  have y7 := m1.c7
  clear B1 B2 m1 m2 h hq1
  go_enter Try.func27, Try.ntmps27
  go_wp2_with fail
  rw [HW.out, Hg.out]
  refine kv.mono ?_
  rintro e w1 ⟨rfl, g1⟩
  have HB1 : Hid (Bw W w1) := g1
  have n1 := HM1.out.kept g1
  have HN1 := hid n1
  have HZ1 := hid (HM2.out.kept g1)
  have HL1 := hid (HL.out.on g1)
  clear kv g1 y0 y1 y2 y3 y4 y5 y6 y7 HW
  have y0 := n1.c0
  have y1 := n1.c1
  have y2 := n1.c2
  have y3 := n1.c3
  have y4 := n1.c4
  have y5 := n1.c5
  have y6 := n1.c6
  have y7 := n1.c7
  clear n1
  have HBX : Hid (Below w.heap.size w w1) := bel_bel HB2.out HB2.out.size HB1.out
  have kb := fun wx => rblocks_ b wx
  obtain ⟨q2, hq2⟩ : ∃ q, blk b = q := ⟨_, rfl⟩
  rw [hq2] at kb
  have HBK := hid hq2
  clear hq2
  cases q1 with
  | false =>
    have HRR : Hid (opnL ⟨k, S, C, N, D, E, s, n⟩ g x b = lzero) := by show _ = _; unfold opnL opnB; rw [HLK.out]; rfl
    go_wp2_with (first | (go_at_call 38; refine (kb _).mono ?_; rintro eb wb ⟨rfl, rfl⟩) | refine wpList_sln rfl rfl _ _ rfl (gg + 1) none 0 0 0 0 0 0 0 0 0 rfl rfl (by with_reducible exact HZ1.out) ?_)
    refine bodyPost_ret (v := .agg #[.slice none 0 0, .int .i64 0, .int .i64 0, .int .i64 0, .int .u64 0, .int .u64 0, .int .i64 0, .int .i64 0]) ?_ rfl ?_
    · exact results_cell_row rfl _ _ (gg + 1) _ _ _ _ rfl (HZ1.out.row none 0 0 0 0 0 0 0 0 0) Try.underlying27 rfl sizeln
    · simp only [HRR.out]
      exact ⟨_, rfl, none, 0, rfl, vs_none _ _, bel_row HBX.out (by have := Hg.out; omega) _⟩
  | true =>
    cases q2 with
    | false =>
      have HRR : Hid (opnL ⟨k, S, C, N, D, E, s, n⟩ g x b = lzero) := by show _ = _; unfold opnL opnB; rw [HLK.out, HBK.out]; rfl
      go_wp2_with (first | (go_at_call 38; refine (kb _).mono ?_; rintro eb wb ⟨rfl, rfl⟩) | refine wpList_sln rfl rfl _ _ rfl (gg + 1) none 0 0 0 0 0 0 0 0 0 rfl rfl (by with_reducible exact HZ1.out) ?_)
      refine bodyPost_ret (v := .agg #[.slice none 0 0, .int .i64 0, .int .i64 0, .int .i64 0, .int .u64 0, .int .u64 0, .int .i64 0, .int .i64 0]) ?_ rfl ?_
      · exact results_cell_row rfl _ _ (gg + 1) _ _ _ _ rfl (HZ1.out.row none 0 0 0 0 0 0 0 0 0) Try.underlying27 rfl sizeln
      · simp only [HRR.out]
        exact ⟨_, rfl, none, 0, rfl, vs_none _ _, bel_row HBX.out (by have := Hg.out; omega) _⟩
    | true =>
      by_cases hc1 : C < g
      case neg =>
        have HRR : Hid (opnL ⟨k, S, C, N, D, E, s, n⟩ g x b = lzero) := by show _ = _; unfold opnL opnB; rw [HLK.out, HBK.out, decide_eq_false (by intro hh; simp only at hh; exact hc1 (by omega))]; rfl
        go_wp2_with (first | (go_at_call 38; refine (kb _).mono ?_; rintro eb wb ⟨rfl, rfl⟩) | refine wpList_sln rfl rfl _ _ rfl (gg + 1) none 0 0 0 0 0 0 0 0 0 rfl rfl (by with_reducible exact HZ1.out) ?_)
        refine bodyPost_ret (v := .agg #[.slice none 0 0, .int .i64 0, .int .i64 0, .int .i64 0, .int .u64 0, .int .u64 0, .int .i64 0, .int .i64 0]) ?_ rfl ?_
        · exact results_cell_row rfl _ _ (gg + 1) _ _ _ _ rfl (HZ1.out.row none 0 0 0 0 0 0 0 0 0) Try.underlying27 rfl sizeln
        · simp only [HRR.out]
          exact ⟨_, rfl, none, 0, rfl, vs_none _ _, bel_row HBX.out (by have := Hg.out; omega) _⟩
      by_cases hc2 : g ≤ N
      case neg =>
        have HRR : Hid (opnL ⟨k, S, C, N, D, E, s, n⟩ g x b = lzero) := by show _ = _; unfold opnL opnB; rw [HLK.out, HBK.out, decide_eq_false (by intro hh; simp only at hh; exact hc2 (by omega))]; rfl
        go_wp2_with (first | (go_at_call 38; refine (kb _).mono ?_; rintro eb wb ⟨rfl, rfl⟩) | refine wpList_sln rfl rfl _ _ rfl (gg + 1) none 0 0 0 0 0 0 0 0 0 rfl rfl (by with_reducible exact HZ1.out) ?_)
        refine bodyPost_ret (v := .agg #[.slice none 0 0, .int .i64 0, .int .i64 0, .int .i64 0, .int .u64 0, .int .u64 0, .int .i64 0, .int .i64 0]) ?_ rfl ?_
        · exact results_cell_row rfl _ _ (gg + 1) _ _ _ _ rfl (HZ1.out.row none 0 0 0 0 0 0 0 0 0) Try.underlying27 rfl sizeln
        · simp only [HRR.out]
          exact ⟨_, rfl, none, 0, rfl, vs_none _ _, bel_row HBX.out (by have := Hg.out; omega) _⟩
      by_cases hc3 : x ≤ 18446744073709551614
      case neg =>
        have HRR : Hid (opnL ⟨k, S, C, N, D, E, s, n⟩ g x b = lzero) := by show _ = _; unfold opnL opnB; rw [HLK.out, HBK.out, decide_eq_false (by intro hh; simp only at hh; exact hc3 (by omega))]; rfl
        go_wp2_with (first | (go_at_call 38; refine (kb _).mono ?_; rintro eb wb ⟨rfl, rfl⟩) | refine wpList_sln rfl rfl _ _ rfl (gg + 1) none 0 0 0 0 0 0 0 0 0 rfl rfl (by with_reducible exact HZ1.out) ?_)
        refine bodyPost_ret (v := .agg #[.slice none 0 0, .int .i64 0, .int .i64 0, .int .i64 0, .int .u64 0, .int .u64 0, .int .i64 0, .int .i64 0]) ?_ rfl ?_
        · exact results_cell_row rfl _ _ (gg + 1) _ _ _ _ rfl (HZ1.out.row none 0 0 0 0 0 0 0 0 0) Try.underlying27 rfl sizeln
        · simp only [HRR.out]
          exact ⟨_, rfl, none, 0, rfl, vs_none _ _, bel_row HBX.out (by have := Hg.out; omega) _⟩
      have HRR : Hid (opnL ⟨k, S, C, N, D, E, s, n⟩ g x b = ⟨k, S, g, N, (upN 1 b), (upN x b), s, n⟩) := by show _ = _; unfold opnL opnB; rw [HLK.out, HBK.out, decide_eq_true (by simp only; omega)]; rfl
      have kl := refLane_ a m c k S C N D E s n w1 HL1.out.k HL1.out.m
      go_wp2_with (first | (go_at_call 38; refine (kb _).mono ?_; rintro eb wb ⟨rfl, rfl⟩) | fail)
      refine kl.mono ?_
      rintro e y9 ⟨za, zc, rfl, vz, gz⟩
      have HBY : Hid (Bw W y9) := HB1.out.on gz
      have HZY := hid (HZ1.out.kept gz)
      have HVZ : Hid (Vs y9 (fun x => W.heap.size ≤ x) za m zc k) := vz.wide fun x _ hx => Nat.le_trans (Below.size HB1.out) hx
      have HS0 := hid (Zs.new HBY.out HVZ.out S C N D E s n)
      have HR0 := hid (HZY.out.kept (lnew y9 za m zc S C N D E s n))
      clear kl vz gz y0 y1 y2 y3 y4 y5 y6 y7
      obtain ⟨z0, HZ0⟩ : ∃ y, Hid (y9.alloc (.cells #[.slice za m zc, .int .i64 S, .int .i64 C, .int .i64 N, .int .u64 D, .int .u64 E, .int .i64 s, .int .i64 n] 27) = y) := ⟨_, rfl⟩
      obtain ⟨gv, Hgv⟩ : ∃ y, Hid (y9.heap.size = y) := ⟨_, rfl⟩
      rw [HZ0.out] at HS0 HR0
      rw [Hgv.out] at HS0
      have HGV : Hid (gv ≠ gg + 1) := by have h1 := HS0.out.ge; have h2 := HWS.out; show _ ≠ _; omega
      go_upto_region 6 with fail
      rw [HZ0.out, Hgv.out]
      clear HZ0 HVZ HBY HZY
      have f0 := HS0.out.lm.fz 2
      have d0 := HS0.out.lm.c2
      have HS1 := hid (HS0.out.s2 g)
      have HR1 : Hid (Lm (z0.setCell ⟨gv, 2, none⟩ (.int .i64 g)) (gg + 1) none 0 0 0 0 0 0 0 0 0) := HR0.out.at (Below.heap_setCell _ _ _ _ (Ne.symm HGV.out))
      obtain ⟨z1, HZ1⟩ : ∃ y, Hid (z0.setCell ⟨gv, 2, none⟩ (.int .i64 g) = y) := ⟨_, rfl⟩
      rw [HZ1.out] at HS1 HR1
      go_upto_region 7 with fail
      rw [HZ1.out]
      clear HZ1 f0 d0 HS0 HR0
      have ku := rup_ 1 b z1 (by unfold u64r; omega) hb
      go_wp2_with fail
      refine ku.mono ?_
      rintro e z2 ⟨rfl, gu⟩
      have HS2 := hid (HS1.out.on gu)
      have HR2 := hid (HR1.out.kept gu)
      clear ku gu HS1 HR1
      have f1 := HS2.out.lm.fz 4
      have d1 := HS2.out.lm.c4
      have HS3 := hid (HS2.out.s4 (upN 1 b))
      have HR3 : Hid (Lm (z2.setCell ⟨gv, 4, none⟩ (.int .u64 (upN 1 b))) (gg + 1) none 0 0 0 0 0 0 0 0 0) := HR2.out.at (Below.heap_setCell _ _ _ _ (Ne.symm HGV.out))
      obtain ⟨z3, HZ3⟩ : ∃ y, Hid (z2.setCell ⟨gv, 4, none⟩ (.int .u64 (upN 1 b)) = y) := ⟨_, rfl⟩
      rw [HZ3.out] at HS3 HR3
      go_upto_region 8 with fail
      rw [HZ3.out]
      clear HZ3 f1 d1 HS2 HR2
      have ku := rup_ x b z3 hx hb
      go_wp2_with fail
      refine ku.mono ?_
      rintro e z4 ⟨rfl, gu⟩
      have HS4 := hid (HS3.out.on gu)
      have HR4 := hid (HR3.out.kept gu)
      clear ku gu HS3 HR3
      have f2 := HS4.out.lm.fz 5
      have d2 := HS4.out.lm.c5
      have HS5 := hid (HS4.out.s5 (upN x b))
      have HR5 : Hid (Lm (z4.setCell ⟨gv, 5, none⟩ (.int .u64 (upN x b))) (gg + 1) none 0 0 0 0 0 0 0 0 0) := HR4.out.at (Below.heap_setCell _ _ _ _ (Ne.symm HGV.out))
      obtain ⟨z5, HZ5⟩ : ∃ y, Hid (z4.setCell ⟨gv, 5, none⟩ (.int .u64 (upN x b)) = y) := ⟨_, rfl⟩
      rw [HZ5.out] at HS5 HR5
      go_upto_region 9 with fail
      rw [HZ5.out]
      clear HZ5 f2 d2 HS4 HR4
      have d0 := HS5.out.lm.c0
      have d1 := HS5.out.lm.c1
      have d2 := HS5.out.lm.c2
      have d3 := HS5.out.lm.c3
      have d4 := HS5.out.lm.c4
      have d5 := HS5.out.lm.c5
      have d6 := HS5.out.lm.c6
      have d7 := HS5.out.lm.c7
      go_wp2_with (refine wpList_sln rfl rfl _ _ rfl (gg + 1) za m zc S g N (upN 1 b) (upN x b) s n rfl rfl (by with_reducible exact HR5.out) ?_)
      refine bodyPost_ret (v := .agg #[.slice za m zc, .int .i64 S, .int .i64 g, .int .i64 N, .int .u64 (upN 1 b), .int .u64 (upN x b), .int .i64 s, .int .i64 n]) ?_ rfl ?_
      · exact results_cell_row rfl _ _ (gg + 1) _ _ _ _ rfl (HR5.out.row za m zc S g N (upN 1 b) (upN x b) s n) Try.underlying27 rfl sizeln
      · simp only [HRR.out]
        refine ⟨_, rfl, za, zc, ?_, ?_, bel_row (bel_bel HB2.out HB2.out.size HS5.out.bw) (by have := Hg.out; omega) _⟩
        · simp only [hkl]
        · simp only [hkl]
          exact (HS5.out.vs.step fun x _ hx _ => setRow_other _ _ _ _ (by have := HWS.out; omega)).wide fun x _ hx => by have := HWS.out; have := Hg.out; omega
set_option maxHeartbeats 4000000 in
theorem rraise_ (a : Option Addr) (m c : Nat) (k : List Int) (S C N D E s n x b : Int) (w : World) (h : Li w a m k S C N D E s n) (hx : u64r x) (hb : i64r b) :
    Calls Try.prog 29 #[.agg #[.slice a m c, .int .i64 S, .int .i64 C, .int .i64 N, .int .u64 D, .int .u64 E, .int .i64 s, .int .i64 n], .int .u64 x, .int .i64 b] w fun e w' => Rl1 w (rseL ⟨k, S, C, N, D, E, s, n⟩ x b) e w' := by
  have B1 := lnew w a m c S C N D E s n
  have B2 := B1.alloc (B := w.heap.size) (by simp) (.cells #[.slice none 0 0, .int .i64 0, .int .i64 0, .int .i64 0, .int .u64 0, .int .u64 0, .int .i64 0, .int .i64 0] 27)
  have m1 := (Lm.new w a m c S C N D E s n).kept (lnew _ none 0 0 0 0 0 0 0 0 0)
  have m2 := Lm.new (w.alloc (.cells #[.slice a m c, .int .i64 S, .int .i64 C, .int .i64 N, .int .u64 D, .int .u64 E, .int .i64 s, .int .i64 n] 27)) none 0 0 0 0 0 0 0 0 0
  rw [World.size_alloc] at m2
  obtain ⟨W, HW⟩ : ∃ y, Hid ((w.alloc (.cells #[.slice a m c, .int .i64 S, .int .i64 C, .int .i64 N, .int .u64 D, .int .u64 E, .int .i64 s, .int .i64 n] 27)).alloc (.cells #[.slice none 0 0, .int .i64 0, .int .i64 0, .int .i64 0, .int .u64 0, .int .u64 0, .int .i64 0, .int .i64 0] 27) = y) := ⟨_, rfl⟩
  obtain ⟨gg, Hg⟩ : ∃ y, Hid (w.heap.size = y) := ⟨_, rfl⟩
  have HWS : Hid (W.heap.size = gg + 2) := by show _ = _; rw [← HW.out, ← Hg.out]; simp
  rw [HW.out] at B2 m1 m2
  have HB2 := hid B2
  rw [Hg.out] at m1 m2
  have HM1 := hid m1
  have HM2 := hid m2
  have HL := hid (h.on B2)
  have hkl : k.length = m := h.k.1
  have kv := rvalid17_ a m c S C N D E s n W (Nat.le_trans h.m (by unfold maxLen; omega))
  have HLI := hid h
  obtain ⟨q1, hq1⟩ : ∃ q, lok m S C N s n = q := ⟨_, rfl⟩
  rw [hq1] at kv
  have HLK : Hid (lokL ⟨k, S, C, N, D, E, s, n⟩ = q1) := by show lok k.length S C N s n = q1; rw [hkl]; exact hq1
  have y0 := m1.c0
  have y1 := m1.c1
  have y2 := m1.c2
  have y3 := m1.c3
  have y4 := m1.c4
  have y5 := m1.c5
  have y6 := m1.c6
  have y7 := m1.c7
  clear B1 B2 m1 m2 h hq1
  go_enter Try.func29, Try.ntmps29
  go_wp2_with fail
  rw [HW.out, Hg.out]
  refine kv.mono ?_
  rintro e w1 ⟨rfl, g1⟩
  have HB1 : Hid (Bw W w1) := g1
  have n1 := HM1.out.kept g1
  have HN1 := hid n1
  have HZ1 := hid (HM2.out.kept g1)
  have HL1 := hid (HL.out.on g1)
  clear kv g1 y0 y1 y2 y3 y4 y5 y6 y7 HW
  have y0 := n1.c0
  have y1 := n1.c1
  have y2 := n1.c2
  have y3 := n1.c3
  have y4 := n1.c4
  have y5 := n1.c5
  have y6 := n1.c6
  have y7 := n1.c7
  clear n1
  have HBX : Hid (Below w.heap.size w w1) := bel_bel HB2.out HB2.out.size HB1.out
  have kb := fun wx => rblocks_ b wx
  obtain ⟨q2, hq2⟩ : ∃ q, blk b = q := ⟨_, rfl⟩
  rw [hq2] at kb
  have HBK := hid hq2
  clear hq2
  cases q1 with
  | false =>
    have HRR : Hid (rseL ⟨k, S, C, N, D, E, s, n⟩ x b = lzero) := by show _ = _; unfold rseL rseB; rw [HLK.out]; rfl
    go_wp2_with (first | (go_at_call 38; refine (kb _).mono ?_; rintro eb wb ⟨rfl, rfl⟩) | refine wpList_sln rfl rfl _ _ rfl (gg + 1) none 0 0 0 0 0 0 0 0 0 rfl rfl (by with_reducible exact HZ1.out) ?_)
    refine bodyPost_ret (v := .agg #[.slice none 0 0, .int .i64 0, .int .i64 0, .int .i64 0, .int .u64 0, .int .u64 0, .int .i64 0, .int .i64 0]) ?_ rfl ?_
    · exact results_cell_row rfl _ _ (gg + 1) _ _ _ _ rfl (HZ1.out.row none 0 0 0 0 0 0 0 0 0) Try.underlying27 rfl sizeln
    · simp only [HRR.out]
      exact ⟨_, rfl, none, 0, rfl, vs_none _ _, bel_row HBX.out (by have := Hg.out; omega) _⟩
  | true =>
    cases q2 with
    | false =>
      have HRR : Hid (rseL ⟨k, S, C, N, D, E, s, n⟩ x b = lzero) := by show _ = _; unfold rseL rseB; rw [HLK.out, HBK.out]; rfl
      go_wp2_with (first | (go_at_call 38; refine (kb _).mono ?_; rintro eb wb ⟨rfl, rfl⟩) | refine wpList_sln rfl rfl _ _ rfl (gg + 1) none 0 0 0 0 0 0 0 0 0 rfl rfl (by with_reducible exact HZ1.out) ?_)
      refine bodyPost_ret (v := .agg #[.slice none 0 0, .int .i64 0, .int .i64 0, .int .i64 0, .int .u64 0, .int .u64 0, .int .i64 0, .int .i64 0]) ?_ rfl ?_
      · exact results_cell_row rfl _ _ (gg + 1) _ _ _ _ rfl (HZ1.out.row none 0 0 0 0 0 0 0 0 0) Try.underlying27 rfl sizeln
      · simp only [HRR.out]
        exact ⟨_, rfl, none, 0, rfl, vs_none _ _, bel_row HBX.out (by have := Hg.out; omega) _⟩
    | true =>
      by_cases hc1 : E ≤ x
      case neg =>
        have HRR : Hid (rseL ⟨k, S, C, N, D, E, s, n⟩ x b = lzero) := by show _ = _; unfold rseL rseB; rw [HLK.out, HBK.out, decide_eq_false (by intro hh; simp only at hh; exact hc1 (by omega))]; rfl
        go_wp2_with (first | (go_at_call 38; refine (kb _).mono ?_; rintro eb wb ⟨rfl, rfl⟩) | refine wpList_sln rfl rfl _ _ rfl (gg + 1) none 0 0 0 0 0 0 0 0 0 rfl rfl (by with_reducible exact HZ1.out) ?_)
        refine bodyPost_ret (v := .agg #[.slice none 0 0, .int .i64 0, .int .i64 0, .int .i64 0, .int .u64 0, .int .u64 0, .int .i64 0, .int .i64 0]) ?_ rfl ?_
        · exact results_cell_row rfl _ _ (gg + 1) _ _ _ _ rfl (HZ1.out.row none 0 0 0 0 0 0 0 0 0) Try.underlying27 rfl sizeln
        · simp only [HRR.out]
          exact ⟨_, rfl, none, 0, rfl, vs_none _ _, bel_row HBX.out (by have := Hg.out; omega) _⟩
      by_cases hc2 : x ≤ 18446744073709551614
      case neg =>
        have HRR : Hid (rseL ⟨k, S, C, N, D, E, s, n⟩ x b = lzero) := by show _ = _; unfold rseL rseB; rw [HLK.out, HBK.out, decide_eq_false (by intro hh; simp only at hh; exact hc2 (by omega))]; rfl
        go_wp2_with (first | (go_at_call 38; refine (kb _).mono ?_; rintro eb wb ⟨rfl, rfl⟩) | refine wpList_sln rfl rfl _ _ rfl (gg + 1) none 0 0 0 0 0 0 0 0 0 rfl rfl (by with_reducible exact HZ1.out) ?_)
        refine bodyPost_ret (v := .agg #[.slice none 0 0, .int .i64 0, .int .i64 0, .int .i64 0, .int .u64 0, .int .u64 0, .int .i64 0, .int .i64 0]) ?_ rfl ?_
        · exact results_cell_row rfl _ _ (gg + 1) _ _ _ _ rfl (HZ1.out.row none 0 0 0 0 0 0 0 0 0) Try.underlying27 rfl sizeln
        · simp only [HRR.out]
          exact ⟨_, rfl, none, 0, rfl, vs_none _ _, bel_row HBX.out (by have := Hg.out; omega) _⟩
      have HRR : Hid (rseL ⟨k, S, C, N, D, E, s, n⟩ x b = ⟨k, S, C, N, D, (upN x b), s, n⟩) := by show _ = _; unfold rseL rseB; rw [HLK.out, HBK.out, decide_eq_true (by simp only; omega)]; rfl
      have kl := refLane_ a m c k S C N D E s n w1 HL1.out.k HL1.out.m
      go_wp2_with (first | (go_at_call 38; refine (kb _).mono ?_; rintro eb wb ⟨rfl, rfl⟩) | fail)
      refine kl.mono ?_
      rintro e y9 ⟨za, zc, rfl, vz, gz⟩
      have HBY : Hid (Bw W y9) := HB1.out.on gz
      have HZY := hid (HZ1.out.kept gz)
      have HVZ : Hid (Vs y9 (fun x => W.heap.size ≤ x) za m zc k) := vz.wide fun x _ hx => Nat.le_trans (Below.size HB1.out) hx
      have HS0 := hid (Zs.new HBY.out HVZ.out S C N D E s n)
      have HR0 := hid (HZY.out.kept (lnew y9 za m zc S C N D E s n))
      clear kl vz gz y0 y1 y2 y3 y4 y5 y6 y7
      obtain ⟨z0, HZ0⟩ : ∃ y, Hid (y9.alloc (.cells #[.slice za m zc, .int .i64 S, .int .i64 C, .int .i64 N, .int .u64 D, .int .u64 E, .int .i64 s, .int .i64 n] 27) = y) := ⟨_, rfl⟩
      obtain ⟨gv, Hgv⟩ : ∃ y, Hid (y9.heap.size = y) := ⟨_, rfl⟩
      rw [HZ0.out] at HS0 HR0
      rw [Hgv.out] at HS0
      have HGV : Hid (gv ≠ gg + 1) := by have h1 := HS0.out.ge; have h2 := HWS.out; show _ ≠ _; omega
      go_upto_region 6 with fail
      rw [HZ0.out, Hgv.out]
      clear HZ0 HVZ HBY HZY
      have ku := rup_ x b z0 hx hb
      go_wp2_with fail
      refine ku.mono ?_
      rintro e z1 ⟨rfl, gu⟩
      have HS1 := hid (HS0.out.on gu)
      have HR1 := hid (HR0.out.kept gu)
      clear ku gu HS0 HR0
      have f0 := HS1.out.lm.fz 5
      have d0 := HS1.out.lm.c5
      have HS2 := hid (HS1.out.s5 (upN x b))
      have HR2 : Hid (Lm (z1.setCell ⟨gv, 5, none⟩ (.int .u64 (upN x b))) (gg + 1) none 0 0 0 0 0 0 0 0 0) := HR1.out.at (Below.heap_setCell _ _ _ _ (Ne.symm HGV.out))
      obtain ⟨z2, HZ2⟩ : ∃ y, Hid (z1.setCell ⟨gv, 5, none⟩ (.int .u64 (upN x b)) = y) := ⟨_, rfl⟩
      rw [HZ2.out] at HS2 HR2
      go_upto_region 7 with fail
      rw [HZ2.out]
      clear HZ2 f0 d0 HS1 HR1
      have d0 := HS2.out.lm.c0
      have d1 := HS2.out.lm.c1
      have d2 := HS2.out.lm.c2
      have d3 := HS2.out.lm.c3
      have d4 := HS2.out.lm.c4
      have d5 := HS2.out.lm.c5
      have d6 := HS2.out.lm.c6
      have d7 := HS2.out.lm.c7
      go_wp2_with (refine wpList_sln rfl rfl _ _ rfl (gg + 1) za m zc S C N D (upN x b) s n rfl rfl (by with_reducible exact HR2.out) ?_)
      refine bodyPost_ret (v := .agg #[.slice za m zc, .int .i64 S, .int .i64 C, .int .i64 N, .int .u64 D, .int .u64 (upN x b), .int .i64 s, .int .i64 n]) ?_ rfl ?_
      · exact results_cell_row rfl _ _ (gg + 1) _ _ _ _ rfl (HR2.out.row za m zc S C N D (upN x b) s n) Try.underlying27 rfl sizeln
      · simp only [HRR.out]
        refine ⟨_, rfl, za, zc, ?_, ?_, bel_row (bel_bel HB2.out HB2.out.size HS2.out.bw) (by have := Hg.out; omega) _⟩
        · simp only [hkl]
        · simp only [hkl]
          exact (HS2.out.vs.step fun x _ hx _ => setRow_other _ _ _ _ (by have := HWS.out; omega)).wide fun x _ hx => by have := HWS.out; have := Hg.out; omega
end Go.Proofs.Ythhakecimnnnfaa
