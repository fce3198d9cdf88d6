import Derived.Test.YthhakecimnnnfaaLB
namespace Go.Proofs.Ythhakecimnnnfaa
set_option maxRecDepth 100000
open Go.RowKit
set_option linter.unusedVariables false

set_option maxHeartbeats 4000000 in
theorem ranswered_ (a : Option Addr) (m c : Nat) (k : List Int) (S C N D E s n g x t u b : Int) (w : World) (h : Li w a m k S C N D E s n) (hg : i64r g) (hx : u64r x) (ht : i64r t) (hu : i64r u) (hb : i64r b) :
    Calls Try.prog 31 #[.agg #[.slice a m c, .int .i64 S, .int .i64 C, .int .i64 N, .int .u64 D, .int .u64 E, .int .i64 s, .int .i64 n], .int .i64 g, .int .u64 x, .agg #[.int .i64 t, .int .i64 u], .int .i64 b] w fun e w' => Rl2 w (ansL ⟨k, S, C, N, D, E, s, n⟩ g x t u b) (.int .u64 (ansN ⟨k, S, C, N, D, E, s, n⟩ g x t u b)) e w' := by
  have B1 := lnew w a m c S C N D E s n
  have B1' := B1.alloc (B := w.heap.size) (by simp) (.cells #[.int .i64 t, .int .i64 u] 25)
  have B2 := B1'.alloc (B := w.heap.size) (by simp; omega) (.cells #[.slice none 0 0, .int .i64 0, .int .i64 0, .int .i64 0, .int .u64 0, .int .u64 0, .int .i64 0, .int .i64 0] 27)
  have m1 := ((Lm.new w a m c S C N D E s n).kept (bel_al' (w.alloc (.cells #[.slice a m c, .int .i64 S, .int .i64 C, .int .i64 N, .int .u64 D, .int .u64 E, .int .i64 s, .int .i64 n] 27)) (.cells #[.int .i64 t, .int .i64 u] 25))).kept (lnew _ none 0 0 0 0 0 0 0 0 0)
  have ms := (Sm.new (w.alloc (.cells #[.slice a m c, .int .i64 S, .int .i64 C, .int .i64 N, .int .u64 D, .int .u64 E, .int .i64 s, .int .i64 n] 27)) t u).alloc (.cells #[.slice none 0 0, .int .i64 0, .int .i64 0, .int .i64 0, .int .u64 0, .int .u64 0, .int .i64 0, .int .i64 0] 27)
  have m2 := Lm.new ((w.alloc (.cells #[.slice a m c, .int .i64 S, .int .i64 C, .int .i64 N, .int .u64 D, .int .u64 E, .int .i64 s, .int .i64 n] 27)).alloc (.cells #[.int .i64 t, .int .i64 u] 25)) none 0 0 0 0 0 0 0 0 0
  rw [World.size_alloc] at ms
  rw [World.size_alloc, World.size_alloc] at m2
  obtain ⟨W, HW⟩ : ∃ y, Hid (((w.alloc (.cells #[.slice a m c, .int .i64 S, .int .i64 C, .int .i64 N, .int .u64 D, .int .u64 E, .int .i64 s, .int .i64 n] 27)).alloc (.cells #[.int .i64 t, .int .i64 u] 25)).alloc (.cells #[.slice none 0 0, .int .i64 0, .int .i64 0, .int .i64 0, .int .u64 0, .int .u64 0, .int .i64 0, .int .i64 0] 27) = y) := ⟨_, rfl⟩
  obtain ⟨gg, Hg⟩ : ∃ y, Hid (w.heap.size = y) := ⟨_, rfl⟩
  have HWS : Hid (W.heap.size = gg + 3) := by show _ = _; rw [← HW.out, ← Hg.out]; simp
  rw [HW.out] at B2 m1 m2 ms
  have HB2 := hid B2
  rw [Hg.out] at m1 m2 ms
  have HM1 := hid m1
  have HM2 := hid m2
  have HMS := hid ms
  have HL := hid (h.on B2)
  have hkl : k.length = m := h.k.1
  have kv := rvalid17_ a m c S C N D E s n W (Nat.le_trans h.m (by unfold maxLen; omega))
  obtain ⟨q1, hq1⟩ : ∃ q, lok m S C N s n = q := ⟨_, rfl⟩
  rw [hq1] at kv
  have HLK : Hid (lokL ⟨k, S, C, N, D, E, s, n⟩ = q1) := by show lok k.length S C N s n = q1; rw [hkl]; exact hq1
  have kb := fun wx => rblocks_ b wx
  obtain ⟨q2, hq2⟩ : ∃ q, blk b = q := ⟨_, rfl⟩
  rw [hq2] at kb
  have HBK := hid hq2
  have ks := fun wx => refValid_ t u wx
  obtain ⟨q3, hq3⟩ : ∃ q, vld t u = q := ⟨_, rfl⟩
  rw [hq3] at ks
  have HVK := hid hq3
  have kq := fun wx => refLess_ s n t u wx
  obtain ⟨q4, hq4⟩ : ∃ q, lss s n t u = q := ⟨_, rfl⟩
  rw [hq4] at kq
  have HSK := hid hq4
  have y0 := m1.c0
  have y1 := m1.c1
  have y2 := m1.c2
  have y3 := m1.c3
  have y4 := m1.c4
  have y5 := m1.c5
  have y6 := m1.c6
  have y7 := m1.c7
  clear B1 B1' B2 m1 m2 ms h hq1 hq2 hq3 hq4
  go_enter Try.func31, Try.ntmps31
  go_wp2_with fail
  rw [HW.out, Hg.out]
  refine kv.mono ?_
  rintro e wa ⟨rfl, g1⟩
  have HBa : Hid (Bw W wa) := g1
  clear kv g1 y0 y1 y2 y3 y4 y5 y6 y7 HW
  have v0 := (HMS.out.kept HBa.out).c0
  have v1 := (HMS.out.kept HBa.out).c1
  go_wp2_with (first | (go_at_call 38; refine (kb _).mono ?_; rintro eb wb ⟨rfl, rfl⟩) | fail)
  refine (ks _).mono ?_
  rintro e wc ⟨rfl, g2⟩
  have HBc : Hid (Bw W wc) := HBa.out.on g2
  clear v0 v1 g2
  have v0 := (HMS.out.kept HBc.out).c0
  have v1 := (HMS.out.kept HBc.out).c1
  have v6 := (HM1.out.kept HBc.out).c6
  have v7 := (HM1.out.kept HBc.out).c7
  go_wp2_with fail
  refine (kq _).mono ?_
  rintro e w1 ⟨rfl, g3⟩
  have HB1 : Hid (Bw W w1) := HBc.out.on g3
  clear v0 v1 v6 v7 g3
  have HN1 := hid (HM1.out.kept HB1.out)
  have HZ1 := hid (HM2.out.kept HB1.out)
  have HT1 := hid (HMS.out.kept HB1.out)
  have HL1 := hid (HL.out.on HB1.out)
  have HBX : Hid (Below w.heap.size w w1) := bel_bel HB2.out HB2.out.size HB1.out
  have n1 := HN1.out
  have y0 := n1.c0
  have y1 := n1.c1
  have y2 := n1.c2
  have y3 := n1.c3
  have y4 := n1.c4
  have y5 := n1.c5
  have y6 := n1.c6
  have y7 := n1.c7
  clear n1
  cases q1 with
  | false =>
    have HRR : Hid (ansB ⟨k, S, C, N, D, E, s, n⟩ g x t u b = false) := by show _ = _; unfold ansB; simp only; rw [HLK.out]; rfl
    go_wp2_with (refine wpList_sln rfl rfl _ _ rfl (gg + 2) none 0 0 0 0 0 0 0 0 0 rfl rfl (by with_reducible exact HZ1.out) ?_)
    refine bodyPost_ret (v := .tuple #[.agg #[.slice none 0 0, .int .i64 0, .int .i64 0, .int .i64 0, .int .u64 0, .int .u64 0, .int .i64 0, .int .i64 0], .int .u64 0]) ?_ rfl ?_
    · exact results_ln rfl _ _ (gg + 2) none 0 0 0 0 0 0 0 0 0 _ rfl rfl (HZ1.out.row none 0 0 0 0 0 0 0 0 0)
    · have e1 : ansL ⟨k, S, C, N, D, E, s, n⟩ g x t u b = lzero := by unfold ansL; rw [HRR.out]; rfl
      have e2 : ansN ⟨k, S, C, N, D, E, s, n⟩ g x t u b = 0 := by unfold ansN; rw [HRR.out]; rfl
      rw [e1, e2]
      exact ⟨_, rfl, none, 0, rfl, vs_none _ _, bel_row HBX.out (by have := Hg.out; omega) _⟩
  | true =>
    cases q2 with
    | false =>
      have HRR : Hid (ansB ⟨k, S, C, N, D, E, s, n⟩ g x t u b = false) := by show _ = _; unfold ansB; simp only; rw [HLK.out, HBK.out]; rfl
      go_wp2_with (refine wpList_sln rfl rfl _ _ rfl (gg + 2) none 0 0 0 0 0 0 0 0 0 rfl rfl (by with_reducible exact HZ1.out) ?_)
      refine bodyPost_ret (v := .tuple #[.agg #[.slice none 0 0, .int .i64 0, .int .i64 0, .int .i64 0, .int .u64 0, .int .u64 0, .int .i64 0, .int .i64 0], .int .u64 0]) ?_ rfl ?_
      · exact results_ln rfl _ _ (gg + 2) none 0 0 0 0 0 0 0 0 0 _ rfl rfl (HZ1.out.row none 0 0 0 0 0 0 0 0 0)
      · have e1 : ansL ⟨k, S, C, N, D, E, s, n⟩ g x t u b = lzero := by unfold ansL; rw [HRR.out]; rfl
        have e2 : ansN ⟨k, S, C, N, D, E, s, n⟩ g x t u b = 0 := by unfold ansN; rw [HRR.out]; rfl
        rw [e1, e2]
        exact ⟨_, rfl, none, 0, rfl, vs_none _ _, bel_row HBX.out (by have := Hg.out; omega) _⟩
    | true =>
      cases q3 with
      | false =>
        have HRR : Hid (ansB ⟨k, S, C, N, D, E, s, n⟩ g x t u b = false) := by show _ = _; unfold ansB; simp only; rw [HLK.out, HBK.out, HVK.out]; rfl
        go_wp2_with (refine wpList_sln rfl rfl _ _ rfl (gg + 2) none 0 0 0 0 0 0 0 0 0 rfl rfl (by with_reducible exact HZ1.out) ?_)
        refine bodyPost_ret (v := .tuple #[.agg #[.slice none 0 0, .int .i64 0, .int .i64 0, .int .i64 0, .int .u64 0, .int .u64 0, .int .i64 0, .int .i64 0], .int .u64 0]) ?_ rfl ?_
        · exact results_ln rfl _ _ (gg + 2) none 0 0 0 0 0 0 0 0 0 _ rfl rfl (HZ1.out.row none 0 0 0 0 0 0 0 0 0)
        · have e1 : ansL ⟨k, S, C, N, D, E, s, n⟩ g x t u b = lzero := by unfold ansL; rw [HRR.out]; rfl
          have e2 : ansN ⟨k, S, C, N, D, E, s, n⟩ g x t u b = 0 := by unfold ansN; rw [HRR.out]; rfl
          rw [e1, e2]
          exact ⟨_, rfl, none, 0, rfl, vs_none _ _, bel_row HBX.out (by have := Hg.out; omega) _⟩
      | true =>
        cases q4 with
        | false =>
          have HRR : Hid (ansB ⟨k, S, C, N, D, E, s, n⟩ g x t u b = false) := by show _ = _; unfold ansB; simp only; rw [HLK.out, HBK.out, HVK.out, HSK.out]; rfl
          go_wp2_with (refine wpList_sln rfl rfl _ _ rfl (gg + 2) none 0 0 0 0 0 0 0 0 0 rfl rfl (by with_reducible exact HZ1.out) ?_)
          refine bodyPost_ret (v := .tuple #[.agg #[.slice none 0 0, .int .i64 0, .int .i64 0, .int .i64 0, .int .u64 0, .int .u64 0, .int .i64 0, .int .i64 0], .int .u64 0]) ?_ rfl ?_
          · exact results_ln rfl _ _ (gg + 2) none 0 0 0 0 0 0 0 0 0 _ rfl rfl (HZ1.out.row none 0 0 0 0 0 0 0 0 0)
          · have e1 : ansL ⟨k, S, C, N, D, E, s, n⟩ g x t u b = lzero := by unfold ansL; rw [HRR.out]; rfl
            have e2 : ansN ⟨k, S, C, N, D, E, s, n⟩ g x t u b = 0 := by unfold ansN; rw [HRR.out]; rfl
            rw [e1, e2]
            exact ⟨_, rfl, none, 0, rfl, vs_none _ _, bel_row HBX.out (by have := Hg.out; omega) _⟩
        | true =>
          by_cases hc1 : C < g
          case neg =>
            have HRR : Hid (ansB ⟨k, S, C, N, D, E, s, n⟩ g x t u b = false) := by show _ = _; unfold ansB; simp only; rw [HLK.out, HBK.out, HVK.out, HSK.out, decide_eq_false (by intro hh; exact hc1 (by omega))]; rfl
            go_wp2_with (refine wpList_sln rfl rfl _ _ rfl (gg + 2) none 0 0 0 0 0 0 0 0 0 rfl rfl (by with_reducible exact HZ1.out) ?_)
            refine bodyPost_ret (v := .tuple #[.agg #[.slice none 0 0, .int .i64 0, .int .i64 0, .int .i64 0, .int .u64 0, .int .u64 0, .int .i64 0, .int .i64 0], .int .u64 0]) ?_ rfl ?_
            · exact results_ln rfl _ _ (gg + 2) none 0 0 0 0 0 0 0 0 0 _ rfl rfl (HZ1.out.row none 0 0 0 0 0 0 0 0 0)
            · have e1 : ansL ⟨k, S, C, N, D, E, s, n⟩ g x t u b = lzero := by unfold ansL; rw [HRR.out]; rfl
              have e2 : ansN ⟨k, S, C, N, D, E, s, n⟩ g x t u b = 0 := by unfold ansN; rw [HRR.out]; rfl
              rw [e1, e2]
              exact ⟨_, rfl, none, 0, rfl, vs_none _ _, bel_row HBX.out (by have := Hg.out; omega) _⟩
          by_cases hc2 : g ≤ 2147483647
          case neg =>
            have HRR : Hid (ansB ⟨k, S, C, N, D, E, s, n⟩ g x t u b = false) := by show _ = _; unfold ansB; simp only; rw [HLK.out, HBK.out, HVK.out, HSK.out, decide_eq_false (by intro hh; exact hc2 (by omega))]; rfl
            go_wp2_with (refine wpList_sln rfl rfl _ _ rfl (gg + 2) none 0 0 0 0 0 0 0 0 0 rfl rfl (by with_reducible exact HZ1.out) ?_)
            refine bodyPost_ret (v := .tuple #[.agg #[.slice none 0 0, .int .i64 0, .int .i64 0, .int .i64 0, .int .u64 0, .int .u64 0, .int .i64 0, .int .i64 0], .int .u64 0]) ?_ rfl ?_
            · exact results_ln rfl _ _ (gg + 2) none 0 0 0 0 0 0 0 0 0 _ rfl rfl (HZ1.out.row none 0 0 0 0 0 0 0 0 0)
            · have e1 : ansL ⟨k, S, C, N, D, E, s, n⟩ g x t u b = lzero := by unfold ansL; rw [HRR.out]; rfl
              have e2 : ansN ⟨k, S, C, N, D, E, s, n⟩ g x t u b = 0 := by unfold ansN; rw [HRR.out]; rfl
              rw [e1, e2]
              exact ⟨_, rfl, none, 0, rfl, vs_none _ _, bel_row HBX.out (by have := Hg.out; omega) _⟩
          by_cases hc3 : x ≤ 18446744073709551614
          case neg =>
            have HRR : Hid (ansB ⟨k, S, C, N, D, E, s, n⟩ g x t u b = false) := by show _ = _; unfold ansB; simp only; rw [HLK.out, HBK.out, HVK.out, HSK.out, decide_eq_false (by intro hh; exact hc3 (by omega))]; rfl
            go_wp2_with (refine wpList_sln rfl rfl _ _ rfl (gg + 2) none 0 0 0 0 0 0 0 0 0 rfl rfl (by with_reducible exact HZ1.out) ?_)
            refine bodyPost_ret (v := .tuple #[.agg #[.slice none 0 0, .int .i64 0, .int .i64 0, .int .i64 0, .int .u64 0, .int .u64 0, .int .i64 0, .int .i64 0], .int .u64 0]) ?_ rfl ?_
            · exact results_ln rfl _ _ (gg + 2) none 0 0 0 0 0 0 0 0 0 _ rfl rfl (HZ1.out.row none 0 0 0 0 0 0 0 0 0)
            · have e1 : ansL ⟨k, S, C, N, D, E, s, n⟩ g x t u b = lzero := by unfold ansL; rw [HRR.out]; rfl
              have e2 : ansN ⟨k, S, C, N, D, E, s, n⟩ g x t u b = 0 := by unfold ansN; rw [HRR.out]; rfl
              rw [e1, e2]
              exact ⟨_, rfl, none, 0, rfl, vs_none _ _, bel_row HBX.out (by have := Hg.out; omega) _⟩
          have HRR : Hid (ansB ⟨k, S, C, N, D, E, s, n⟩ g x t u b = true) := by show _ = _; unfold ansB; simp only; rw [HLK.out, HBK.out, HVK.out, HSK.out, decide_eq_true (by omega)]; rfl
          by_cases hat : g ≤ N
          · have kl := refLane_ a m c k S C N D E s n w1 HL1.out.k HL1.out.m
            have HAT : Hid (ansC ⟨k, S, C, N, D, E, s, n⟩ g = 1) := by show (if g ≤ N then (1 : Int) else 0) = 1; rw [if_pos hat]
            go_wp2_with fail
            refine kl.mono ?_
            rintro e y9 ⟨za, zc, rfl, vz, gz⟩
            have HBY : Hid (Bw W y9) := HB1.out.on gz
            have HZY := hid (HZ1.out.kept gz)
            have HTY := hid (HT1.out.kept gz)
            have HVZ : Hid (Vs y9 (fun x => W.heap.size ≤ x) za m zc k) := vz.wide fun x _ hx => Nat.le_trans (Below.size HB1.out) hx
            have HS0 := hid (Zs.new HBY.out HVZ.out S C N D E s n)
            have HR0 := hid (HZY.out.kept (lnew y9 za m zc S C N D E s n))
            have HT0 := hid (HTY.out.kept (lnew y9 za m zc S C N D E s n))
            clear kl vz gz y0 y1 y2 y3 y4 y5 y6 y7
            obtain ⟨z0, HZ0⟩ : ∃ y, Hid (y9.alloc (.cells #[.slice za m zc, .int .i64 S, .int .i64 C, .int .i64 N, .int .u64 D, .int .u64 E, .int .i64 s, .int .i64 n] 27) = y) := ⟨_, rfl⟩
            obtain ⟨gv, Hgv⟩ : ∃ y, Hid (y9.heap.size = y) := ⟨_, rfl⟩
            rw [HZ0.out] at HS0 HR0 HT0
            rw [Hgv.out] at HS0
            have HGV : Hid (gv ≠ gg + 2 ∧ gv ≠ gg + 1) := by have h1 := HS0.out.ge; have h2 := HWS.out; exact ⟨by omega, by omega⟩
            go_upto_region 11 with fail
            rw [HZ0.out, Hgv.out]
            clear HZ0 HVZ HBY HZY HTY
            have f0 := HS0.out.lm.fz 2
            have d0 := HS0.out.lm.c2
            have HS1 := hid (HS0.out.s2 g)
            have HR1 : Hid (Lm (z0.setCell ⟨gv, 2, none⟩ (.int .i64 g)) (gg + 2) none 0 0 0 0 0 0 0 0 0) := HR0.out.at (Below.heap_setCell _ _ _ _ (Ne.symm HGV.out.1))
            have HT1 : Hid (Sm (z0.setCell ⟨gv, 2, none⟩ (.int .i64 g)) (gg + 1) t u) := HT0.out.at' (Below.heap_setCell _ _ _ _ (Ne.symm HGV.out.2))
            obtain ⟨z1, HZ1⟩ : ∃ y, Hid (z0.setCell ⟨gv, 2, none⟩ (.int .i64 g) = y) := ⟨_, rfl⟩
            rw [HZ1.out] at HS1 HR1 HT1
            go_upto_region 12 with fail
            rw [HZ1.out]
            clear HZ1 f0 d0 HS0 HR0 HT0
            have ku := rup_ 1 b z1 (by unfold u64r; omega) hb
            go_wp2_with fail
            refine ku.mono ?_
            rintro e z2 ⟨rfl, gu⟩
            have HS2 := hid (HS1.out.on gu)
            have HR2 := hid (HR1.out.kept gu)
            have HT2 := hid (HT1.out.kept gu)
            clear ku gu HS1 HR1 HT1
            have f1 := HS2.out.lm.fz 4
            have d1 := HS2.out.lm.c4
            have HS3 := hid (HS2.out.s4 (upN 1 b))
            have HR3 : Hid (Lm (z2.setCell ⟨gv, 4, none⟩ (.int .u64 (upN 1 b))) (gg + 2) none 0 0 0 0 0 0 0 0 0) := HR2.out.at (Below.heap_setCell _ _ _ _ (Ne.symm HGV.out.1))
            have HT3 : Hid (Sm (z2.setCell ⟨gv, 4, none⟩ (.int .u64 (upN 1 b))) (gg + 1) t u) := HT2.out.at' (Below.heap_setCell _ _ _ _ (Ne.symm HGV.out.2))
            obtain ⟨z3, HZ3⟩ : ∃ y, Hid (z2.setCell ⟨gv, 4, none⟩ (.int .u64 (upN 1 b)) = y) := ⟨_, rfl⟩
            rw [HZ3.out] at HS3 HR3 HT3
            go_upto_region 13 with fail
            rw [HZ3.out]
            clear HZ3 f1 d1 HS2 HR2 HT2
            have ku := rup_ x b z3 hx hb
            go_wp2_with fail
            refine ku.mono ?_
            rintro e z4 ⟨rfl, gu⟩
            have HS4 := hid (HS3.out.on gu)
            have HR4 := hid (HR3.out.kept gu)
            have HT4 := hid (HT3.out.kept gu)
            clear ku gu HS3 HR3 HT3
            have f2 := HS4.out.lm.fz 5
            have d2 := HS4.out.lm.c5
            have HS5 := hid (HS4.out.s5 (upN x b))
            have HR5 : Hid (Lm (z4.setCell ⟨gv, 5, none⟩ (.int .u64 (upN x b))) (gg + 2) none 0 0 0 0 0 0 0 0 0) := HR4.out.at (Below.heap_setCell _ _ _ _ (Ne.symm HGV.out.1))
            have HT5 : Hid (Sm (z4.setCell ⟨gv, 5, none⟩ (.int .u64 (upN x b))) (gg + 1) t u) := HT4.out.at' (Below.heap_setCell _ _ _ _ (Ne.symm HGV.out.2))
            obtain ⟨z5, HZ5⟩ : ∃ y, Hid (z4.setCell ⟨gv, 5, none⟩ (.int .u64 (upN x b)) = y) := ⟨_, rfl⟩
            rw [HZ5.out] at HS5 HR5 HT5
            go_upto_region 14 with fail
            rw [HZ5.out]
            clear HZ5 f2 d2 HS4 HR4 HT4
            have v0 := HT5.out.c0
            have v1 := HT5.out.c1
            have f6 := HS5.out.lm.fz 6
            have f7 := HS5.out.lm.fz 7
            have d6 := HS5.out.lm.c6
            have d7 := HS5.out.lm.c7
            have HS6 := hid (HS5.out.s67 t u)
            have HR6 : Hid (Lm ((z5.setCell ⟨gv, 6, none⟩ (.int .i64 t)).setCell ⟨gv, 7, none⟩ (.int .i64 u)) (gg + 2) none 0 0 0 0 0 0 0 0 0) := HR5.out.at ((Below.heap_setCell _ _ _ _ (Ne.symm HGV.out.1)).trans (Below.heap_setCell _ _ _ _ (Ne.symm HGV.out.1)))
            obtain ⟨z6, HZ6⟩ : ∃ y, Hid ((z5.setCell ⟨gv, 6, none⟩ (.int .i64 t)).setCell ⟨gv, 7, none⟩ (.int .i64 u) = y) := ⟨_, rfl⟩
            rw [HZ6.out] at HS6 HR6
            go_upto_region 15 with fail
            rw [HZ6.out]
            clear HZ6 v0 v1 f6 f7 d6 d7 HS5 HR5 HT5
            have d0 := HS6.out.lm.c0
            have d1 := HS6.out.lm.c1
            have d2 := HS6.out.lm.c2
            have d3 := HS6.out.lm.c3
            have d4 := HS6.out.lm.c4
            have d5 := HS6.out.lm.c5
            have d6 := HS6.out.lm.c6
            have d7 := HS6.out.lm.c7
            go_wp2_with (refine wpList_sln rfl rfl _ _ rfl (gg + 2) za m zc S g N (upN 1 b) (upN x b) t u rfl rfl (by with_reducible exact HR6.out) ?_)
            refine bodyPost_ret (v := .tuple #[.agg #[.slice za m zc, .int .i64 S, .int .i64 g, .int .i64 N, .int .u64 (upN 1 b), .int .u64 (upN x b), .int .i64 t, .int .i64 u], .int .u64 1]) ?_ rfl ?_
            · exact results_ln rfl _ _ (gg + 2) za m zc S g N (upN 1 b) (upN x b) t u _ rfl rfl (HR6.out.row za m zc S g N (upN 1 b) (upN x b) t u)
            · have e1 : ansL ⟨k, S, C, N, D, E, s, n⟩ g x t u b = ⟨k, S, g, N, upN 1 b, upN x b, t, u⟩ := by unfold ansL; rw [HRR.out, HAT.out]; rfl
              have e2 : ansN ⟨k, S, C, N, D, E, s, n⟩ g x t u b = 1 := by unfold ansN; rw [HRR.out, HAT.out]; rfl
              rw [e1, e2]
              refine ⟨_, rfl, za, zc, ?_, ?_, bel_row (bel_bel HB2.out HB2.out.size HS6.out.bw) (by have := Hg.out; omega) _⟩
              · simp only [hkl]
              · simp only [hkl]
                exact (HS6.out.vs.step fun x _ hx _ => setRow_other _ _ _ _ (by have := HWS.out; omega)).wide fun x _ hx => by have := HWS.out; have := Hg.out; omega
          · have kl := refLane_ a m c k S C N D E s n w1 HL1.out.k HL1.out.m
            have HAT : Hid (ansC ⟨k, S, C, N, D, E, s, n⟩ g = 0) := by show (if g ≤ N then (1 : Int) else 0) = 0; rw [if_neg hat]
            go_wp2_with fail
            refine kl.mono ?_
            rintro e y9 ⟨za, zc, rfl, vz, gz⟩
            have HBY : Hid (Bw W y9) := HB1.out.on gz
            have HZY := hid (HZ1.out.kept gz)
            have HTY := hid (HT1.out.kept gz)
            have HVZ : Hid (Vs y9 (fun x => W.heap.size ≤ x) za m zc k) := vz.wide fun x _ hx => Nat.le_trans (Below.size HB1.out) hx
            have HS0 := hid (Zs.new HBY.out HVZ.out S C N D E s n)
            have HR0 := hid (HZY.out.kept (lnew y9 za m zc S C N D E s n))
            have HT0 := hid (HTY.out.kept (lnew y9 za m zc S C N D E s n))
            clear kl vz gz y0 y1 y2 y3 y4 y5 y6 y7
            obtain ⟨z0, HZ0⟩ : ∃ y, Hid (y9.alloc (.cells #[.slice za m zc, .int .i64 S, .int .i64 C, .int .i64 N, .int .u64 D, .int .u64 E, .int .i64 s, .int .i64 n] 27) = y) := ⟨_, rfl⟩
            obtain ⟨gv, Hgv⟩ : ∃ y, Hid (y9.heap.size = y) := ⟨_, rfl⟩
            rw [HZ0.out] at HS0 HR0 HT0
            rw [Hgv.out] at HS0
            have HGV : Hid (gv ≠ gg + 2 ∧ gv ≠ gg + 1) := by have h1 := HS0.out.ge; have h2 := HWS.out; exact ⟨by omega, by omega⟩
            go_upto_region 11 with fail
            rw [HZ0.out, Hgv.out]
            clear HZ0 HVZ HBY HZY HTY
            have f0 := HS0.out.lm.fz 2
            have d0 := HS0.out.lm.c2
            have HS1 := hid (HS0.out.s2 g)
            have HR1 : Hid (Lm (z0.setCell ⟨gv, 2, none⟩ (.int .i64 g)) (gg + 2) none 0 0 0 0 0 0 0 0 0) := HR0.out.at (Below.heap_setCell _ _ _ _ (Ne.symm HGV.out.1))
            have HT1 : Hid (Sm (z0.setCell ⟨gv, 2, none⟩ (.int .i64 g)) (gg + 1) t u) := HT0.out.at' (Below.heap_setCell _ _ _ _ (Ne.symm HGV.out.2))
            obtain ⟨z1, HZ1⟩ : ∃ y, Hid (z0.setCell ⟨gv, 2, none⟩ (.int .i64 g) = y) := ⟨_, rfl⟩
            rw [HZ1.out] at HS1 HR1 HT1
            go_upto_region 12 with fail
            rw [HZ1.out]
            clear HZ1 f0 d0 HS0 HR0 HT0
            have ku := rup_ 0 b z1 (by unfold u64r; omega) hb
            go_wp2_with fail
            refine ku.mono ?_
            rintro e z2 ⟨rfl, gu⟩
            have HS2 := hid (HS1.out.on gu)
            have HR2 := hid (HR1.out.kept gu)
            have HT2 := hid (HT1.out.kept gu)
            clear ku gu HS1 HR1 HT1
            have f1 := HS2.out.lm.fz 4
            have d1 := HS2.out.lm.c4
            have HS3 := hid (HS2.out.s4 (upN 0 b))
            have HR3 : Hid (Lm (z2.setCell ⟨gv, 4, none⟩ (.int .u64 (upN 0 b))) (gg + 2) none 0 0 0 0 0 0 0 0 0) := HR2.out.at (Below.heap_setCell _ _ _ _ (Ne.symm HGV.out.1))
            have HT3 : Hid (Sm (z2.setCell ⟨gv, 4, none⟩ (.int .u64 (upN 0 b))) (gg + 1) t u) := HT2.out.at' (Below.heap_setCell _ _ _ _ (Ne.symm HGV.out.2))
            obtain ⟨z3, HZ3⟩ : ∃ y, Hid (z2.setCell ⟨gv, 4, none⟩ (.int .u64 (upN 0 b)) = y) := ⟨_, rfl⟩
            rw [HZ3.out] at HS3 HR3 HT3
            go_upto_region 13 with fail
            rw [HZ3.out]
            clear HZ3 f1 d1 HS2 HR2 HT2
            have ku := rup_ x b z3 hx hb
            go_wp2_with fail
            refine ku.mono ?_
            rintro e z4 ⟨rfl, gu⟩
            have HS4 := hid (HS3.out.on gu)
            have HR4 := hid (HR3.out.kept gu)
            have HT4 := hid (HT3.out.kept gu)
            clear ku gu HS3 HR3 HT3
            have f2 := HS4.out.lm.fz 5
            have d2 := HS4.out.lm.c5
            have HS5 := hid (HS4.out.s5 (upN x b))
            have HR5 : Hid (Lm (z4.setCell ⟨gv, 5, none⟩ (.int .u64 (upN x b))) (gg + 2) none 0 0 0 0 0 0 0 0 0) := HR4.out.at (Below.heap_setCell _ _ _ _ (Ne.symm HGV.out.1))
            have HT5 : Hid (Sm (z4.setCell ⟨gv, 5, none⟩ (.int .u64 (upN x b))) (gg + 1) t u) := HT4.out.at' (Below.heap_setCell _ _ _ _ (Ne.symm HGV.out.2))
            obtain ⟨z5, HZ5⟩ : ∃ y, Hid (z4.setCell ⟨gv, 5, none⟩ (.int .u64 (upN x b)) = y) := ⟨_, rfl⟩
            rw [HZ5.out] at HS5 HR5 HT5
            go_upto_region 14 with fail
            rw [HZ5.out]
            clear HZ5 f2 d2 HS4 HR4 HT4
            have v0 := HT5.out.c0
            have v1 := HT5.out.c1
            have f6 := HS5.out.lm.fz 6
            have f7 := HS5.out.lm.fz 7
            have d6 := HS5.out.lm.c6
            have d7 := HS5.out.lm.c7
            have HS6 := hid (HS5.out.s67 t u)
            have HR6 : Hid (Lm ((z5.setCell ⟨gv, 6, none⟩ (.int .i64 t)).setCell ⟨gv, 7, none⟩ (.int .i64 u)) (gg + 2) none 0 0 0 0 0 0 0 0 0) := HR5.out.at ((Below.heap_setCell _ _ _ _ (Ne.symm HGV.out.1)).trans (Below.heap_setCell _ _ _ _ (Ne.symm HGV.out.1)))
            obtain ⟨z6, HZ6⟩ : ∃ y, Hid ((z5.setCell ⟨gv, 6, none⟩ (.int .i64 t)).setCell ⟨gv, 7, none⟩ (.int .i64 u) = y) := ⟨_, rfl⟩
            rw [HZ6.out] at HS6 HR6
            go_upto_region 15 with fail
            rw [HZ6.out]
            clear HZ6 v0 v1 f6 f7 d6 d7 HS5 HR5 HT5
            have d0 := HS6.out.lm.c0
            have d1 := HS6.out.lm.c1
            have d2 := HS6.out.lm.c2
            have d3 := HS6.out.lm.c3
            have d4 := HS6.out.lm.c4
            have d5 := HS6.out.lm.c5
            have d6 := HS6.out.lm.c6
            have d7 := HS6.out.lm.c7
            go_wp2_with (refine wpList_sln rfl rfl _ _ rfl (gg + 2) za m zc S g N (upN 0 b) (upN x b) t u rfl rfl (by with_reducible exact HR6.out) ?_)
            refine bodyPost_ret (v := .tuple #[.agg #[.slice za m zc, .int .i64 S, .int .i64 g, .int .i64 N, .int .u64 (upN 0 b), .int .u64 (upN x b), .int .i64 t, .int .i64 u], .int .u64 0]) ?_ rfl ?_
            · exact results_ln rfl _ _ (gg + 2) za m zc S g N (upN 0 b) (upN x b) t u _ rfl rfl (HR6.out.row za m zc S g N (upN 0 b) (upN x b) t u)
            · have e1 : ansL ⟨k, S, C, N, D, E, s, n⟩ g x t u b = ⟨k, S, g, N, upN 0 b, upN x b, t, u⟩ := by unfold ansL; rw [HRR.out, HAT.out]; rfl
              have e2 : ansN ⟨k, S, C, N, D, E, s, n⟩ g x t u b = 0 := by unfold ansN; rw [HRR.out, HAT.out]; rfl
              rw [e1, e2]
              refine ⟨_, rfl, za, zc, ?_, ?_, bel_row (bel_bel HB2.out HB2.out.size HS6.out.bw) (by have := Hg.out; omega) _⟩
              · simp only [hkl]
              · simp only [hkl]
                exact (HS6.out.vs.step fun x _ hx _ => setRow_other _ _ _ _ (by have := HWS.out; omega)).wide fun x _ hx => by have := HWS.out; have := Hg.out; omega
set_option maxHeartbeats 1000000 in
theorem rnew17_ (a : Option Addr) (m c : Nat) (k : List Int) (S : Int) (w : World) (hk : Bs w a m k) (hm : m ≤ 140737488351232) (hS : i64r S) :
    Calls Try.prog 16 #[.slice a m c, .int .i64 S] w fun e w' => Rl1 w (newL k S) e w' := by
  have hkl : k.length = m := hk.1
  have m2 := Lm.new w none 0 0 0 0 0 0 0 0 0
  have B2 := lnew w none 0 0 0 0 0 0 0 0 0
  have HKB := hid (hk.below B2)
  have HOK := hid hk.2.1
  obtain ⟨W, HW⟩ : ∃ y, Hid (w.alloc (.cells #[.slice none 0 0, .int .i64 0, .int .i64 0, .int .i64 0, .int .u64 0, .int .u64 0, .int .i64 0, .int .i64 0] 27) = y) := ⟨_, rfl⟩
  obtain ⟨gg, Hg⟩ : ∃ y, Hid (w.heap.size = y) := ⟨_, rfl⟩
  have HWS : Hid (W.heap.size = gg + 1) := by show _ = _; rw [← HW.out, ← Hg.out]; simp
  rw [HW.out] at B2 m2 HKB
  rw [Hg.out] at m2
  have HB2 := hid B2
  have HM2 := hid m2
  clear B2 m2 hk
  by_cases h1 : m = 32
  case neg =>
    have HRR : Hid (newL k S = lzero) := by show _ = _; unfold newL; rw [decide_eq_false (by omega)]; rfl
    have hme : ((m : Int) != 32) = true := bne_iff_ne.2 (by omega)
    go_enter Try.func16, Try.ntmps16
    go_upto_region 1 with fail
    rw [HW.out, Hg.out]
    clear HW
    go_wp2_with (refine wpList_sln rfl rfl _ _ rfl gg none 0 0 0 0 0 0 0 0 0 rfl rfl (by with_reducible exact HM2.out) ?_)
    refine bodyPost_ret (v := .agg #[.slice none 0 0, .int .i64 0, .int .i64 0, .int .i64 0, .int .u64 0, .int .u64 0, .int .i64 0, .int .i64 0]) ?_ rfl ?_
    · exact results_cell_row rfl _ _ gg _ _ _ _ rfl (HM2.out.row none 0 0 0 0 0 0 0 0 0) Try.underlying27 rfl sizeln
    · rw [HRR.out]
      exact ⟨_, rfl, none, 0, rfl, vs_none _ _, bel_row HB2.out (by have := Hg.out; omega) _⟩
  subst h1
  by_cases h2 : 0 ≤ S
  case neg =>
    have HRR : Hid (newL k S = lzero) := by show _ = _; unfold newL; rw [decide_eq_false (by omega)]; rfl
    go_enter Try.func16, Try.ntmps16
    go_upto_region 1 with fail
    rw [HW.out, Hg.out]
    clear HW
    go_wp2_with (refine wpList_sln rfl rfl _ _ rfl gg none 0 0 0 0 0 0 0 0 0 rfl rfl (by with_reducible exact HM2.out) ?_)
    refine bodyPost_ret (v := .agg #[.slice none 0 0, .int .i64 0, .int .i64 0, .int .i64 0, .int .u64 0, .int .u64 0, .int .i64 0, .int .i64 0]) ?_ rfl ?_
    · exact results_cell_row rfl _ _ gg _ _ _ _ rfl (HM2.out.row none 0 0 0 0 0 0 0 0 0) Try.underlying27 rfl sizeln
    · rw [HRR.out]
      exact ⟨_, rfl, none, 0, rfl, vs_none _ _, bel_row HB2.out (by have := Hg.out; omega) _⟩
  by_cases h3 : S ≤ 1
  case neg =>
    have HRR : Hid (newL k S = lzero) := by show _ = _; unfold newL; rw [decide_eq_false (by omega)]; rfl
    go_enter Try.func16, Try.ntmps16
    go_upto_region 1 with fail
    rw [HW.out, Hg.out]
    clear HW
    go_wp2_with (refine wpList_sln rfl rfl _ _ rfl gg none 0 0 0 0 0 0 0 0 0 rfl rfl (by with_reducible exact HM2.out) ?_)
    refine bodyPost_ret (v := .agg #[.slice none 0 0, .int .i64 0, .int .i64 0, .int .i64 0, .int .u64 0, .int .u64 0, .int .i64 0, .int .i64 0]) ?_ rfl ?_
    · exact results_cell_row rfl _ _ gg _ _ _ _ rfl (HM2.out.row none 0 0 0 0 0 0 0 0 0) Try.underlying27 rfl sizeln
    · rw [HRR.out]
      exact ⟨_, rfl, none, 0, rfl, vs_none _ _, bel_row HB2.out (by have := Hg.out; omega) _⟩
  have HRR : Hid (newL k S = ⟨k, S, 1, 0, 0, 0, 0, 0⟩) := by show _ = _; unfold newL; rw [decide_eq_true (by omega)]; rfl
  have kb := refBytes a 32 c k W HKB.out (by omega)
  go_enter Try.func16, Try.ntmps16
  go_wp2_with fail
  rw [HW.out, Hg.out]
  clear HW
  refine kb.mono ?_
  rintro e w1 ⟨v1, rfl, o1, g1⟩
  obtain ⟨za, zc, rfl, vz⟩ := Vs.ofOwn o1 HOK.out
  have HZ1 := hid (HM2.out.kept g1)
  have HV1 := hid vz
  have HB1 : Hid (Bw W w1) := g1
  clear kb o1 vz g1
  go_wp2_with (refine wpList_sln rfl rfl _ _ rfl gg za 32 zc S 1 0 0 0 0 0 rfl rfl (by with_reducible exact HZ1.out) ?_)
  refine bodyPost_ret (v := .agg #[.slice za 32 zc, .int .i64 S, .int .i64 1, .int .i64 0, .int .u64 0, .int .u64 0, .int .i64 0, .int .i64 0]) ?_ rfl ?_
  · exact results_cell_row rfl _ _ gg _ _ _ _ rfl (HZ1.out.row za 32 zc S 1 0 0 0 0 0) Try.underlying27 rfl sizeln
  · rw [HRR.out]
    refine ⟨_, rfl, za, zc, ?_, ?_, bel_row (bel_bel HB2.out HB2.out.size HB1.out) (by have := Hg.out; omega) _⟩
    · simp only [hkl]
    · simp only [hkl]
      exact (HV1.out.step fun x _ hx _ => setRow_other _ _ _ _ (by have := HWS.out; omega)).wide fun x _ hx => by have := HWS.out; have := Hg.out; omega
/-- The document's nine calls. -/
theorem dlc : Lc 11 16 13 20 22 25 31 27 29 where
  valid := fun a m c k S C N D E s n w hm _ _ => rvalid17_ a m c S C N D E s n w hm
  new := rnew17_
  up := rup_
  again := fun a m c k S C N D E s n w h => ragain_ a m c k S C N D E s n w h
  propose := fun a m c k S C N D E s n w h => rpropose_ a m c k S C N D E s n w h
  reserve := fun a m c k S C N D E s n x b w h hx hb => rreserve_ a m c k S C N D E s n x b w h hx hb
  answered := fun a m c k S C N D E s n g x t u b w h hg hx ht hu hb => ranswered_ a m c k S C N D E s n g x t u b w h hg hx ht hu hb
  opened := fun a m c k S C N D E s n g x b w h hg hx hb => ropened_ a m c k S C N D E s n g x b w h hg hx hb
  raise := fun a m c k S C N D E s n x b w h hx hb => rraise_ a m c k S C N D E s n x b w h hx hb
end Go.Proofs.Ythhakecimnnnfaa
