import Derived.Test.YtohfdkhlpghbcaaSF
namespace Go.Proofs.Ytohfdkhlpghbcaa
set_option maxRecDepth 100000
open Go.RowKit
set_option linter.unusedVariables false

set_option maxHeartbeats 4000000 in
/-- RowsLanes. -/
theorem rowsLanes_ (la : Option Addr) (lm lc : Nat) (lk : List Int) (S C N D E s n : Int) (ka va : Option Addr) (kn kc vn vc : Nat) (k v : List Int) (w : World) (hl : Bs w la lm lk) (hlm : lm ≤ 140737488351232) (hS : i64r S) (hC : i64r C) (hN : i64r N) (hD : u64r D) (hE : u64r E) (hs : i64r s) (hn : i64r n) (hk : Bs w ka kn k) (hv : Bs w va vn v) (h1 : kn ≤ 140737488351232) (h2 : vn ≤ 140737488351232) (h3 : kn ≤ kc) (h4 : vn ≤ vc) (h5 : kc ≤ maxLen) (h6 : vc ≤ maxLen) :
    Calls Try.prog 4 #[.agg #[.slice la lm lc, .int .i64 S, .int .i64 C, .int .i64 N, .int .u64 D, .int .u64 E, .int .i64 s, .int .i64 n], .agg #[.slice ka kn kc, .slice va vn vc]] w fun e w' => e = .returned (.bool true) ∧ Below w.heap.size w w' := by
  have B0 : Below w.heap.size w ((w.alloc (.cells #[.slice la lm lc, .int .i64 S, .int .i64 C, .int .i64 N, .int .u64 D, .int .u64 E, .int .i64 s, .int .i64 n] 48)).alloc (.cells #[.slice ka kn kc, .slice va vn vc] 27)) := (lnew w la lm lc S C N D E s n).alloc (by simp) _
  have L0 : Lm ((w.alloc (.cells #[.slice la lm lc, .int .i64 S, .int .i64 C, .int .i64 N, .int .u64 D, .int .u64 E, .int .i64 s, .int .i64 n] 48)).alloc (.cells #[.slice ka kn kc, .slice va vn vc] 27)) w.heap.size la lm lc S C N D E s n := (Lm.new w la lm lc S C N D E s n).kept (bel_al _ _)
  have M0 := heap_alloc_new (w.alloc (.cells #[.slice la lm lc, .int .i64 S, .int .i64 C, .int .i64 N, .int .u64 D, .int .u64 E, .int .i64 s, .int .i64 n] 48)) (.cells #[.slice ka kn kc, .slice va vn vc] 27)
  rw [World.size_alloc] at M0
  obtain ⟨c0, c1, c2, c3, c4, c5, c6, c7⟩ := L0.cells
  have y0 := (two_cell M0).1
  have y1 := (two_cell M0).2
  have HB0 := hid B0
  have HL := hid (hl.below B0)
  have HK := hid (hk.below B0)
  have HV := hid (hv.below B0)
  clear B0 L0 M0 hl hk hv
  go_enter Try.func4, Try.ntmps4
  go_wp2_with fail
  generalize ((w.alloc (.cells #[.slice la lm lc, .int .i64 S, .int .i64 C, .int .i64 N, .int .u64 D, .int .u64 E, .int .i64 s, .int .i64 n] 48)).alloc (.cells #[.slice ka kn kc, .slice va vn vc] 27)) = W at *
  have Hc : Hid (W.cell? ⟨w.heap.size, 0, none⟩ = some (.slice la lm lc) ∧ W.cell? ⟨w.heap.size, 1, none⟩ = some (.int .i64 S) ∧ W.cell? ⟨w.heap.size, 2, none⟩ = some (.int .i64 C) ∧ W.cell? ⟨w.heap.size, 3, none⟩ = some (.int .i64 N) ∧ W.cell? ⟨w.heap.size, 4, none⟩ = some (.int .u64 D) ∧ W.cell? ⟨w.heap.size, 5, none⟩ = some (.int .u64 E) ∧ W.cell? ⟨w.heap.size, 6, none⟩ = some (.int .i64 s) ∧ W.cell? ⟨w.heap.size, 7, none⟩ = some (.int .i64 n)) := ⟨c0, c1, c2, c3, c4, c5, c6, c7⟩
  have Hy : Hid (W.cell? ⟨w.heap.size + 1, 0, none⟩ = some (.slice ka kn kc) ∧ W.cell? ⟨w.heap.size + 1, 1, none⟩ = some (.slice va vn vc)) := ⟨y0, y1⟩
  clear c0 c1 c2 c3 c4 c5 c6 c7 y0 y1
  refine (refLane_ la lm lc lk S C N D E s n W HL.out hlm).mono ?_
  rintro e w1 ⟨a1, d1, rfl, vs1, g1⟩
  have HB1 : Hid (Bw W w1) := g1
  have kp := putLane_ a1 lm d1 lk S C N D E s n w1 vs1.bs vs1.len hS hC hN hD hE hs hn
  have kq := fun wx (h : Bw W wx) => rputLane_ la lm lc lk S C N D E s n wx (HL.out.below h) (by unfold maxLen; omega) hS hC hN hD hE hs hn
  unfold Rp at kp kq
  obtain ⟨K, hK⟩ : ∃ x, lRK lk S C N s n = x := ⟨_, rfl⟩
  obtain ⟨V, hV⟩ : ∃ x, lRV lk S C N D E s n = x := ⟨_, rfl⟩
  obtain ⟨O, hO⟩ : ∃ x, lRE lk S C N s n = x := ⟨_, rfl⟩
  obtain ⟨kl, HKL⟩ : ∃ x : Nat, Hid (K.length = x) := ⟨_, rfl⟩
  obtain ⟨vl, HVL⟩ : ∃ x : Nat, Hid (V.length = x) := ⟨_, rfl⟩
  simp only [hK, hV, hO, HKL.out, HVL.out] at kp kq
  clear g1 vs1 hK hV hO
  go_wp2_with fail
  refine kp.mono ?_
  rintro e w2 ⟨pa, pc, qa, qc, rfl, vk, vv, g2⟩
  have B2 := bel_al w2 (.cells #[.slice pa kl pc, .slice qa vl qc] 27)
  have HB2 : Hid (Bw W (w2.alloc (.cells #[.slice pa kl pc, .slice qa vl qc] 27))) := (HB1.out.on g2).on B2
  have HM2 := hid (heap_alloc_new w2 (.cells #[.slice pa kl pc, .slice qa vl qc] 27))
  have HVK := hid (vk.bs.below B2)
  have HVV := hid (vv.bs.below B2)
  have HLK := hid vk.len
  have HLV := hid vv.len
  clear kp vk vv g2 B2 HB1
  obtain ⟨c0, c1, c2, c3, c4, c5, c6, c7⟩ := Hc.out
  have e0 := Bw.cell HB2.out c0
  have e1 := Bw.cell HB2.out c1
  have e2 := Bw.cell HB2.out c2
  have e3 := Bw.cell HB2.out c3
  have e4 := Bw.cell HB2.out c4
  have e5 := Bw.cell HB2.out c5
  have e6 := Bw.cell HB2.out c6
  have e7 := Bw.cell HB2.out c7
  clear c0 c1 c2 c3 c4 c5 c6 c7
  go_wp2_with fail
  clear e0 e1 e2 e3 e4 e5 e6 e7
  generalize (w2.alloc (.cells #[.slice pa kl pc, .slice qa vl qc] 27)) = W2 at *
  obtain ⟨b1, Hb1⟩ : ∃ x, Hid (w2.heap.size = x) := ⟨_, rfl⟩
  rw [Hb1.out] at HM2 ⊢
  refine (kq _ HB2.out).mono ?_
  rintro e w3 ⟨ra, rc, sa, sc, rfl, vk, vv, g3⟩
  have B3 := bel_al w3 (.cells #[.slice ra kl rc, .slice sa vl sc] 27)
  have G3 := bel_bel g3 g3.size B3
  have m3 := heap_alloc_new w3 (.cells #[.slice ra kl rc, .slice sa vl sc] 27)
  have ks := sameRow_ pa qa ra sa kl pc vl qc kl rc vl sc K V K V _ (HVK.out.below G3) (HVV.out.below G3) (vk.bs.below B3) (vv.bs.below B3) HLK.out HLV.out vk.len vv.len
  rw [sameB_self, sameB_self] at ks
  have HB3 := hid (HB2.out.on G3)
  have x0 := (two_cell m3).1
  have x1 := (two_cell m3).2
  have z0 := Bw.cell (W := W2) G3 (two_cell HM2.out).1
  have z1 := Bw.cell (W := W2) G3 (two_cell HM2.out).2
  clear kq vk vv g3 B3 G3 m3 HB2 HM2 HVK HVV HLK HLV
  go_wp2_with fail
  clear x0 x1 z0 z1
  refine ks.mono ?_
  rintro e w4 ⟨rfl, g4⟩
  have HB4 := hid (HB3.out.on g4)
  have y0 := Bw.cell HB4.out Hy.out.1
  have y1 := Bw.cell HB4.out Hy.out.2
  clear ks g4 HB3
  go_wp2_with fail
  clear y0 y1
  refine (lrow_ ka va kn kc vn vc k v w4 (HK.out.below HB4.out) (HV.out.below HB4.out) h1 h2).mono ?_
  rintro e w5 ⟨pa5, pc5, qa5, qc5, rfl, vk, vv, g5⟩
  have HB5 := hid (HB4.out.on g5)
  have kg := getLane_ pa5 qa5 kn pc5 vn qc5 k v w5 vk.bs vv.bs vk.nil vv.nil vk.nc vv.nc h1 h2
  have kr := fun wx (h : Bw W wx) => rgetLaneA_ ka va kn kc vn vc k v wx (HK.out.below h) (HV.out.below h) h3 h4 h5 h6
  unfold Gb at kg kr
  obtain ⟨ZK, hZK⟩ : ∃ x, zK k v = x := ⟨_, rfl⟩
  obtain ⟨ZS, hZS⟩ : ∃ x, zS k v = x := ⟨_, rfl⟩
  obtain ⟨ZC, hZC⟩ : ∃ x, zC k v = x := ⟨_, rfl⟩
  obtain ⟨ZN, hZN⟩ : ∃ x, zN k v = x := ⟨_, rfl⟩
  obtain ⟨ZD, hZD⟩ : ∃ x, zD k v = x := ⟨_, rfl⟩
  obtain ⟨ZE, hZE⟩ : ∃ x, zE k v = x := ⟨_, rfl⟩
  obtain ⟨Zs, hZs⟩ : ∃ x, zs k v = x := ⟨_, rfl⟩
  obtain ⟨Zn, hZn⟩ : ∃ x, zn k v = x := ⟨_, rfl⟩
  obtain ⟨ZO, hZO⟩ : ∃ x, zO k v = x := ⟨_, rfl⟩
  obtain ⟨zl, HZL⟩ : ∃ x : Nat, Hid (ZK.length = x) := ⟨_, rfl⟩
  simp only [hZK, hZS, hZC, hZN, hZD, hZE, hZs, hZn, hZO, HZL.out] at kg kr
  clear vk vv g5 HB4 hZK hZS hZC hZN hZD hZE hZs hZn hZO
  go_wp2_with fail
  refine kg.mono ?_
  rintro e w6 ⟨a6, d6, rfl, vs6, g6⟩
  have B6 := lnew w6 a6 zl d6 ZS ZC ZN ZD ZE Zs Zn
  have HL6 := hid (Lm.new w6 a6 zl d6 ZS ZC ZN ZD ZE Zs Zn)
  have HB6 := hid ((HB5.out.on g6).on B6)
  have HV6 := hid (vs6.bs.below B6)
  have HLV6 := hid vs6.len
  clear kg vs6 g6 B6 HB5
  have y0 := Bw.cell HB6.out Hy.out.1
  have y1 := Bw.cell HB6.out Hy.out.2
  go_wp2_with fail
  clear y0 y1
  generalize (w6.alloc (.cells #[.slice a6 zl d6, .int .i64 ZS, .int .i64 ZC, .int .i64 ZN, .int .u64 ZD, .int .u64 ZE, .int .i64 Zs, .int .i64 Zn] 48)) = W6 at *
  obtain ⟨b6, Hb6⟩ : ∃ x, Hid (w6.heap.size = x) := ⟨_, rfl⟩
  rw [Hb6.out] at HL6 ⊢
  refine (kr _ HB6.out).mono ?_
  rintro e w7 ⟨a7, d7, rfl, vs7, g7⟩
  have B7 := lnew w7 a7 zl d7 ZS ZC ZN ZD ZE Zs Zn
  have L7 := Lm.new w7 a7 zl d7 ZS ZC ZN ZD ZE Zs Zn
  have G7 := bel_bel g7 g7.size B7
  have HB7 := hid (HB6.out.on G7)
  have kl := sameLane_ a6 a7 zl d6 zl d7 ZK ZK ZS ZC ZN ZD ZE Zs Zn ZS ZC ZN ZD ZE Zs Zn _ (HV6.out.below G7) (vs7.bs.below B7) HLV6.out vs7.len
  have ht : slE ZK ZK ZS ZC ZN ZD ZE Zs Zn ZS ZC ZN ZD ZE Zs Zn = true := decide_eq_true ⟨rfl, rfl, rfl, rfl, rfl, rfl, rfl, rfl⟩
  rw [ht] at kl
  obtain ⟨c0, c1, c2, c3, c4, c5, c6, c7⟩ := (HL6.out.kept G7).cells
  obtain ⟨e0, e1, e2, e3, e4, e5, e6, e7⟩ := L7.cells
  clear kr vs7 g7 B7 L7 G7 HB6 HL6 HV6 HLV6 ht
  go_wp2_with fail
  clear c0 c1 c2 c3 c4 c5 c6 c7 e0 e1 e2 e3 e4 e5 e6 e7
  refine kl.mono ?_
  rintro e w8 ⟨rfl, g8⟩
  have HB8 := hid (HB7.out.on g8)
  clear kl g8 HB7
  go_wp2_with (go_at_call 15; refine (lnum_ _ _).mono ?_; rintro e w' ⟨rfl, hw⟩; obtain rfl := hw.symm; clear hw)
  refine (lfirst_ _).mono ?_
  rintro e w9 ⟨rfl, g9⟩
  have HB9 := hid (bel_bel HB0.out HB0.out.size (HB8.out.on g9))
  clear g9 HB8
  go_wp2_with fail
  go_ret
  exact ⟨rfl, HB9.out⟩
end Go.Proofs.Ytohfdkhlpghbcaa
