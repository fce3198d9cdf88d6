import Derived.Test.YtohfdkhlpghbcaaSQ
namespace Go.Proofs.Ytohfdkhlpghbcaa
set_option maxRecDepth 100000
open Go.RowKit
set_option linter.unusedVariables false

theorem Bs.cast {w : World} {a : Option Addr} {n m : Nat} {zs ys : List Int} (h : Bs w a n zs) (e : n = m) (ez : zs = ys) : Bs w a m ys := by
  subst e ez
  exact h
theorem Ps.cast {w : World} {a : Option Addr} {n m : Nat} {zs ys : List Px} (h : Ps w a n zs) (e : n = m) (ez : zs = ys) : Ps w a m ys := by
  subst e ez
  exact h
set_option maxHeartbeats 20000000 in
/-- RowsBack. -/
theorem rowsBack_ (K : Int) (la : Option Addr) (lm lc : Nat) (lk : List Int) (pa : Option Addr) (pn pd : Nat) (ps : List Px) (aa : Option Addr) (am ac : Nat) (ak : List Int) (S C N D E s nn : Int) (b : Int) (ka va : Option Addr) (kn kc vn vc : Nat) (k v : List Int) (w : World)
    (hp : i64r K ∧ (Vs w (fun x => x < w.heap.size) la lm lc lk ∧ lm ≤ 140737488351232) ∧ (Ps w pa pn ps ∧ pn ≤ pd ∧ pd ≤ maxLen ∧ (pa = none → pd = 0)))
    (hl : (Vs w (fun x => x < w.heap.size) aa am ac ak ∧ am ≤ 140737488351232) ∧ (i64r S ∧ i64r C ∧ i64r N ∧ u64r D ∧ u64r E ∧ i64r s ∧ i64r nn)) (hb : i64r b)
    (hr : (Vs w (fun x => x < w.heap.size) ka kn kc k ∧ kn ≤ 140737488351232) ∧ (Vs w (fun x => x < w.heap.size) va vn vc v ∧ vn ≤ 140737488351232)) :
    Calls Try.prog 6 #[.agg #[.int .i64 K, .slice la lm lc, .slice pa pn pd], .agg #[.slice aa am ac, .int .i64 S, .int .i64 C, .int .i64 N, .int .u64 D, .int .u64 E, .int .i64 s, .int .i64 nn], .int .i64 b, .agg #[.slice ka kn kc, .slice va vn vc]] w fun e w' => e = .returned (.bool true) ∧ Below w.heap.size w w' := by
  obtain ⟨hK, ⟨hlv, hlm⟩, hps, hpd, hpm, hpz⟩ := hp
  obtain ⟨⟨ha, ham⟩, hS, hC, hN, hD, hE, hs, hnn⟩ := hl
  have HR0 := hid hr
  have B0 : Below w.heap.size w (((w.alloc (.cells #[.int .i64 K, .slice la lm lc, .slice pa pn pd] 25)).alloc (.cells #[.slice aa am ac, .int .i64 S, .int .i64 C, .int .i64 N, .int .u64 D, .int .u64 E, .int .i64 s, .int .i64 nn] 48)).alloc (.cells #[.slice ka kn kc, .slice va vn vc] 27)) := ((bel_al w _).alloc (by simp) _).alloc (by simp; omega) _
  have L0 : Pe (((w.alloc (.cells #[.int .i64 K, .slice la lm lc, .slice pa pn pd] 25)).alloc (.cells #[.slice aa am ac, .int .i64 S, .int .i64 C, .int .i64 N, .int .u64 D, .int .u64 E, .int .i64 s, .int .i64 nn] 48)).alloc (.cells #[.slice ka kn kc, .slice va vn vc] 27)) w.heap.size K la lm lc pa pn pd := ((Pe.new w K la lm lc pa pn pd).kept (bel_al _ _)).kept (bel_al _ _)
  have L1 : Lm (((w.alloc (.cells #[.int .i64 K, .slice la lm lc, .slice pa pn pd] 25)).alloc (.cells #[.slice aa am ac, .int .i64 S, .int .i64 C, .int .i64 N, .int .u64 D, .int .u64 E, .int .i64 s, .int .i64 nn] 48)).alloc (.cells #[.slice ka kn kc, .slice va vn vc] 27)) (w.heap.size + 1) aa am ac S C N D E s nn := by
    have h := (Lm.new (w.alloc (.cells #[.int .i64 K, .slice la lm lc, .slice pa pn pd] 25)) aa am ac S C N D E s nn).kept (bel_al _ (.cells #[.slice ka kn kc, .slice va vn vc] 27))
    rw [World.size_alloc] at h
    exact h
  have M0 : (((w.alloc (.cells #[.int .i64 K, .slice la lm lc, .slice pa pn pd] 25)).alloc (.cells #[.slice aa am ac, .int .i64 S, .int .i64 C, .int .i64 N, .int .u64 D, .int .u64 E, .int .i64 s, .int .i64 nn] 48)).alloc (.cells #[.slice ka kn kc, .slice va vn vc] 27)).heap[w.heap.size + 1 + 1]? = some (.cells #[.slice ka kn kc, .slice va vn vc] 27 (0, 0)) := by
    have h := heap_alloc_new ((w.alloc (.cells #[.int .i64 K, .slice la lm lc, .slice pa pn pd] 25)).alloc (.cells #[.slice aa am ac, .int .i64 S, .int .i64 C, .int .i64 N, .int .u64 D, .int .u64 E, .int .i64 s, .int .i64 nn] 48)) (.cells #[.slice ka kn kc, .slice va vn vc] 27)
    rw [World.size_alloc, World.size_alloc] at h
    exact h
  have HB0 := hid B0
  have HL := hid (hlv.bs.below B0)
  have HLl := hid hlv.len
  have HPs := hid (hps.on B0)
  have HA := hid (ha.bs.below B0)
  have HAl := hid ha.len
  have Hp : Hid ((((w.alloc (.cells #[.int .i64 K, .slice la lm lc, .slice pa pn pd] 25)).alloc (.cells #[.slice aa am ac, .int .i64 S, .int .i64 C, .int .i64 N, .int .u64 D, .int .u64 E, .int .i64 s, .int .i64 nn] 48)).alloc (.cells #[.slice ka kn kc, .slice va vn vc] 27)).cell? ⟨w.heap.size, 0, none⟩ = some (.int .i64 K) ∧ (((w.alloc (.cells #[.int .i64 K, .slice la lm lc, .slice pa pn pd] 25)).alloc (.cells #[.slice aa am ac, .int .i64 S, .int .i64 C, .int .i64 N, .int .u64 D, .int .u64 E, .int .i64 s, .int .i64 nn] 48)).alloc (.cells #[.slice ka kn kc, .slice va vn vc] 27)).cell? ⟨w.heap.size, 1, none⟩ = some (.slice la lm lc) ∧ (((w.alloc (.cells #[.int .i64 K, .slice la lm lc, .slice pa pn pd] 25)).alloc (.cells #[.slice aa am ac, .int .i64 S, .int .i64 C, .int .i64 N, .int .u64 D, .int .u64 E, .int .i64 s, .int .i64 nn] 48)).alloc (.cells #[.slice ka kn kc, .slice va vn vc] 27)).cell? ⟨w.heap.size, 2, none⟩ = some (.slice pa pn pd)) := ⟨L0.c0, L0.c1, L0.c2⟩
  have Hlc := hid L1.cells
  have Hy := hid (two_cell M0)
  obtain ⟨W, HW⟩ : ∃ W, Hid ((((w.alloc (.cells #[.int .i64 K, .slice la lm lc, .slice pa pn pd] 25)).alloc (.cells #[.slice aa am ac, .int .i64 S, .int .i64 C, .int .i64 N, .int .u64 D, .int .u64 E, .int .i64 s, .int .i64 nn] 48)).alloc (.cells #[.slice ka kn kc, .slice va vn vc] 27)) = W) := ⟨_, rfl⟩
  rw [HW.out] at HB0 HL HPs HA Hp Hlc Hy
  have kag := fun wx (h : Bw W wx) => lagain_ ka va kn kc vn vc k v wx ⟨⟨(hr.1.1.lift (hb := bel_bel HB0.out HB0.out.size h) (V' := fun x => x < wx.heap.size) fun x hx _ => Nat.lt_of_lt_of_le hx (bel_bel HB0.out HB0.out.size h).size), hr.1.2⟩, (hr.2.1.lift (hb := bel_bel HB0.out HB0.out.size h) (V' := fun x => x < wx.heap.size) fun x hx _ => Nat.lt_of_lt_of_le hx (bel_bel HB0.out HB0.out.size h).size), hr.2.2⟩
  clear B0 L0 L1 M0 hr hpz
  unfold maxLen at hpm
  by_cases h60 : 60 < pn
  · have h60' : (pn : Int) > 60 := by omega
    go_enter Try.func6, Try.ntmps6
    go_wp2_with fail
    rw [HW.out]
    refine (lfirst_ _).mono ?_
    rintro e w1 ⟨rfl, g1⟩
    have HB1 : Hid (Bw W w1) := g1
    have f2 := Bw.cell HB1.out Hp.out.2.2
    go_wp2_with fail
    go_ret
    exact ⟨rfl, bel_bel HB0.out HB0.out.size HB1.out⟩
  have h60' : ¬ (pn : Int) > 60 := by omega
  have H60 : Hid (pn ≤ 60) := by show _ ≤ _; omega
  obtain ⟨q, hq⟩ := pk_bool K lm ps
  have kpP := fun wx (h : Bw W wx) => putPeer_ K la pa lm lc pn pd lk ps wx hK (HL.out.below h) (HPs.out.on h) HLl.out (by unfold maxLen; omega) q hq
  unfold Rp at kpP
  have HPx : Hid (q = true → Pk K lk.length ps) := fun h => by rw [hlv.bs.1]; exact hq.1 h
  have Hvl0 : Hid ((if q then peK K else []).length ≤ 100000 ∧ (if q then peV lk ps else []).length ≤ 100000) := by
    cases q with
    | false => exact ⟨by simp, by simp⟩
    | true =>
      have h := hq.1 rfl
      have hb := peB_len ps
      have h16 := h.2.2.2.1
      have h32 := h.2.2.1
      simp only [if_true]
      refine ⟨by rw [peK_length]; omega, ?_⟩
      unfold peV
      rw [List.length_append, List.length_append, hlv.bs.1, h32]
      simp
      omega
  have HPo0 : Hid (((if q then (0 : Int) else 114) = 0 ∧ (if q then peK K else []) = peK K ∧ (if q then peV lk ps else []) = peV lk ps ∧ Pk K lk.length ps) ∨ (if q then (0 : Int) else 114) = 114) := by
    cases q with
    | false => exact .inr rfl
    | true => exact .inl ⟨rfl, rfl, rfl, HPx.out rfl⟩
  obtain ⟨PK, hPK⟩ : ∃ x, (if q then peK K else []) = x := ⟨_, rfl⟩
  obtain ⟨PV, hPV⟩ : ∃ x, (if q then peV lk ps else []) = x := ⟨_, rfl⟩
  obtain ⟨O, hO⟩ : ∃ x, (if q then (0 : Int) else 114) = x := ⟨_, rfl⟩
  obtain ⟨kl, HKL⟩ : ∃ x : Nat, Hid (PK.length = x) := ⟨_, rfl⟩
  obtain ⟨vl, HVL⟩ : ∃ x : Nat, Hid (PV.length = x) := ⟨_, rfl⟩
  simp only [hPK, hPV, hO, HKL.out, HVL.out] at kpP Hvl0 HPo0
  have Hkl := hid Hvl0.out.1
  have Hvl := hid Hvl0.out.2
  obtain ⟨qP, hqP⟩ := gp_bool PK PV
  have HqP := hid hqP
  obtain ⟨ZKp, HP1⟩ : ∃ x, Hid ((if qP then xK PK else 0) = x) := ⟨_, rfl⟩
  obtain ⟨ZBp, HP2⟩ : ∃ x, Hid ((if qP then PV.take 32 else []) = x) := ⟨_, rfl⟩
  obtain ⟨ZPp, HP3⟩ : ∃ x, Hid ((if qP then xP PV else []) = x) := ⟨_, rfl⟩
  obtain ⟨ZOp, HP4⟩ : ∃ x, Hid ((if qP then (0 : Int) else 114) = x) := ⟨_, rfl⟩
  obtain ⟨zb, HP5⟩ : ∃ x : Nat, Hid (ZBp.length = x) := ⟨_, rfl⟩
  obtain ⟨zp, HP6⟩ : ∃ x : Nat, Hid (ZPp.length = x) := ⟨_, rfl⟩
  have HPo : Hid ((O = 0 ∧ ZKp = K ∧ ZBp = lk ∧ ZPp = ps ∧ ZOp = 0) ∨ O = 114) := by
    rcases HPo0.out with ⟨h1, h2, h3, h4⟩ | h1
    · obtain ⟨g1, g2, g3, g4⟩ := gp_put h4 HPs.out.ok
      rw [← h2, ← h3] at g1
      have hqt : qP = true := hqP.2 g1
      refine .inl ⟨h1, ?_, ?_, ?_, ?_⟩
      · rw [← HP1.out, hqt, if_pos rfl, h2, g2]
      · rw [← HP2.out, hqt, if_pos rfl, h3, g3]
      · rw [← HP3.out, hqt, if_pos rfl, h3, g4]
      · rw [← HP4.out, hqt, if_pos rfl]
    · exact .inr h1
  have HZBl : Hid (ZBp = lk → zb = lm) := fun h => by rw [← HP5.out, h]; exact hlv.bs.1
  have HZPl : Hid (ZPp = ps → zp = pn) := fun h => by rw [← HP6.out, h]; exact hps.len
  clear HPo0 Hvl0 HPx hPK hPV hO hq hqP
  have kpL := fun wx (h : Bw W wx) => putLane_ aa am ac ak S C N D E s nn wx (HA.out.below h) HAl.out hS hC hN hD hE hs hnn
  unfold Rp at kpL
  have HLa : Hid ((lok ak.length S C N s nn = true ∧ lRK ak S C N s nn = lK ak ∧ lRV ak S C N D E s nn = lV S C N D E s nn ∧ lRE ak S C N s nn = 0) ∨ (lRE ak S C N s nn = 114 ∧ lRK ak S C N s nn = [] ∧ lRV ak S C N D E s nn = [])) := by
    unfold lRK lRV lRE
    cases h : lok ak.length S C N s nn with
    | false => exact .inr ⟨rfl, rfl, rfl⟩
    | true => exact .inl ⟨rfl, rfl, rfl, rfl⟩
  obtain ⟨LK, hLK⟩ : ∃ x, lRK ak S C N s nn = x := ⟨_, rfl⟩
  obtain ⟨LV, hLV⟩ : ∃ x, lRV ak S C N D E s nn = x := ⟨_, rfl⟩
  obtain ⟨LO, hLO⟩ : ∃ x, lRE ak S C N s nn = x := ⟨_, rfl⟩
  obtain ⟨ll, HLLn⟩ : ∃ x : Nat, Hid (LK.length = x) := ⟨_, rfl⟩
  obtain ⟨wl, HWLn⟩ : ∃ x : Nat, Hid (LV.length = x) := ⟨_, rfl⟩
  simp only [hLK, hLV, hLO, HLLn.out, HWLn.out] at kpL HLa
  have Hlw : Hid (ll ≤ 100000 ∧ wl ≤ 100000) := by
    show _ ∧ _
    rw [← HLLn.out, ← HWLn.out]
    rcases HLa.out with ⟨h1, h2, h3, h4⟩ | ⟨h1, h2, h3⟩
    · rw [h2, h3, lV_length (lok_in h1).1]
      unfold lK
      rw [List.length_append, (lok_in h1).2.1]
      exact ⟨by simp, by omega⟩
    · rw [h2, h3]
      exact ⟨by simp, by simp⟩
  have Hll := hid Hlw.out.1
  have Hwl := hid Hlw.out.2
  obtain ⟨ZK, HZ1⟩ : ∃ x, Hid (zK LK LV = x) := ⟨_, rfl⟩
  obtain ⟨ZS, HZ2⟩ : ∃ x, Hid (zS LK LV = x) := ⟨_, rfl⟩
  obtain ⟨ZC, HZ3⟩ : ∃ x, Hid (zC LK LV = x) := ⟨_, rfl⟩
  obtain ⟨ZN, HZ4⟩ : ∃ x, Hid (zN LK LV = x) := ⟨_, rfl⟩
  obtain ⟨ZD, HZ5⟩ : ∃ x, Hid (zD LK LV = x) := ⟨_, rfl⟩
  obtain ⟨ZE, HZ6⟩ : ∃ x, Hid (zE LK LV = x) := ⟨_, rfl⟩
  obtain ⟨Zs, HZ7⟩ : ∃ x, Hid (zs LK LV = x) := ⟨_, rfl⟩
  obtain ⟨Zn, HZ8⟩ : ∃ x, Hid (zn LK LV = x) := ⟨_, rfl⟩
  obtain ⟨ZO, HZ9⟩ : ∃ x, Hid (zO LK LV = x) := ⟨_, rfl⟩
  obtain ⟨zl, HZl⟩ : ∃ x : Nat, Hid (ZK.length = x) := ⟨_, rfl⟩
  have HLo : Hid ((LO = 0 ∧ ZK = ak ∧ ZS = S ∧ ZC = C ∧ ZN = N ∧ ZD = D ∧ ZE = E ∧ Zs = s ∧ Zn = nn ∧ ZO = 0) ∨ LO = 114) := by
    rcases HLa.out with ⟨h1, h2, h3, h4⟩ | ⟨h1, h2, h3⟩
    · have hy := yok_put (D := D) (E := E) h1 hD hE hs
      obtain ⟨i1, i2, i3, i4, i5, i6, i7⟩ := lok_in h1
      obtain ⟨p1, p2, p3, p4, p5, p6, p7, p8, -⟩ := lV_parts (S := S) (C := C) (N := N) ⟨by omega, by omega⟩ ⟨by omega, by omega⟩ hD hE hs i1
      refine .inl ⟨h4, ?_, ?_, ?_, ?_, ?_, ?_, ?_, ?_, ?_⟩
      · rw [← HZ1.out, h2, h3]; unfold zK; rw [hy]; rfl
      · rw [← HZ2.out, h2, h3]; unfold zS; rw [hy, if_pos rfl, p1]
      · rw [← HZ3.out, h2, h3]; unfold zC; rw [hy, if_pos rfl, p2]
      · rw [← HZ4.out, h2, h3]; unfold zN; rw [hy, if_pos rfl, p3]
      · rw [← HZ5.out, h2, h3]; unfold zD; rw [hy, if_pos rfl, p4]
      · rw [← HZ6.out, h2, h3]; unfold zE; rw [hy, if_pos rfl, p5]
      · rw [← HZ7.out, h2, h3]; unfold zs; rw [hy, if_pos rfl, p6, p7]
      · rw [← HZ8.out, h2, h3]; unfold zn; rw [hy, if_pos rfl, p6, p8]
      · rw [← HZ9.out, h2, h3]; unfold zO; rw [hy, if_pos rfl]
    · exact .inr h1
  clear HLa Hlw hLK hLV hLO
  have kpB := fun wx => putBoots_ b wx hb
  unfold Rp at kpB
  have HBa : Hid ((bOk b = true ∧ bK b = [66] ∧ bV b = be 8 b ∧ bE b = 0) ∨ (bE b = 114 ∧ bK b = [] ∧ bV b = [])) := by
    unfold bK bV bE
    cases h : bOk b with
    | false => exact .inr ⟨rfl, rfl, rfl⟩
    | true => exact .inl ⟨rfl, rfl, rfl, rfl⟩
  obtain ⟨BK, hBK⟩ : ∃ x, bK b = x := ⟨_, rfl⟩
  obtain ⟨BV, hBV⟩ : ∃ x, bV b = x := ⟨_, rfl⟩
  obtain ⟨BO, hBO⟩ : ∃ x, bE b = x := ⟨_, rfl⟩
  obtain ⟨bl, HBLn⟩ : ∃ x : Nat, Hid (BK.length = x) := ⟨_, rfl⟩
  obtain ⟨cl, HCLn⟩ : ∃ x : Nat, Hid (BV.length = x) := ⟨_, rfl⟩
  simp only [hBK, hBV, hBO, HBLn.out, HCLn.out] at kpB HBa
  have Hbc : Hid (bl ≤ 100000 ∧ cl ≤ 100000) := by
    show _ ∧ _
    rw [← HBLn.out, ← HCLn.out]
    rcases HBa.out with ⟨h1, h2, h3, h4⟩ | ⟨h1, h2, h3⟩
    · rw [h2, h3, be_length]
      exact ⟨by simp, by omega⟩
    · rw [h2, h3]
      exact ⟨by simp, by simp⟩
  have Hbl := hid Hbc.out.1
  have Hcl := hid Hbc.out.2
  obtain ⟨gN, HG1⟩ : ∃ x, Hid (gbN BK BV = x) := ⟨_, rfl⟩
  obtain ⟨gE, HG2⟩ : ∃ x, Hid (gbE BK BV = x) := ⟨_, rfl⟩
  have HBo : Hid ((BO = 0 ∧ gN = b ∧ gE = 0) ∨ BO = 114) := by
    rcases HBa.out with ⟨h1, h2, h3, h4⟩ | ⟨h1, h2, h3⟩
    · obtain ⟨g1, g2⟩ := gb_put h1
      refine .inl ⟨h4, ?_, ?_⟩
      · rw [← HG1.out, h2, h3]; unfold gbN; rw [g1, if_pos rfl, g2]
      · rw [← HG2.out, h2, h3]; unfold gbE; rw [g1, if_pos rfl]
    · exact .inr h1
  clear HBa Hbc hBK hBV hBO hlv ha hps
  go_enter Try.func6, Try.ntmps6
  go_wp2_with fail
  rw [HW.out]
  clear HW
  refine (lfirst_ _).mono ?_
  rintro e w1 ⟨rfl, g1⟩
  have HB1y : Hid (Bw W w1) := g1
  clear g1
  have f0 := Bw.cell HB1y.out Hp.out.1
  have f1 := Bw.cell HB1y.out Hp.out.2.1
  have f2 := Bw.cell HB1y.out Hp.out.2.2
  go_wp2_with fail
  clear f0 f1 f2
  refine (kpP _ HB1y.out).mono ?_
  rintro e u1 ⟨ra1, rc1, sa1, sc1, rfl, vk1, vv1, g1⟩
  have B1 := bel_al u1 (.cells #[.slice ra1 kl rc1, .slice sa1 vl sc1] 27)
  have M1 := heap_alloc_new u1 (.cells #[.slice ra1 kl rc1, .slice sa1 vl sc1] 27)
  have HB1 := hid ((HB1y.out.on g1).on B1)
  have kg := getPeer_ ra1 sa1 kl rc1 vl sc1 PK PV _ (vk1.bs.below B1) (vv1.bs.below B1) vk1.nil vv1.nil vk1.nc vv1.nc (by have := Hkl.out; omega) (by have := Hvl.out; omega) qP HqP.out
  unfold Gq at kg
  simp only [HP1.out, HP2.out, HP3.out, HP4.out, HP5.out, HP6.out] at kg
  have x0 := (two_cell M1).1
  have x1 := (two_cell M1).2
  clear vk1 vv1 g1 B1 M1 HB1y
  go_wp2_with fail
  clear x0 x1
  refine kg.mono ?_
  rintro e u2 ⟨a2, d2, p2, e2, rfl, vs2, pv2, g2⟩
  have B2 := bel_al u2 (.cells #[.int .i64 ZKp, .slice a2 zb d2, .slice p2 zp e2] 25)
  have HB2 := hid ((HB1.out.on g2).on B2)
  have L2 := Pe.new u2 ZKp a2 zb d2 p2 zp e2
  clear kg
  rcases HPo.out with ⟨hO, h1, h2, h3, h4⟩ | hO
  · rw [hO, h4]
    have ks := samePeer_ K la a2 pa p2 lm lc d2 pn pd e2 lk ps _ (HL.out.below HB2.out) ((vs2.bs.below B2).cast (HZBl.out h2) h2) (HPs.out.on HB2.out) ((pv2.ps.on B2).cast (HZPl.out h3) h3) HLl.out (by have := H60.out; omega)
    have c0 := L2.c0
    have c1 := L2.c1
    have c2 := L2.c2
    rw [h1, HZBl.out h2, HZPl.out h3] at HB2 ⊢
    rw [h1, HZBl.out h2, HZPl.out h3] at c0 c1 c2 ks
    have f0 := Bw.cell HB2.out Hp.out.1
    have f1 := Bw.cell HB2.out Hp.out.2.1
    have f2 := Bw.cell HB2.out Hp.out.2.2
    clear vs2 pv2 g2 B2 L2 HB1
    go_wp2_with (go_at_call 15; refine (lnum_ _ _).mono ?_; rintro e w' ⟨rfl, hw⟩; obtain rfl := hw.symm; clear hw)
    clear c0 c1 c2
    clear f0 f1 f2
    refine ks.mono ?_
    rintro e t2 ⟨rfl, g2⟩
    have HC2 := hid (HB2.out.on g2)
    clear ks g2 HB2
    have f0 := Bw.cell HC2.out Hlc.out.1
    have f1 := Bw.cell HC2.out Hlc.out.2.1
    have f2 := Bw.cell HC2.out Hlc.out.2.2.1
    have f3 := Bw.cell HC2.out Hlc.out.2.2.2.1
    have f4 := Bw.cell HC2.out Hlc.out.2.2.2.2.1
    have f5 := Bw.cell HC2.out Hlc.out.2.2.2.2.2.1
    have f6 := Bw.cell HC2.out Hlc.out.2.2.2.2.2.2.1
    have f7 := Bw.cell HC2.out Hlc.out.2.2.2.2.2.2.2
    go_wp2_with (go_at_call 15; refine (lnum_ _ _).mono ?_; rintro e w' ⟨rfl, hw⟩; obtain rfl := hw.symm; clear hw)
    clear f0 f1 f2 f3 f4 f5 f6 f7
    have HB2 := HC2
    clear HC2
    refine (kpL _ HB2.out).mono ?_
    rintro e u3 ⟨ra3, rc3, sa3, sc3, rfl, vk3, vv3, g3⟩
    have B3 := bel_al u3 (.cells #[.slice ra3 ll rc3, .slice sa3 wl sc3] 27)
    have M3 := heap_alloc_new u3 (.cells #[.slice ra3 ll rc3, .slice sa3 wl sc3] 27)
    have HB3 := hid ((HB2.out.on g3).on B3)
    have kg := getLane_ ra3 sa3 ll rc3 wl sc3 LK LV _ (vk3.bs.below B3) (vv3.bs.below B3) vk3.nil vv3.nil vk3.nc vv3.nc (by have := Hll.out; omega) (by have := Hwl.out; omega)
    unfold Gb at kg
    simp only [HZ1.out, HZ2.out, HZ3.out, HZ4.out, HZ5.out, HZ6.out, HZ7.out, HZ8.out, HZ9.out, HZl.out] at kg
    have x0 := (two_cell M3).1
    have x1 := (two_cell M3).2
    clear vk3 vv3 g3 B3 M3 HB2
    go_wp2_with fail
    clear x0 x1
    refine kg.mono ?_
    rintro e u4 ⟨a4, d4, rfl, vs4, g4⟩
    have B4 := lnew u4 a4 zl d4 ZS ZC ZN ZD ZE Zs Zn
    have HB4 := hid ((HB3.out.on g4).on B4)
    have L4 := Lm.new u4 a4 zl d4 ZS ZC ZN ZD ZE Zs Zn
    clear kg
    rcases HLo.out with ⟨hO, h1, h2, h3, h4, h5, h6, h7, h8, h9⟩ | hO
    · rw [hO, h9]
      have ks := sameLane_ aa a4 am ac zl d4 ak ZK S C N D E s nn ZS ZC ZN ZD ZE Zs Zn _ (HA.out.below HB4.out) (vs4.bs.below B4) HAl.out vs4.len
      have ht : slE ak ZK S C N D E s nn ZS ZC ZN ZD ZE Zs Zn = true := decide_eq_true ⟨h1.symm, h2.symm, h3.symm, h4.symm, h5.symm, h6.symm, h7.symm, h8.symm⟩
      rw [ht] at ks
      obtain ⟨c0, c1, c2, c3, c4, c5, c6, c7⟩ := L4.cells
      have f0 := Bw.cell HB4.out Hlc.out.1
      have f1 := Bw.cell HB4.out Hlc.out.2.1
      have f2 := Bw.cell HB4.out Hlc.out.2.2.1
      have f3 := Bw.cell HB4.out Hlc.out.2.2.2.1
      have f4 := Bw.cell HB4.out Hlc.out.2.2.2.2.1
      have f5 := Bw.cell HB4.out Hlc.out.2.2.2.2.2.1
      have f6 := Bw.cell HB4.out Hlc.out.2.2.2.2.2.2.1
      have f7 := Bw.cell HB4.out Hlc.out.2.2.2.2.2.2.2
      clear vs4 g4 B4 L4 HB3 ht h1 h2 h3 h4 h5 h6 h7 h8
      go_wp2_with (go_at_call 15; refine (lnum_ _ _).mono ?_; rintro e w' ⟨rfl, hw⟩; obtain rfl := hw.symm; clear hw)
      clear c0 c1 c2 c3 c4 c5 c6 c7 f0 f1 f2 f3 f4 f5 f6 f7
      refine ks.mono ?_
      rintro e t4 ⟨rfl, g4⟩
      have HC4 := hid (HB4.out.on g4)
      clear ks g4 HB4
      go_wp2_with (go_at_call 15; refine (lnum_ _ _).mono ?_; rintro e w' ⟨rfl, hw⟩; obtain rfl := hw.symm; clear hw)
      have HB4 := HC4
      clear HC4
      refine (kpB _).mono ?_
      rintro e u5 ⟨ra5, rc5, sa5, sc5, rfl, vk5, vv5, g5⟩
      have B5 := bel_al u5 (.cells #[.slice ra5 bl rc5, .slice sa5 cl sc5] 27)
      have M5 := heap_alloc_new u5 (.cells #[.slice ra5 bl rc5, .slice sa5 cl sc5] 27)
      have HB5 := hid ((HB4.out.on g5).on B5)
      have kg := getBoots_ ra5 sa5 bl rc5 cl sc5 BK BV _ (vk5.bs.below B5) (vv5.bs.below B5) vk5.nil vv5.nil vk5.nc vv5.nc (by have := Hbl.out; omega) (by have := Hcl.out; omega)
      rw [HG1.out, HG2.out] at kg
      have x0 := (two_cell M5).1
      have x1 := (two_cell M5).2
      clear vk5 vv5 g5 B5 M5 HB4
      go_wp2_with fail
      clear x0 x1
      refine kg.mono ?_
      rintro e u6 ⟨rfl, g6⟩
      have HB6 := hid (HB5.out.on g6)
      clear kg g6 HB5
      have y0 := Bw.cell HB6.out Hy.out.1
      have y1 := Bw.cell HB6.out Hy.out.2
      rcases HBo.out with ⟨hO, h1, h2⟩ | hO
      · rw [hO, h1, h2]
        go_wp2_with (go_at_call 15; refine (lnum_ _ _).mono ?_; rintro e w' ⟨rfl, hw⟩; obtain rfl := hw.symm; clear hw)
        clear y0 y1
        refine (kag _ HB6.out).mono ?_
        rintro e u7 ⟨rfl, g7⟩
        have HB7 := hid (HB6.out.on g7)
        clear g7
        go_wp2_with fail
        go_ret
        exact ⟨rfl, bel_bel HB0.out HB0.out.size HB7.out⟩
      · rw [hO]
        go_wp2_with (go_at_call 15; refine (lnum_ _ _).mono ?_; rintro e w' ⟨rfl, hw⟩; obtain rfl := hw.symm; clear hw)
        clear y0 y1
        refine (kag _ HB6.out).mono ?_
        rintro e u8 ⟨rfl, g8⟩
        have HB8 := hid (HB6.out.on g8)
        clear g8
        go_wp2_with fail
        go_ret
        exact ⟨rfl, bel_bel HB0.out HB0.out.size HB8.out⟩
    · rw [hO]
      clear vs4 g4 B4 L4 HB3
      go_wp2_with (go_at_call 15; refine (lnum_ _ _).mono ?_; rintro e w' ⟨rfl, hw⟩; obtain rfl := hw.symm; clear hw)
      refine (kpB _).mono ?_
      rintro e u9 ⟨ra9, rc9, sa9, sc9, rfl, vk9, vv9, g9⟩
      have B9 := bel_al u9 (.cells #[.slice ra9 bl rc9, .slice sa9 cl sc9] 27)
      have M9 := heap_alloc_new u9 (.cells #[.slice ra9 bl rc9, .slice sa9 cl sc9] 27)
      have HB9 := hid ((HB4.out.on g9).on B9)
      have kg := getBoots_ ra9 sa9 bl rc9 cl sc9 BK BV _ (vk9.bs.below B9) (vv9.bs.below B9) vk9.nil vv9.nil vk9.nc vv9.nc (by have := Hbl.out; omega) (by have := Hcl.out; omega)
      rw [HG1.out, HG2.out] at kg
      have x0 := (two_cell M9).1
      have x1 := (two_cell M9).2
      clear vk9 vv9 g9 B9 M9 HB4
      go_wp2_with fail
      clear x0 x1
      refine kg.mono ?_
      rintro e u10 ⟨rfl, g10⟩
      have HB10 := hid (HB9.out.on g10)
      clear kg g10 HB9
      have y0 := Bw.cell HB10.out Hy.out.1
      have y1 := Bw.cell HB10.out Hy.out.2
      rcases HBo.out with ⟨hO, h1, h2⟩ | hO
      · rw [hO, h1, h2]
        go_wp2_with (go_at_call 15; refine (lnum_ _ _).mono ?_; rintro e w' ⟨rfl, hw⟩; obtain rfl := hw.symm; clear hw)
        clear y0 y1
        refine (kag _ HB10.out).mono ?_
        rintro e u11 ⟨rfl, g11⟩
        have HB11 := hid (HB10.out.on g11)
        clear g11
        go_wp2_with fail
        go_ret
        exact ⟨rfl, bel_bel HB0.out HB0.out.size HB11.out⟩
      · rw [hO]
        go_wp2_with (go_at_call 15; refine (lnum_ _ _).mono ?_; rintro e w' ⟨rfl, hw⟩; obtain rfl := hw.symm; clear hw)
        clear y0 y1
        refine (kag _ HB10.out).mono ?_
        rintro e u12 ⟨rfl, g12⟩
        have HB12 := hid (HB10.out.on g12)
        clear g12
        go_wp2_with fail
        go_ret
        exact ⟨rfl, bel_bel HB0.out HB0.out.size HB12.out⟩
  · rw [hO]
    clear vs2 pv2 g2 B2 L2 HB1
    have f0 := Bw.cell HB2.out Hlc.out.1
    have f1 := Bw.cell HB2.out Hlc.out.2.1
    have f2 := Bw.cell HB2.out Hlc.out.2.2.1
    have f3 := Bw.cell HB2.out Hlc.out.2.2.2.1
    have f4 := Bw.cell HB2.out Hlc.out.2.2.2.2.1
    have f5 := Bw.cell HB2.out Hlc.out.2.2.2.2.2.1
    have f6 := Bw.cell HB2.out Hlc.out.2.2.2.2.2.2.1
    have f7 := Bw.cell HB2.out Hlc.out.2.2.2.2.2.2.2
    go_wp2_with (go_at_call 15; refine (lnum_ _ _).mono ?_; rintro e w' ⟨rfl, hw⟩; obtain rfl := hw.symm; clear hw)
    clear f0 f1 f2 f3 f4 f5 f6 f7
    refine (kpL _ HB2.out).mono ?_
    rintro e u13 ⟨ra13, rc13, sa13, sc13, rfl, vk13, vv13, g13⟩
    have B13 := bel_al u13 (.cells #[.slice ra13 ll rc13, .slice sa13 wl sc13] 27)
    have M13 := heap_alloc_new u13 (.cells #[.slice ra13 ll rc13, .slice sa13 wl sc13] 27)
    have HB13 := hid ((HB2.out.on g13).on B13)
    have kg := getLane_ ra13 sa13 ll rc13 wl sc13 LK LV _ (vk13.bs.below B13) (vv13.bs.below B13) vk13.nil vv13.nil vk13.nc vv13.nc (by have := Hll.out; omega) (by have := Hwl.out; omega)
    unfold Gb at kg
    simp only [HZ1.out, HZ2.out, HZ3.out, HZ4.out, HZ5.out, HZ6.out, HZ7.out, HZ8.out, HZ9.out, HZl.out] at kg
    have x0 := (two_cell M13).1
    have x1 := (two_cell M13).2
    clear vk13 vv13 g13 B13 M13 HB2
    go_wp2_with fail
    clear x0 x1
    refine kg.mono ?_
    rintro e u14 ⟨a14, d14, rfl, vs14, g14⟩
    have B14 := lnew u14 a14 zl d14 ZS ZC ZN ZD ZE Zs Zn
    have HB14 := hid ((HB13.out.on g14).on B14)
    have L14 := Lm.new u14 a14 zl d14 ZS ZC ZN ZD ZE Zs Zn
    clear kg
    rcases HLo.out with ⟨hO, h1, h2, h3, h4, h5, h6, h7, h8, h9⟩ | hO
    · rw [hO, h9]
      have ks := sameLane_ aa a14 am ac zl d14 ak ZK S C N D E s nn ZS ZC ZN ZD ZE Zs Zn _ (HA.out.below HB14.out) (vs14.bs.below B14) HAl.out vs14.len
      have ht : slE ak ZK S C N D E s nn ZS ZC ZN ZD ZE Zs Zn = true := decide_eq_true ⟨h1.symm, h2.symm, h3.symm, h4.symm, h5.symm, h6.symm, h7.symm, h8.symm⟩
      rw [ht] at ks
      obtain ⟨c0, c1, c2, c3, c4, c5, c6, c7⟩ := L14.cells
      have f0 := Bw.cell HB14.out Hlc.out.1
      have f1 := Bw.cell HB14.out Hlc.out.2.1
      have f2 := Bw.cell HB14.out Hlc.out.2.2.1
      have f3 := Bw.cell HB14.out Hlc.out.2.2.2.1
      have f4 := Bw.cell HB14.out Hlc.out.2.2.2.2.1
      have f5 := Bw.cell HB14.out Hlc.out.2.2.2.2.2.1
      have f6 := Bw.cell HB14.out Hlc.out.2.2.2.2.2.2.1
      have f7 := Bw.cell HB14.out Hlc.out.2.2.2.2.2.2.2
      clear vs14 g14 B14 L14 HB13 ht h1 h2 h3 h4 h5 h6 h7 h8
      go_wp2_with (go_at_call 15; refine (lnum_ _ _).mono ?_; rintro e w' ⟨rfl, hw⟩; obtain rfl := hw.symm; clear hw)
      clear c0 c1 c2 c3 c4 c5 c6 c7 f0 f1 f2 f3 f4 f5 f6 f7
      refine ks.mono ?_
      rintro e t14 ⟨rfl, g14⟩
      have HC14 := hid (HB14.out.on g14)
      clear ks g14 HB14
      go_wp2_with (go_at_call 15; refine (lnum_ _ _).mono ?_; rintro e w' ⟨rfl, hw⟩; obtain rfl := hw.symm; clear hw)
      have HB14 := HC14
      clear HC14
      refine (kpB _).mono ?_
      rintro e u15 ⟨ra15, rc15, sa15, sc15, rfl, vk15, vv15, g15⟩
      have B15 := bel_al u15 (.cells #[.slice ra15 bl rc15, .slice sa15 cl sc15] 27)
      have M15 := heap_alloc_new u15 (.cells #[.slice ra15 bl rc15, .slice sa15 cl sc15] 27)
      have HB15 := hid ((HB14.out.on g15).on B15)
      have kg := getBoots_ ra15 sa15 bl rc15 cl sc15 BK BV _ (vk15.bs.below B15) (vv15.bs.below B15) vk15.nil vv15.nil vk15.nc vv15.nc (by have := Hbl.out; omega) (by have := Hcl.out; omega)
      rw [HG1.out, HG2.out] at kg
      have x0 := (two_cell M15).1
      have x1 := (two_cell M15).2
      clear vk15 vv15 g15 B15 M15 HB14
      go_wp2_with fail
      clear x0 x1
      refine kg.mono ?_
      rintro e u16 ⟨rfl, g16⟩
      have HB16 := hid (HB15.out.on g16)
      clear kg g16 HB15
      have y0 := Bw.cell HB16.out Hy.out.1
      have y1 := Bw.cell HB16.out Hy.out.2
      rcases HBo.out with ⟨hO, h1, h2⟩ | hO
      · rw [hO, h1, h2]
        go_wp2_with (go_at_call 15; refine (lnum_ _ _).mono ?_; rintro e w' ⟨rfl, hw⟩; obtain rfl := hw.symm; clear hw)
        clear y0 y1
        refine (kag _ HB16.out).mono ?_
        rintro e u17 ⟨rfl, g17⟩
        have HB17 := hid (HB16.out.on g17)
        clear g17
        go_wp2_with fail
        go_ret
        exact ⟨rfl, bel_bel HB0.out HB0.out.size HB17.out⟩
      · rw [hO]
        go_wp2_with (go_at_call 15; refine (lnum_ _ _).mono ?_; rintro e w' ⟨rfl, hw⟩; obtain rfl := hw.symm; clear hw)
        clear y0 y1
        refine (kag _ HB16.out).mono ?_
        rintro e u18 ⟨rfl, g18⟩
        have HB18 := hid (HB16.out.on g18)
        clear g18
        go_wp2_with fail
        go_ret
        exact ⟨rfl, bel_bel HB0.out HB0.out.size HB18.out⟩
    · rw [hO]
      clear vs14 g14 B14 L14 HB13
      go_wp2_with (go_at_call 15; refine (lnum_ _ _).mono ?_; rintro e w' ⟨rfl, hw⟩; obtain rfl := hw.symm; clear hw)
      refine (kpB _).mono ?_
      rintro e u19 ⟨ra19, rc19, sa19, sc19, rfl, vk19, vv19, g19⟩
      have B19 := bel_al u19 (.cells #[.slice ra19 bl rc19, .slice sa19 cl sc19] 27)
      have M19 := heap_alloc_new u19 (.cells #[.slice ra19 bl rc19, .slice sa19 cl sc19] 27)
      have HB19 := hid ((HB14.out.on g19).on B19)
      have kg := getBoots_ ra19 sa19 bl rc19 cl sc19 BK BV _ (vk19.bs.below B19) (vv19.bs.below B19) vk19.nil vv19.nil vk19.nc vv19.nc (by have := Hbl.out; omega) (by have := Hcl.out; omega)
      rw [HG1.out, HG2.out] at kg
      have x0 := (two_cell M19).1
      have x1 := (two_cell M19).2
      clear vk19 vv19 g19 B19 M19 HB14
      go_wp2_with fail
      clear x0 x1
      refine kg.mono ?_
      rintro e u20 ⟨rfl, g20⟩
      have HB20 := hid (HB19.out.on g20)
      clear kg g20 HB19
      have y0 := Bw.cell HB20.out Hy.out.1
      have y1 := Bw.cell HB20.out Hy.out.2
      rcases HBo.out with ⟨hO, h1, h2⟩ | hO
      · rw [hO, h1, h2]
        go_wp2_with (go_at_call 15; refine (lnum_ _ _).mono ?_; rintro e w' ⟨rfl, hw⟩; obtain rfl := hw.symm; clear hw)
        clear y0 y1
        refine (kag _ HB20.out).mono ?_
        rintro e u21 ⟨rfl, g21⟩
        have HB21 := hid (HB20.out.on g21)
        clear g21
        go_wp2_with fail
        go_ret
        exact ⟨rfl, bel_bel HB0.out HB0.out.size HB21.out⟩
      · rw [hO]
        go_wp2_with (go_at_call 15; refine (lnum_ _ _).mono ?_; rintro e w' ⟨rfl, hw⟩; obtain rfl := hw.symm; clear hw)
        clear y0 y1
        refine (kag _ HB20.out).mono ?_
        rintro e u22 ⟨rfl, g22⟩
        have HB22 := hid (HB20.out.on g22)
        clear g22
        go_wp2_with fail
        go_ret
        exact ⟨rfl, bel_bel HB0.out HB0.out.size HB22.out⟩
end Go.Proofs.Ytohfdkhlpghbcaa
