import Derived.Test.YthhakecimnnnfaaLI0
namespace Go.Proofs.Ythhakecimnnnfaa
set_option maxRecDepth 100000
open Go.RowKit
set_option linter.unusedVariables false

set_option maxHeartbeats 16000000 in
/-- LaneCalls. -/
theorem laneCalls_ (ll : LL) (a : Option Addr) (m c : Nat) (k : List Int) (S C N D E s n G B X Y T U : Int) (w : World) (hi : Li w a m k S C N D E s n) (hG : i64r G) (hB : i64r B) (hX : u64r X) (hY : u64r Y) (hT : i64r T) (hU : i64r U) :
    Calls Try.prog 7 #[.agg #[.slice a m c, .int .i64 S, .int .i64 C, .int .i64 N, .int .u64 D, .int .u64 E, .int .i64 s, .int .i64 n], .agg #[.int .i64 G, .int .i64 B, .int .u64 X, .int .u64 Y, .int .i64 T, .int .i64 U]] w fun e w' => e = .returned (.bool true) ∧ Below w.heap.size w w' := by
  have NB := bel_al' (w.alloc (.cells #[.slice a m c, .int .i64 S, .int .i64 C, .int .i64 N, .int .u64 D, .int .u64 E, .int .i64 s, .int .i64 n] 27)) (.cells #[.int .i64 G, .int .i64 B, .int .u64 X, .int .u64 Y, .int .i64 T, .int .i64 U] 38)
  have B2 := (lnew w a m c S C N D E s n).alloc (B := w.heap.size) (by simp) (.cells #[.int .i64 G, .int .i64 B, .int .u64 X, .int .u64 Y, .int .i64 T, .int .i64 U] 38)
  have m1 := (Lm.new w a m c S C N D E s n).kept NB
  have m2 := Nm.new (w.alloc (.cells #[.slice a m c, .int .i64 S, .int .i64 C, .int .i64 N, .int .u64 D, .int .u64 E, .int .i64 s, .int .i64 n] 27)) G B X Y T U
  rw [World.size_alloc] at m2
  obtain ⟨W, HW⟩ : ∃ y, Hid ((w.alloc (.cells #[.slice a m c, .int .i64 S, .int .i64 C, .int .i64 N, .int .u64 D, .int .u64 E, .int .i64 s, .int .i64 n] 27)).alloc (.cells #[.int .i64 G, .int .i64 B, .int .u64 X, .int .u64 Y, .int .i64 T, .int .i64 U] 38) = y) := ⟨_, rfl⟩
  obtain ⟨gg, Hg⟩ : ∃ y, Hid (w.heap.size = y) := ⟨_, rfl⟩
  rw [HW.out] at B2 m1 m2
  have HB2 := hid B2
  rw [Hg.out] at m1 m2
  have HM1 := hid m1
  have HM2 := hid m2
  have HI := hid hi
  have hkl : k.length = m := hi.k.1
  have hmm := hi.m
  clear B2 m1 m2 NB hi
  go_enter Try.func7, Try.ntmps7
  go_wp2_with fail
  rw [HW.out, Hg.out]
  clear HW
  refine (known_ ll W).mono ?_
  rintro e w1 ⟨rfl, g1⟩
  have HB1 : Hid (Bw W w1) := g1
  have HBX : Hid (Below w.heap.size w w1) := bel_bel HB2.out HB2.out.size HB1.out
  clear g1
  have n1 := HM1.out.kept HB1.out
  have HN1 := hid n1
  have j0 := n1.c0
  have j1 := n1.c1
  have j2 := n1.c2
  have j3 := n1.c3
  have j4 := n1.c4
  have j5 := n1.c5
  have j6 := n1.c6
  have j7 := n1.c7
  clear n1
  by_cases hl : m ≤ 4096
  case neg =>
    have hl2 : (4096 : Int) < m := by omega
    go_wp2_with fail
    go_ret
    exact ⟨rfl, HBX.out⟩
  have hl2 : ¬ (4096 : Int) < m := by omega
  have k1 := roomy_ a m c k S C N D E s n w1 (HI.out.k.below HBX.out) hl
  go_wp2_with fail
  refine k1.mono ?_
  rintro e y2 ⟨g, cap, rfl, r2, g2⟩
  have hgl : g < y2.heap.size := by
    rcases r2.bs.2.2 with h0 | ⟨b, off, e, hc⟩
    · omega
    · have h := World.block_lt_of_cell? y2 _ (hc 0 (by omega))
      simp at e
      rw [← e.1] at h
      exact h
  have NL := lnew y2 (some ⟨g, 0, none⟩) m cap S C N D E s n
  have HC0 : Hid (Ct w (y2.alloc (.cells #[.slice (some ⟨g, 0, none⟩) m cap, .int .i64 S, .int .i64 C, .int .i64 N, .int .u64 D, .int .u64 E, .int .i64 s, .int .i64 n] 27)) (y2.heap.size + 1) y2.heap.size gg g m cap a c k S C N D E s n G B X Y T U) :=
    ⟨Lm.new y2 (some ⟨g, 0, none⟩) m cap S C N D E s n, (HN1.out.kept g2).kept NL, ((HM2.out.kept HB1.out).kept g2).kept NL, r2.on NL, HI.out.k, bel_bel (bel_bel HBX.out HBX.out.size g2) (by have h1 := HBX.out.size; have h2 := g2.size; omega) NL, by omega, by have h1 := HM2.out.lt; have h2 := Below.size HB1.out; have h3 := g2.size; omega, by omega, by have h1 := HBX.out.size; have h2 := g2.size; omega⟩
  obtain ⟨w2, HW2⟩ : ∃ y, Hid (y2.alloc (.cells #[.slice (some ⟨g, 0, none⟩) m cap, .int .i64 S, .int .i64 C, .int .i64 N, .int .u64 D, .int .u64 E, .int .i64 s, .int .i64 n] 27) = y) := ⟨_, rfl⟩
  have HSL : Hid (y2.heap.size + 1 = w2.heap.size) := by show _ = _; rw [← HW2.out]; simp
  obtain ⟨L, HLL⟩ : ∃ y, Hid (y2.heap.size + 1 = y) := ⟨_, rfl⟩
  obtain ⟨pw, HPW⟩ : ∃ y, Hid (y2.heap.size = y) := ⟨_, rfl⟩
  rw [HW2.out] at HC0
  rw [HLL.out] at HC0 HSL
  rw [HPW.out] at HC0
  clear k1 r2 g2 NL j0 j1 j2 j3 j4 j5 j6 j7 HB1 HBX HN1 HM1 HM2 hgl
  go_upto_region 6 with fail
  rw [HW2.out, HPW.out]
  clear HW2 HPW HLL
  replace HSL : Hid (L ≤ w2.heap.size) := Nat.le_of_eq HSL.out
  have kx := ll.again (some ⟨g, 0, none⟩) m cap k S C N D E s n w2 (HC0.out.liw HI.out)
  obtain ⟨RA, hRA⟩ : ∃ R, agnL ⟨k, S, C, N, D, E, s, n⟩ = R := ⟨_, rfl⟩
  obtain ⟨zE, hzE⟩ : ∃ z, agnE ⟨k, S, C, N, D, E, s, n⟩ = z := ⟨_, rfl⟩
  rw [hRA, hzE] at kx
  have e0 := HC0.out.lw.c0
  have e1 := HC0.out.lw.c1
  have e2 := HC0.out.lw.c2
  have e3 := HC0.out.lw.c3
  have e4 := HC0.out.lw.c4
  have e5 := HC0.out.lw.c5
  have e6 := HC0.out.lw.c6
  have e7 := HC0.out.lw.c7
  go_wp2_with fail
  refine kx.mono ?_
  intro e yAl hy
  obtain ⟨kA, SA, CA, NA, DA, EA, sA, nA⟩ := RA
  obtain ⟨MA, hMA⟩ : ∃ M, kA.length = M := ⟨_, rfl⟩
  obtain ⟨aAl, cAl, rfl, vAl, gAl⟩ := hy.use rfl hMA
  have NL := lnew yAl aAl MA cAl SA CA NA DA EA sA nA
  have HLAl := hid (Lm.new yAl aAl MA cAl SA CA NA DA EA sA nA)
  have HVAl := hid (vAl.bs.below NL)
  have HMAl := hid (Nat.le_trans vAl.nc vAl.cm)
  have HGAl : Hid (Bw w2 (yAl.alloc (.cells #[.slice aAl MA cAl, .int .i64 SA, .int .i64 CA, .int .i64 NA, .int .u64 DA, .int .u64 EA, .int .i64 sA, .int .i64 nA] 27))) := Bw.on gAl NL
  have HC1 := hid ((HC0.out.on gAl).on NL)
  have HLEAl : Hid (L ≤ yAl.heap.size) := by have h1 := gAl.size; have h2 := HSL.out; show _ ≤ _; omega
  obtain ⟨wAl, HWAl⟩ : ∃ y, Hid (yAl.alloc (.cells #[.slice aAl MA cAl, .int .i64 SA, .int .i64 CA, .int .i64 NA, .int .u64 DA, .int .u64 EA, .int .i64 sA, .int .i64 nA] 27) = y) := ⟨_, rfl⟩
  obtain ⟨pAl, HPAl⟩ : ∃ y, Hid (yAl.heap.size = y) := ⟨_, rfl⟩
  have HSL2 : Hid (L ≤ wAl.heap.size) := by have h1 := HLEAl.out; show _ ≤ _; rw [← HWAl.out]; simp; omega
  rw [HWAl.out] at HLAl HVAl HGAl HC1
  rw [HPAl.out] at HLAl HLEAl
  clear kx hy vAl gAl NL e0 e1 e2 e3 e4 e5 e6 e7 HC0 HSL
  have HSL := HSL2
  clear HSL2
  go_upto_region 7 with fail
  rw [HWAl.out, HPAl.out]
  clear HWAl HPAl HGAl
  have kx := dlc.again a m c k S C N D E s n wAl (HC1.out.lil HI.out)
  rw [hRA, hzE] at kx
  have e0 := HC1.out.ll.c0
  have e1 := HC1.out.ll.c1
  have e2 := HC1.out.ll.c2
  have e3 := HC1.out.ll.c3
  have e4 := HC1.out.ll.c4
  have e5 := HC1.out.ll.c5
  have e6 := HC1.out.ll.c6
  have e7 := HC1.out.ll.c7
  go_wp2_with fail
  refine kx.mono ?_
  intro e yAd hy
  obtain ⟨aAd, cAd, rfl, vAd, gAd⟩ := hy.use rfl hMA
  have NL := lnew yAd aAd MA cAd SA CA NA DA EA sA nA
  have HLAd := hid (Lm.new yAd aAd MA cAd SA CA NA DA EA sA nA)
  have HVAd := hid (vAd.bs.below NL)
  have HMAd := hid (Nat.le_trans vAd.nc vAd.cm)
  have HGAd : Hid (Bw wAl (yAd.alloc (.cells #[.slice aAd MA cAd, .int .i64 SA, .int .i64 CA, .int .i64 NA, .int .u64 DA, .int .u64 EA, .int .i64 sA, .int .i64 nA] 27))) := Bw.on gAd NL
  have HC2 := hid ((HC1.out.on gAd).on NL)
  have HLEAd : Hid (L ≤ yAd.heap.size) := by have h1 := gAd.size; have h2 := HSL.out; show _ ≤ _; omega
  obtain ⟨wAd, HWAd⟩ : ∃ y, Hid (yAd.alloc (.cells #[.slice aAd MA cAd, .int .i64 SA, .int .i64 CA, .int .i64 NA, .int .u64 DA, .int .u64 EA, .int .i64 sA, .int .i64 nA] 27) = y) := ⟨_, rfl⟩
  obtain ⟨pAd, HPAd⟩ : ∃ y, Hid (yAd.heap.size = y) := ⟨_, rfl⟩
  have HSL2 : Hid (L ≤ wAd.heap.size) := by have h1 := HLEAd.out; show _ ≤ _; rw [← HWAd.out]; simp; omega
  rw [HWAd.out] at HLAd HVAd HGAd HC2
  rw [HPAd.out] at HLAd HLEAd
  have HPX : Hid (pAl < pAd) := by have h1 := HLAl.out.lt; have h2 := gAd.size; have h3 := HPAd.out; show _ < _; omega
  replace HLAl := hid (HLAl.out.kept HGAd.out)
  replace HVAl := hid (HVAl.out.below HGAd.out)
  clear kx hy vAd gAd NL e0 e1 e2 e3 e4 e5 e6 e7 HC1 HSL
  have HSL := HSL2
  clear HSL2
  go_upto_region 8 with fail
  rw [HWAd.out, HPAd.out]
  clear HWAd HPAd HGAd
  have kx := same17 aAl aAd MA cAl cAd kA SA CA NA DA EA sA nA wAd HVAl.out HVAd.out HMAl.out
  have e0 := HLAl.out.c0
  have e1 := HLAl.out.c1
  have e2 := HLAl.out.c2
  have e3 := HLAl.out.c3
  have e4 := HLAl.out.c4
  have e5 := HLAl.out.c5
  have e6 := HLAl.out.c6
  have e7 := HLAl.out.c7
  have f0 := HLAd.out.c0
  have f1 := HLAd.out.c1
  have f2 := HLAd.out.c2
  have f3 := HLAd.out.c3
  have f4 := HLAd.out.c4
  have f5 := HLAd.out.c5
  have f6 := HLAd.out.c6
  have f7 := HLAd.out.c7
  go_wp2_with fail
  refine kx.mono ?_
  rintro e uA ⟨rfl, gx⟩
  have HC3 := hid (HC2.out.on gx)
  have HSL2 : Hid (L ≤ uA.heap.size) := by have h1 := gx.size; have h2 := HSL.out; show _ ≤ _; omega
  replace HLAl := hid (HLAl.out.kept gx)
  replace HLAd := hid (HLAd.out.kept gx)
  clear kx gx e0 e1 e2 e3 e4 e5 e6 e7 f0 f1 f2 f3 f4 f5 f6 f7 HC2 HSL
  have HSL := HSL2
  clear HSL2
  have HPN : Hid (pAl ≠ pAd) := by
    have h1 := HPX.out
    show _ ≠ _
    omega
  have hzE : (zE != zE) = false := by simp
  have kx := ll.propose (some ⟨g, 0, none⟩) m cap k S C N D E s n uA (HC3.out.liw HI.out)
  obtain ⟨RP, hRP⟩ : ∃ R, prpL ⟨k, S, C, N, D, E, s, n⟩ = R := ⟨_, rfl⟩
  obtain ⟨zG, hzG⟩ : ∃ z, prpG ⟨k, S, C, N, D, E, s, n⟩ = z := ⟨_, rfl⟩
  obtain ⟨zE2, hzE2⟩ : ∃ z, agnE ⟨k, S, C, N, D, E, s, n⟩ = z := ⟨_, rfl⟩
  rw [hRP, hzG, hzE2] at kx
  have e0 := HC3.out.lw.c0
  have e1 := HC3.out.lw.c1
  have e2 := HC3.out.lw.c2
  have e3 := HC3.out.lw.c3
  have e4 := HC3.out.lw.c4
  have e5 := HC3.out.lw.c5
  have e6 := HC3.out.lw.c6
  have e7 := HC3.out.lw.c7
  go_wp2_with fail
  refine kx.mono ?_
  intro e yPl hy
  obtain ⟨kP, SP, CP, NP, DP, EP, sP, nP⟩ := RP
  obtain ⟨MP, hMP⟩ : ∃ M, kP.length = M := ⟨_, rfl⟩
  obtain ⟨aPl, cPl, rfl, vPl, gPl⟩ := hy.use rfl hMP
  have NL := lnew yPl aPl MP cPl SP CP NP DP EP sP nP
  have HLPl := hid (Lm.new yPl aPl MP cPl SP CP NP DP EP sP nP)
  have HVPl := hid (vPl.bs.below NL)
  have HMPl := hid (Nat.le_trans vPl.nc vPl.cm)
  have HGPl : Hid (Bw uA (yPl.alloc (.cells #[.slice aPl MP cPl, .int .i64 SP, .int .i64 CP, .int .i64 NP, .int .u64 DP, .int .u64 EP, .int .i64 sP, .int .i64 nP] 27))) := Bw.on gPl NL
  have HC4 := hid ((HC3.out.on gPl).on NL)
  have HLEPl : Hid (L ≤ yPl.heap.size) := by have h1 := gPl.size; have h2 := HSL.out; show _ ≤ _; omega
  obtain ⟨wPl, HWPl⟩ : ∃ y, Hid (yPl.alloc (.cells #[.slice aPl MP cPl, .int .i64 SP, .int .i64 CP, .int .i64 NP, .int .u64 DP, .int .u64 EP, .int .i64 sP, .int .i64 nP] 27) = y) := ⟨_, rfl⟩
  obtain ⟨pPl, HPPl⟩ : ∃ y, Hid (yPl.heap.size = y) := ⟨_, rfl⟩
  have HSL2 : Hid (L ≤ wPl.heap.size) := by have h1 := HLEPl.out; show _ ≤ _; rw [← HWPl.out]; simp; omega
  rw [HWPl.out] at HLPl HVPl HGPl HC4
  rw [HPPl.out] at HLPl HLEPl
  replace HLAl := hid (HLAl.out.kept HGPl.out)
  replace HLAd := hid (HLAd.out.kept HGPl.out)
  clear kx hy vPl gPl NL e0 e1 e2 e3 e4 e5 e6 e7 HC3 HSL
  have HSL := HSL2
  clear HSL2
  go_upto_region 10 with fail
  rw [HWPl.out, HPPl.out]
  clear HWPl HPPl HGPl
  have kx := dlc.propose a m c k S C N D E s n wPl (HC4.out.lil HI.out)
  rw [hRP, hzG, hzE2] at kx
  have e0 := HC4.out.ll.c0
  have e1 := HC4.out.ll.c1
  have e2 := HC4.out.ll.c2
  have e3 := HC4.out.ll.c3
  have e4 := HC4.out.ll.c4
  have e5 := HC4.out.ll.c5
  have e6 := HC4.out.ll.c6
  have e7 := HC4.out.ll.c7
  go_wp2_with fail
  refine kx.mono ?_
  intro e yPd hy
  obtain ⟨aPd, cPd, rfl, vPd, gPd⟩ := hy.use rfl hMP
  have NL := lnew yPd aPd MP cPd SP CP NP DP EP sP nP
  have HLPd := hid (Lm.new yPd aPd MP cPd SP CP NP DP EP sP nP)
  have HVPd := hid (vPd.bs.below NL)
  have HMPd := hid (Nat.le_trans vPd.nc vPd.cm)
  have HGPd : Hid (Bw wPl (yPd.alloc (.cells #[.slice aPd MP cPd, .int .i64 SP, .int .i64 CP, .int .i64 NP, .int .u64 DP, .int .u64 EP, .int .i64 sP, .int .i64 nP] 27))) := Bw.on gPd NL
  have HC5 := hid ((HC4.out.on gPd).on NL)
  have HLEPd : Hid (L ≤ yPd.heap.size) := by have h1 := gPd.size; have h2 := HSL.out; show _ ≤ _; omega
  obtain ⟨wPd, HWPd⟩ : ∃ y, Hid (yPd.alloc (.cells #[.slice aPd MP cPd, .int .i64 SP, .int .i64 CP, .int .i64 NP, .int .u64 DP, .int .u64 EP, .int .i64 sP, .int .i64 nP] 27) = y) := ⟨_, rfl⟩
  obtain ⟨pPd, HPPd⟩ : ∃ y, Hid (yPd.heap.size = y) := ⟨_, rfl⟩
  have HSL2 : Hid (L ≤ wPd.heap.size) := by have h1 := HLEPd.out; show _ ≤ _; rw [← HWPd.out]; simp; omega
  rw [HWPd.out] at HLPd HVPd HGPd HC5
  rw [HPPd.out] at HLPd HLEPd
  replace HLPl := hid (HLPl.out.kept HGPd.out)
  replace HVPl := hid (HVPl.out.below HGPd.out)
  replace HLAl := hid (HLAl.out.kept HGPd.out)
  replace HLAd := hid (HLAd.out.kept HGPd.out)
  clear kx hy vPd gPd NL e0 e1 e2 e3 e4 e5 e6 e7 HC4 HSL
  have HSL := HSL2
  clear HSL2
  go_upto_region 11 with fail
  rw [HWPd.out, HPPd.out]
  clear HWPd HPPd HGPd
  have kx := same17 aPl aPd MP cPl cPd kP SP CP NP DP EP sP nP wPd HVPl.out HVPd.out HMPl.out
  have e0 := HLPl.out.c0
  have e1 := HLPl.out.c1
  have e2 := HLPl.out.c2
  have e3 := HLPl.out.c3
  have e4 := HLPl.out.c4
  have e5 := HLPl.out.c5
  have e6 := HLPl.out.c6
  have e7 := HLPl.out.c7
  have f0 := HLPd.out.c0
  have f1 := HLPd.out.c1
  have f2 := HLPd.out.c2
  have f3 := HLPd.out.c3
  have f4 := HLPd.out.c4
  have f5 := HLPd.out.c5
  have f6 := HLPd.out.c6
  have f7 := HLPd.out.c7
  go_wp2_with fail
  refine kx.mono ?_
  rintro e uP ⟨rfl, gx⟩
  have HC6 := hid (HC5.out.on gx)
  have HSL2 : Hid (L ≤ uP.heap.size) := by have h1 := gx.size; have h2 := HSL.out; show _ ≤ _; omega
  replace HLAl := hid (HLAl.out.kept gx)
  replace HLAd := hid (HLAd.out.kept gx)
  clear kx gx e0 e1 e2 e3 e4 e5 e6 e7 f0 f1 f2 f3 f4 f5 f6 f7 HC5 HSL
  have HSL := HSL2
  clear HSL2
  have hzE2 : (zE2 != zE2) = false := by simp
  have hzG : (zG != zG) = false := by simp
  have kn := fun x wx => num17_ x wx
  have HLtAl := hid HLAl.out.lt
  have HLtAd := hid HLAd.out.lt
  go_upto_region 14 with (first | (go_at_call 23; refine (kn _ _).mono ?_; rintro en wn ⟨rfl, hwn⟩; rw [hwn]; clear hwn) | fail)
  have kx := ll.reserve (some ⟨g, 0, none⟩) m cap k S C N D E s n Y B uP (HC6.out.liw HI.out) hY hB
  obtain ⟨RV, hRV⟩ : ∃ R, resL ⟨k, S, C, N, D, E, s, n⟩ Y B = R := ⟨_, rfl⟩
  rw [hRV] at kx
  have e0 := HC6.out.lw.c0
  have e1 := HC6.out.lw.c1
  have e2 := HC6.out.lw.c2
  have e3 := HC6.out.lw.c3
  have e4 := HC6.out.lw.c4
  have e5 := HC6.out.lw.c5
  have e6 := HC6.out.lw.c6
  have e7 := HC6.out.lw.c7
  have q0 := HC6.out.nn.c0
  have q1 := HC6.out.nn.c1
  have q2 := HC6.out.nn.c2
  have q3 := HC6.out.nn.c3
  have q4 := HC6.out.nn.c4
  have q5 := HC6.out.nn.c5
  go_wp2_with fail
  refine kx.mono ?_
  intro e yVl hy
  obtain ⟨kV, SV, CV, NV, DV, EV, sV, nV⟩ := RV
  obtain ⟨MV, hMV⟩ : ∃ M, kV.length = M := ⟨_, rfl⟩
  obtain ⟨aVl, cVl, rfl, vVl, gVl⟩ := hy.use rfl hMV
  replace HLAl := hid (HLAl.out.kept gVl)
  replace HLAd := hid (HLAd.out.kept gVl)
  have HLX := hid HLAl.out
  have HZL := hid (HLAl.out.row aVl MV cVl SV CV NV DV EV sV nV)
  have HZO : Hid (Lm (yVl.setRow pAl #[.slice aVl MV cVl, .int .i64 SV, .int .i64 CV, .int .i64 NV, .int .u64 DV, .int .u64 EV, .int .i64 sV, .int .i64 nV]) pAd aAd MA cAd SA CA NA DA EA sA nA) := HLAd.out.at (setRow_other _ _ _ _ (by have h1 := HPN.out; omega))
  have HZV : Hid (Bs (yVl.setRow pAl #[.slice aVl MV cVl, .int .i64 SV, .int .i64 CV, .int .i64 NV, .int .u64 DV, .int .u64 EV, .int .i64 sV, .int .i64 nV]) aVl MV kV) := (vVl.step fun x _ hx _ => setRow_other _ _ _ _ (by have h1 := HLtAl.out; omega)).bs
  have HMVl := hid (Nat.le_trans vVl.nc vVl.cm)
  have HC7 := hid ((HC6.out.on gVl).row HLEAl.out #[.slice aVl MV cVl, .int .i64 SV, .int .i64 CV, .int .i64 NV, .int .u64 DV, .int .u64 EV, .int .i64 sV, .int .i64 nV])
  have HSL2 : Hid (L ≤ (yVl.setRow pAl #[.slice aVl MV cVl, .int .i64 SV, .int .i64 CV, .int .i64 NV, .int .u64 DV, .int .u64 EV, .int .i64 sV, .int .i64 nV]).heap.size) := by have h1 := gVl.size; have h2 := HSL.out; show _ ≤ _; simp [World.setRow]; omega
  have HLt2 : Hid (pAl < (yVl.setRow pAl #[.slice aVl MV cVl, .int .i64 SV, .int .i64 CV, .int .i64 NV, .int .u64 DV, .int .u64 EV, .int .i64 sV, .int .i64 nV]).heap.size ∧ pAd < (yVl.setRow pAl #[.slice aVl MV cVl, .int .i64 SV, .int .i64 CV, .int .i64 NV, .int .u64 DV, .int .u64 EV, .int .i64 sV, .int .i64 nV]).heap.size) := by have h1 := gVl.size; have h2 := HLtAl.out; have h3 := HLtAd.out; show _ ∧ _; simp [World.setRow]; omega
  have HNEV : Hid (∀ ad, aVl = some ad → 0 < MV → ad.block ≠ pAd) := fun ad e hn => by have h1 := vVl.lies ad e hn; have h2 := HLtAd.out; omega
  obtain ⟨wVl, HWVl⟩ : ∃ y, Hid (yVl.setRow pAl #[.slice aVl MV cVl, .int .i64 SV, .int .i64 CV, .int .i64 NV, .int .u64 DV, .int .u64 EV, .int .i64 sV, .int .i64 nV] = y) := ⟨_, rfl⟩
  rw [HWVl.out] at HZL HZO HZV HC7 HSL2 HLt2
  clear kx hy vVl gVl e0 e1 e2 e3 e4 e5 e6 e7 q0 q1 q2 q3 q4 q5 HC6 HSL HLAl HLAd
  have HSL := HSL2
  have HLAl := HZL
  have HLAd := HZO
  have HVVl := HZV
  have HLtAl := hid HLt2.out.1
  have HLtAd := hid HLt2.out.2
  clear HSL2 HZL HZO HZV HLt2
  go_upto_region 15 with (refine wpList_sln rfl rfl _ _ rfl pAl aVl MV cVl SV CV NV DV EV sV nV rfl rfl (by with_reducible exact HLX.out) ?_)
  rw [HWVl.out]
  clear HWVl HLX
  have kx := dlc.reserve a m c k S C N D E s n Y B wVl (HC7.out.lil HI.out) hY hB
  rw [hRV] at kx
  have e0 := HC7.out.ll.c0
  have e1 := HC7.out.ll.c1
  have e2 := HC7.out.ll.c2
  have e3 := HC7.out.ll.c3
  have e4 := HC7.out.ll.c4
  have e5 := HC7.out.ll.c5
  have e6 := HC7.out.ll.c6
  have e7 := HC7.out.ll.c7
  have q0 := HC7.out.nn.c0
  have q1 := HC7.out.nn.c1
  have q2 := HC7.out.nn.c2
  have q3 := HC7.out.nn.c3
  have q4 := HC7.out.nn.c4
  have q5 := HC7.out.nn.c5
  go_wp2_with fail
  refine kx.mono ?_
  intro e yVd hy
  obtain ⟨aVd, cVd, rfl, vVd, gVd⟩ := hy.use rfl hMV
  replace HLAl := hid (HLAl.out.kept gVd)
  replace HLAd := hid (HLAd.out.kept gVd)
  have HLX := hid HLAd.out
  have HZL := hid (HLAd.out.row aVd MV cVd SV CV NV DV EV sV nV)
  have HZO : Hid (Lm (yVd.setRow pAd #[.slice aVd MV cVd, .int .i64 SV, .int .i64 CV, .int .i64 NV, .int .u64 DV, .int .u64 EV, .int .i64 sV, .int .i64 nV]) pAl aVl MV cVl SV CV NV DV EV sV nV) := HLAl.out.at (setRow_other _ _ _ _ (by have h1 := HPN.out; omega))
  have HZV : Hid (Bs (yVd.setRow pAd #[.slice aVd MV cVd, .int .i64 SV, .int .i64 CV, .int .i64 NV, .int .u64 DV, .int .u64 EV, .int .i64 sV, .int .i64 nV]) aVd MV kV) := (vVd.step fun x _ hx _ => setRow_other _ _ _ _ (by have h1 := HLtAd.out; omega)).bs
  have HMVd := hid (Nat.le_trans vVd.nc vVd.cm)
  have HC8 := hid ((HC7.out.on gVd).row HLEAd.out #[.slice aVd MV cVd, .int .i64 SV, .int .i64 CV, .int .i64 NV, .int .u64 DV, .int .u64 EV, .int .i64 sV, .int .i64 nV])
  have HSL2 : Hid (L ≤ (yVd.setRow pAd #[.slice aVd MV cVd, .int .i64 SV, .int .i64 CV, .int .i64 NV, .int .u64 DV, .int .u64 EV, .int .i64 sV, .int .i64 nV]).heap.size) := by have h1 := gVd.size; have h2 := HSL.out; show _ ≤ _; simp [World.setRow]; omega
  have HLt2 : Hid (pAl < (yVd.setRow pAd #[.slice aVd MV cVd, .int .i64 SV, .int .i64 CV, .int .i64 NV, .int .u64 DV, .int .u64 EV, .int .i64 sV, .int .i64 nV]).heap.size ∧ pAd < (yVd.setRow pAd #[.slice aVd MV cVd, .int .i64 SV, .int .i64 CV, .int .i64 NV, .int .u64 DV, .int .u64 EV, .int .i64 sV, .int .i64 nV]).heap.size) := by have h1 := gVd.size; have h2 := HLtAl.out; have h3 := HLtAd.out; show _ ∧ _; simp [World.setRow]; omega
  have HVX2 : Hid (Bs (yVd.setRow pAd #[.slice aVd MV cVd, .int .i64 SV, .int .i64 CV, .int .i64 NV, .int .u64 DV, .int .u64 EV, .int .i64 sV, .int .i64 nV]) aVl MV kV) := (HVVl.out.below gVd).same_block fun ad e hn => setRow_other _ _ _ _ (HNEV.out ad e hn)
  obtain ⟨wVd, HWVd⟩ : ∃ y, Hid (yVd.setRow pAd #[.slice aVd MV cVd, .int .i64 SV, .int .i64 CV, .int .i64 NV, .int .u64 DV, .int .u64 EV, .int .i64 sV, .int .i64 nV] = y) := ⟨_, rfl⟩
  rw [HWVd.out] at HZL HZO HZV HC8 HSL2 HLt2 HVX2
  clear kx hy vVd gVd e0 e1 e2 e3 e4 e5 e6 e7 q0 q1 q2 q3 q4 q5 HC7 HSL HLAd HLAl
  have HSL := HSL2
  have HLAd := HZL
  have HLAl := HZO
  have HVVd := HZV
  have HLtAl := hid HLt2.out.1
  have HLtAd := hid HLt2.out.2
  clear HSL2 HZL HZO HZV HLt2
  clear HVVl
  have HVVl := HVX2
  clear HVX2
  go_upto_region 16 with (refine wpList_sln rfl rfl _ _ rfl pAd aVd MV cVd SV CV NV DV EV sV nV rfl rfl (by with_reducible exact HLX.out) ?_)
  rw [HWVd.out]
  clear HWVd HLX
  have kx := same17 aVl aVd MV cVl cVd kV SV CV NV DV EV sV nV wVd HVVl.out HVVd.out HMVl.out
  have e0 := HLAl.out.c0
  have e1 := HLAl.out.c1
  have e2 := HLAl.out.c2
  have e3 := HLAl.out.c3
  have e4 := HLAl.out.c4
  have e5 := HLAl.out.c5
  have e6 := HLAl.out.c6
  have e7 := HLAl.out.c7
  have f0 := HLAd.out.c0
  have f1 := HLAd.out.c1
  have f2 := HLAd.out.c2
  have f3 := HLAd.out.c3
  have f4 := HLAd.out.c4
  have f5 := HLAd.out.c5
  have f6 := HLAd.out.c6
  have f7 := HLAd.out.c7
  go_wp2_with fail
  refine kx.mono ?_
  rintro e uV ⟨rfl, gx⟩
  have HC9 := hid (HC8.out.on gx)
  have HSL2 : Hid (L ≤ uV.heap.size) := by have h1 := gx.size; have h2 := HSL.out; show _ ≤ _; omega
  replace HLAl := hid (HLAl.out.kept gx)
  replace HLAd := hid (HLAd.out.kept gx)
  replace HLtAl := hid (Nat.lt_of_lt_of_le HLtAl.out gx.size)
  replace HLtAd := hid (Nat.lt_of_lt_of_le HLtAd.out gx.size)
  clear kx gx e0 e1 e2 e3 e4 e5 e6 e7 f0 f1 f2 f3 f4 f5 f6 f7 HC8 HSL
  have HSL := HSL2
  clear HSL2
  have kx := ll.opened (some ⟨g, 0, none⟩) m cap k S C N D E s n G X B uV (HC9.out.liw HI.out) hG hX hB
  obtain ⟨RO, hRO⟩ : ∃ R, opnL ⟨k, S, C, N, D, E, s, n⟩ G X B = R := ⟨_, rfl⟩
  rw [hRO] at kx
  have e0 := HC9.out.lw.c0
  have e1 := HC9.out.lw.c1
  have e2 := HC9.out.lw.c2
  have e3 := HC9.out.lw.c3
  have e4 := HC9.out.lw.c4
  have e5 := HC9.out.lw.c5
  have e6 := HC9.out.lw.c6
  have e7 := HC9.out.lw.c7
  have q0 := HC9.out.nn.c0
  have q1 := HC9.out.nn.c1
  have q2 := HC9.out.nn.c2
  have q3 := HC9.out.nn.c3
  have q4 := HC9.out.nn.c4
  have q5 := HC9.out.nn.c5
  go_wp2_with fail
  refine kx.mono ?_
  intro e yOl hy
  obtain ⟨kO, SO, CO, NO, DO, EO, sO, nO⟩ := RO
  obtain ⟨MO, hMO⟩ : ∃ M, kO.length = M := ⟨_, rfl⟩
  obtain ⟨aOl, cOl, rfl, vOl, gOl⟩ := hy.use rfl hMO
  replace HLAl := hid (HLAl.out.kept gOl)
  replace HLAd := hid (HLAd.out.kept gOl)
  have HLX := hid HLAl.out
  have HZL := hid (HLAl.out.row aOl MO cOl SO CO NO DO EO sO nO)
  have HZO : Hid (Lm (yOl.setRow pAl #[.slice aOl MO cOl, .int .i64 SO, .int .i64 CO, .int .i64 NO, .int .u64 DO, .int .u64 EO, .int .i64 sO, .int .i64 nO]) pAd aVd MV cVd SV CV NV DV EV sV nV) := HLAd.out.at (setRow_other _ _ _ _ (by have h1 := HPN.out; omega))
  have HZV : Hid (Bs (yOl.setRow pAl #[.slice aOl MO cOl, .int .i64 SO, .int .i64 CO, .int .i64 NO, .int .u64 DO, .int .u64 EO, .int .i64 sO, .int .i64 nO]) aOl MO kO) := (vOl.step fun x _ hx _ => setRow_other _ _ _ _ (by have h1 := HLtAl.out; omega)).bs
  have HMOl := hid (Nat.le_trans vOl.nc vOl.cm)
  have HC10 := hid ((HC9.out.on gOl).row HLEAl.out #[.slice aOl MO cOl, .int .i64 SO, .int .i64 CO, .int .i64 NO, .int .u64 DO, .int .u64 EO, .int .i64 sO, .int .i64 nO])
  have HSL2 : Hid (L ≤ (yOl.setRow pAl #[.slice aOl MO cOl, .int .i64 SO, .int .i64 CO, .int .i64 NO, .int .u64 DO, .int .u64 EO, .int .i64 sO, .int .i64 nO]).heap.size) := by have h1 := gOl.size; have h2 := HSL.out; show _ ≤ _; simp [World.setRow]; omega
  have HLt2 : Hid (pAl < (yOl.setRow pAl #[.slice aOl MO cOl, .int .i64 SO, .int .i64 CO, .int .i64 NO, .int .u64 DO, .int .u64 EO, .int .i64 sO, .int .i64 nO]).heap.size ∧ pAd < (yOl.setRow pAl #[.slice aOl MO cOl, .int .i64 SO, .int .i64 CO, .int .i64 NO, .int .u64 DO, .int .u64 EO, .int .i64 sO, .int .i64 nO]).heap.size) := by have h1 := gOl.size; have h2 := HLtAl.out; have h3 := HLtAd.out; show _ ∧ _; simp [World.setRow]; omega
  have HNEO : Hid (∀ ad, aOl = some ad → 0 < MO → ad.block ≠ pAd) := fun ad e hn => by have h1 := vOl.lies ad e hn; have h2 := HLtAd.out; omega
  obtain ⟨wOl, HWOl⟩ : ∃ y, Hid (yOl.setRow pAl #[.slice aOl MO cOl, .int .i64 SO, .int .i64 CO, .int .i64 NO, .int .u64 DO, .int .u64 EO, .int .i64 sO, .int .i64 nO] = y) := ⟨_, rfl⟩
  rw [HWOl.out] at HZL HZO HZV HC10 HSL2 HLt2
  clear kx hy vOl gOl e0 e1 e2 e3 e4 e5 e6 e7 q0 q1 q2 q3 q4 q5 HC9 HSL HLAl HLAd
  have HSL := HSL2
  have HLAl := HZL
  have HLAd := HZO
  have HVOl := HZV
  have HLtAl := hid HLt2.out.1
  have HLtAd := hid HLt2.out.2
  clear HSL2 HZL HZO HZV HLt2
  go_upto_region 18 with (refine wpList_sln rfl rfl _ _ rfl pAl aOl MO cOl SO CO NO DO EO sO nO rfl rfl (by with_reducible exact HLX.out) ?_)
  rw [HWOl.out]
  clear HWOl HLX
  have kx := dlc.opened a m c k S C N D E s n G X B wOl (HC10.out.lil HI.out) hG hX hB
  rw [hRO] at kx
  have e0 := HC10.out.ll.c0
  have e1 := HC10.out.ll.c1
  have e2 := HC10.out.ll.c2
  have e3 := HC10.out.ll.c3
  have e4 := HC10.out.ll.c4
  have e5 := HC10.out.ll.c5
  have e6 := HC10.out.ll.c6
  have e7 := HC10.out.ll.c7
  have q0 := HC10.out.nn.c0
  have q1 := HC10.out.nn.c1
  have q2 := HC10.out.nn.c2
  have q3 := HC10.out.nn.c3
  have q4 := HC10.out.nn.c4
  have q5 := HC10.out.nn.c5
  go_wp2_with fail
  refine kx.mono ?_
  intro e yOd hy
  obtain ⟨aOd, cOd, rfl, vOd, gOd⟩ := hy.use rfl hMO
  replace HLAl := hid (HLAl.out.kept gOd)
  replace HLAd := hid (HLAd.out.kept gOd)
  have HLX := hid HLAd.out
  have HZL := hid (HLAd.out.row aOd MO cOd SO CO NO DO EO sO nO)
  have HZO : Hid (Lm (yOd.setRow pAd #[.slice aOd MO cOd, .int .i64 SO, .int .i64 CO, .int .i64 NO, .int .u64 DO, .int .u64 EO, .int .i64 sO, .int .i64 nO]) pAl aOl MO cOl SO CO NO DO EO sO nO) := HLAl.out.at (setRow_other _ _ _ _ (by have h1 := HPN.out; omega))
  have HZV : Hid (Bs (yOd.setRow pAd #[.slice aOd MO cOd, .int .i64 SO, .int .i64 CO, .int .i64 NO, .int .u64 DO, .int .u64 EO, .int .i64 sO, .int .i64 nO]) aOd MO kO) := (vOd.step fun x _ hx _ => setRow_other _ _ _ _ (by have h1 := HLtAd.out; omega)).bs
  have HMOd := hid (Nat.le_trans vOd.nc vOd.cm)
  have HC11 := hid ((HC10.out.on gOd).row HLEAd.out #[.slice aOd MO cOd, .int .i64 SO, .int .i64 CO, .int .i64 NO, .int .u64 DO, .int .u64 EO, .int .i64 sO, .int .i64 nO])
  have HSL2 : Hid (L ≤ (yOd.setRow pAd #[.slice aOd MO cOd, .int .i64 SO, .int .i64 CO, .int .i64 NO, .int .u64 DO, .int .u64 EO, .int .i64 sO, .int .i64 nO]).heap.size) := by have h1 := gOd.size; have h2 := HSL.out; show _ ≤ _; simp [World.setRow]; omega
  have HLt2 : Hid (pAl < (yOd.setRow pAd #[.slice aOd MO cOd, .int .i64 SO, .int .i64 CO, .int .i64 NO, .int .u64 DO, .int .u64 EO, .int .i64 sO, .int .i64 nO]).heap.size ∧ pAd < (yOd.setRow pAd #[.slice aOd MO cOd, .int .i64 SO, .int .i64 CO, .int .i64 NO, .int .u64 DO, .int .u64 EO, .int .i64 sO, .int .i64 nO]).heap.size) := by have h1 := gOd.size; have h2 := HLtAl.out; have h3 := HLtAd.out; show _ ∧ _; simp [World.setRow]; omega
  have HVX2 : Hid (Bs (yOd.setRow pAd #[.slice aOd MO cOd, .int .i64 SO, .int .i64 CO, .int .i64 NO, .int .u64 DO, .int .u64 EO, .int .i64 sO, .int .i64 nO]) aOl MO kO) := (HVOl.out.below gOd).same_block fun ad e hn => setRow_other _ _ _ _ (HNEO.out ad e hn)
  obtain ⟨wOd, HWOd⟩ : ∃ y, Hid (yOd.setRow pAd #[.slice aOd MO cOd, .int .i64 SO, .int .i64 CO, .int .i64 NO, .int .u64 DO, .int .u64 EO, .int .i64 sO, .int .i64 nO] = y) := ⟨_, rfl⟩
  rw [HWOd.out] at HZL HZO HZV HC11 HSL2 HLt2 HVX2
  clear kx hy vOd gOd e0 e1 e2 e3 e4 e5 e6 e7 q0 q1 q2 q3 q4 q5 HC10 HSL HLAd HLAl
  have HSL := HSL2
  have HLAd := HZL
  have HLAl := HZO
  have HVOd := HZV
  have HLtAl := hid HLt2.out.1
  have HLtAd := hid HLt2.out.2
  clear HSL2 HZL HZO HZV HLt2
  clear HVOl
  have HVOl := HVX2
  clear HVX2
  go_upto_region 19 with (refine wpList_sln rfl rfl _ _ rfl pAd aOd MO cOd SO CO NO DO EO sO nO rfl rfl (by with_reducible exact HLX.out) ?_)
  rw [HWOd.out]
  clear HWOd HLX
  have kx := same17 aOl aOd MO cOl cOd kO SO CO NO DO EO sO nO wOd HVOl.out HVOd.out HMOl.out
  have e0 := HLAl.out.c0
  have e1 := HLAl.out.c1
  have e2 := HLAl.out.c2
  have e3 := HLAl.out.c3
  have e4 := HLAl.out.c4
  have e5 := HLAl.out.c5
  have e6 := HLAl.out.c6
  have e7 := HLAl.out.c7
  have f0 := HLAd.out.c0
  have f1 := HLAd.out.c1
  have f2 := HLAd.out.c2
  have f3 := HLAd.out.c3
  have f4 := HLAd.out.c4
  have f5 := HLAd.out.c5
  have f6 := HLAd.out.c6
  have f7 := HLAd.out.c7
  go_wp2_with fail
  refine kx.mono ?_
  rintro e uO ⟨rfl, gx⟩
  have HC12 := hid (HC11.out.on gx)
  have HSL2 : Hid (L ≤ uO.heap.size) := by have h1 := gx.size; have h2 := HSL.out; show _ ≤ _; omega
  replace HLAl := hid (HLAl.out.kept gx)
  replace HLAd := hid (HLAd.out.kept gx)
  replace HLtAl := hid (Nat.lt_of_lt_of_le HLtAl.out gx.size)
  replace HLtAd := hid (Nat.lt_of_lt_of_le HLtAd.out gx.size)
  clear kx gx e0 e1 e2 e3 e4 e5 e6 e7 f0 f1 f2 f3 f4 f5 f6 f7 HC11 HSL
  have HSL := HSL2
  clear HSL2
  have kx := ll.raise (some ⟨g, 0, none⟩) m cap k S C N D E s n X B uO (HC12.out.liw HI.out) hX hB
  obtain ⟨RI, hRI⟩ : ∃ R, rseL ⟨k, S, C, N, D, E, s, n⟩ X B = R := ⟨_, rfl⟩
  rw [hRI] at kx
  have e0 := HC12.out.lw.c0
  have e1 := HC12.out.lw.c1
  have e2 := HC12.out.lw.c2
  have e3 := HC12.out.lw.c3
  have e4 := HC12.out.lw.c4
  have e5 := HC12.out.lw.c5
  have e6 := HC12.out.lw.c6
  have e7 := HC12.out.lw.c7
  have q0 := HC12.out.nn.c0
  have q1 := HC12.out.nn.c1
  have q2 := HC12.out.nn.c2
  have q3 := HC12.out.nn.c3
  have q4 := HC12.out.nn.c4
  have q5 := HC12.out.nn.c5
  go_wp2_with fail
  refine kx.mono ?_
  intro e yIl hy
  obtain ⟨kI, SI, CI, NI, DI, EI, sI, nI⟩ := RI
  obtain ⟨MI, hMI⟩ : ∃ M, kI.length = M := ⟨_, rfl⟩
  obtain ⟨aIl, cIl, rfl, vIl, gIl⟩ := hy.use rfl hMI
  replace HLAl := hid (HLAl.out.kept gIl)
  replace HLAd := hid (HLAd.out.kept gIl)
  have HLX := hid HLAl.out
  have HZL := hid (HLAl.out.row aIl MI cIl SI CI NI DI EI sI nI)
  have HZO : Hid (Lm (yIl.setRow pAl #[.slice aIl MI cIl, .int .i64 SI, .int .i64 CI, .int .i64 NI, .int .u64 DI, .int .u64 EI, .int .i64 sI, .int .i64 nI]) pAd aOd MO cOd SO CO NO DO EO sO nO) := HLAd.out.at (setRow_other _ _ _ _ (by have h1 := HPN.out; omega))
  have HZV : Hid (Bs (yIl.setRow pAl #[.slice aIl MI cIl, .int .i64 SI, .int .i64 CI, .int .i64 NI, .int .u64 DI, .int .u64 EI, .int .i64 sI, .int .i64 nI]) aIl MI kI) := (vIl.step fun x _ hx _ => setRow_other _ _ _ _ (by have h1 := HLtAl.out; omega)).bs
  have HMIl := hid (Nat.le_trans vIl.nc vIl.cm)
  have HC13 := hid ((HC12.out.on gIl).row HLEAl.out #[.slice aIl MI cIl, .int .i64 SI, .int .i64 CI, .int .i64 NI, .int .u64 DI, .int .u64 EI, .int .i64 sI, .int .i64 nI])
  have HSL2 : Hid (L ≤ (yIl.setRow pAl #[.slice aIl MI cIl, .int .i64 SI, .int .i64 CI, .int .i64 NI, .int .u64 DI, .int .u64 EI, .int .i64 sI, .int .i64 nI]).heap.size) := by have h1 := gIl.size; have h2 := HSL.out; show _ ≤ _; simp [World.setRow]; omega
  have HLt2 : Hid (pAl < (yIl.setRow pAl #[.slice aIl MI cIl, .int .i64 SI, .int .i64 CI, .int .i64 NI, .int .u64 DI, .int .u64 EI, .int .i64 sI, .int .i64 nI]).heap.size ∧ pAd < (yIl.setRow pAl #[.slice aIl MI cIl, .int .i64 SI, .int .i64 CI, .int .i64 NI, .int .u64 DI, .int .u64 EI, .int .i64 sI, .int .i64 nI]).heap.size) := by have h1 := gIl.size; have h2 := HLtAl.out; have h3 := HLtAd.out; show _ ∧ _; simp [World.setRow]; omega
  have HNEI : Hid (∀ ad, aIl = some ad → 0 < MI → ad.block ≠ pAd) := fun ad e hn => by have h1 := vIl.lies ad e hn; have h2 := HLtAd.out; omega
  obtain ⟨wIl, HWIl⟩ : ∃ y, Hid (yIl.setRow pAl #[.slice aIl MI cIl, .int .i64 SI, .int .i64 CI, .int .i64 NI, .int .u64 DI, .int .u64 EI, .int .i64 sI, .int .i64 nI] = y) := ⟨_, rfl⟩
  rw [HWIl.out] at HZL HZO HZV HC13 HSL2 HLt2
  clear kx hy vIl gIl e0 e1 e2 e3 e4 e5 e6 e7 q0 q1 q2 q3 q4 q5 HC12 HSL HLAl HLAd
  have HSL := HSL2
  have HLAl := HZL
  have HLAd := HZO
  have HVIl := HZV
  have HLtAl := hid HLt2.out.1
  have HLtAd := hid HLt2.out.2
  clear HSL2 HZL HZO HZV HLt2
  go_upto_region 21 with (refine wpList_sln rfl rfl _ _ rfl pAl aIl MI cIl SI CI NI DI EI sI nI rfl rfl (by with_reducible exact HLX.out) ?_)
  rw [HWIl.out]
  clear HWIl HLX
  have kx := dlc.raise a m c k S C N D E s n X B wIl (HC13.out.lil HI.out) hX hB
  rw [hRI] at kx
  have e0 := HC13.out.ll.c0
  have e1 := HC13.out.ll.c1
  have e2 := HC13.out.ll.c2
  have e3 := HC13.out.ll.c3
  have e4 := HC13.out.ll.c4
  have e5 := HC13.out.ll.c5
  have e6 := HC13.out.ll.c6
  have e7 := HC13.out.ll.c7
  have q0 := HC13.out.nn.c0
  have q1 := HC13.out.nn.c1
  have q2 := HC13.out.nn.c2
  have q3 := HC13.out.nn.c3
  have q4 := HC13.out.nn.c4
  have q5 := HC13.out.nn.c5
  go_wp2_with fail
  refine kx.mono ?_
  intro e yId hy
  obtain ⟨aId, cId, rfl, vId, gId⟩ := hy.use rfl hMI
  replace HLAl := hid (HLAl.out.kept gId)
  replace HLAd := hid (HLAd.out.kept gId)
  have HLX := hid HLAd.out
  have HZL := hid (HLAd.out.row aId MI cId SI CI NI DI EI sI nI)
  have HZO : Hid (Lm (yId.setRow pAd #[.slice aId MI cId, .int .i64 SI, .int .i64 CI, .int .i64 NI, .int .u64 DI, .int .u64 EI, .int .i64 sI, .int .i64 nI]) pAl aIl MI cIl SI CI NI DI EI sI nI) := HLAl.out.at (setRow_other _ _ _ _ (by have h1 := HPN.out; omega))
  have HZV : Hid (Bs (yId.setRow pAd #[.slice aId MI cId, .int .i64 SI, .int .i64 CI, .int .i64 NI, .int .u64 DI, .int .u64 EI, .int .i64 sI, .int .i64 nI]) aId MI kI) := (vId.step fun x _ hx _ => setRow_other _ _ _ _ (by have h1 := HLtAd.out; omega)).bs
  have HMId := hid (Nat.le_trans vId.nc vId.cm)
  have HC14 := hid ((HC13.out.on gId).row HLEAd.out #[.slice aId MI cId, .int .i64 SI, .int .i64 CI, .int .i64 NI, .int .u64 DI, .int .u64 EI, .int .i64 sI, .int .i64 nI])
  have HSL2 : Hid (L ≤ (yId.setRow pAd #[.slice aId MI cId, .int .i64 SI, .int .i64 CI, .int .i64 NI, .int .u64 DI, .int .u64 EI, .int .i64 sI, .int .i64 nI]).heap.size) := by have h1 := gId.size; have h2 := HSL.out; show _ ≤ _; simp [World.setRow]; omega
  have HLt2 : Hid (pAl < (yId.setRow pAd #[.slice aId MI cId, .int .i64 SI, .int .i64 CI, .int .i64 NI, .int .u64 DI, .int .u64 EI, .int .i64 sI, .int .i64 nI]).heap.size ∧ pAd < (yId.setRow pAd #[.slice aId MI cId, .int .i64 SI, .int .i64 CI, .int .i64 NI, .int .u64 DI, .int .u64 EI, .int .i64 sI, .int .i64 nI]).heap.size) := by have h1 := gId.size; have h2 := HLtAl.out; have h3 := HLtAd.out; show _ ∧ _; simp [World.setRow]; omega
  have HVX2 : Hid (Bs (yId.setRow pAd #[.slice aId MI cId, .int .i64 SI, .int .i64 CI, .int .i64 NI, .int .u64 DI, .int .u64 EI, .int .i64 sI, .int .i64 nI]) aIl MI kI) := (HVIl.out.below gId).same_block fun ad e hn => setRow_other _ _ _ _ (HNEI.out ad e hn)
  obtain ⟨wId, HWId⟩ : ∃ y, Hid (yId.setRow pAd #[.slice aId MI cId, .int .i64 SI, .int .i64 CI, .int .i64 NI, .int .u64 DI, .int .u64 EI, .int .i64 sI, .int .i64 nI] = y) := ⟨_, rfl⟩
  rw [HWId.out] at HZL HZO HZV HC14 HSL2 HLt2 HVX2
  clear kx hy vId gId e0 e1 e2 e3 e4 e5 e6 e7 q0 q1 q2 q3 q4 q5 HC13 HSL HLAd HLAl
  have HSL := HSL2
  have HLAd := HZL
  have HLAl := HZO
  have HVId := HZV
  have HLtAl := hid HLt2.out.1
  have HLtAd := hid HLt2.out.2
  clear HSL2 HZL HZO HZV HLt2
  clear HVIl
  have HVIl := HVX2
  clear HVX2
  go_upto_region 22 with (refine wpList_sln rfl rfl _ _ rfl pAd aId MI cId SI CI NI DI EI sI nI rfl rfl (by with_reducible exact HLX.out) ?_)
  rw [HWId.out]
  clear HWId HLX
  have kx := same17 aIl aId MI cIl cId kI SI CI NI DI EI sI nI wId HVIl.out HVId.out HMIl.out
  have e0 := HLAl.out.c0
  have e1 := HLAl.out.c1
  have e2 := HLAl.out.c2
  have e3 := HLAl.out.c3
  have e4 := HLAl.out.c4
  have e5 := HLAl.out.c5
  have e6 := HLAl.out.c6
  have e7 := HLAl.out.c7
  have f0 := HLAd.out.c0
  have f1 := HLAd.out.c1
  have f2 := HLAd.out.c2
  have f3 := HLAd.out.c3
  have f4 := HLAd.out.c4
  have f5 := HLAd.out.c5
  have f6 := HLAd.out.c6
  have f7 := HLAd.out.c7
  go_wp2_with fail
  refine kx.mono ?_
  rintro e uI ⟨rfl, gx⟩
  have HC15 := hid (HC14.out.on gx)
  have HSL2 : Hid (L ≤ uI.heap.size) := by have h1 := gx.size; have h2 := HSL.out; show _ ≤ _; omega
  replace HLAl := hid (HLAl.out.kept gx)
  replace HLAd := hid (HLAd.out.kept gx)
  replace HLtAl := hid (Nat.lt_of_lt_of_le HLtAl.out gx.size)
  replace HLtAd := hid (Nat.lt_of_lt_of_le HLtAd.out gx.size)
  clear kx gx e0 e1 e2 e3 e4 e5 e6 e7 f0 f1 f2 f3 f4 f5 f6 f7 HC14 HSL
  have HSL := HSL2
  clear HSL2
  have kx := ll.answered (some ⟨g, 0, none⟩) m cap k S C N D E s n G X T U B uI (HC15.out.liw HI.out) hG hX hT hU hB
  obtain ⟨RW, hRW⟩ : ∃ R, ansL ⟨k, S, C, N, D, E, s, n⟩ G X T U B = R := ⟨_, rfl⟩
  obtain ⟨zN, hzN⟩ : ∃ z, ansN ⟨k, S, C, N, D, E, s, n⟩ G X T U B = z := ⟨_, rfl⟩
  rw [hRW, hzN] at kx
  have e0 := HC15.out.lw.c0
  have e1 := HC15.out.lw.c1
  have e2 := HC15.out.lw.c2
  have e3 := HC15.out.lw.c3
  have e4 := HC15.out.lw.c4
  have e5 := HC15.out.lw.c5
  have e6 := HC15.out.lw.c6
  have e7 := HC15.out.lw.c7
  have q0 := HC15.out.nn.c0
  have q1 := HC15.out.nn.c1
  have q2 := HC15.out.nn.c2
  have q3 := HC15.out.nn.c3
  have q4 := HC15.out.nn.c4
  have q5 := HC15.out.nn.c5
  go_wp2_with fail
  refine kx.mono ?_
  intro e yWl hy
  obtain ⟨kW, SW, CW, NW, DW, EW, sW, nW⟩ := RW
  obtain ⟨MW, hMW⟩ : ∃ M, kW.length = M := ⟨_, rfl⟩
  obtain ⟨aWl, cWl, rfl, vWl, gWl⟩ := hy.use rfl hMW
  have NL := lnew yWl aWl MW cWl SW CW NW DW EW sW nW
  have HLWl := hid (Lm.new yWl aWl MW cWl SW CW NW DW EW sW nW)
  have HVWl := hid (vWl.bs.below NL)
  have HMWl := hid (Nat.le_trans vWl.nc vWl.cm)
  have HGWl : Hid (Bw uI (yWl.alloc (.cells #[.slice aWl MW cWl, .int .i64 SW, .int .i64 CW, .int .i64 NW, .int .u64 DW, .int .u64 EW, .int .i64 sW, .int .i64 nW] 27))) := Bw.on gWl NL
  have HC16 := hid ((HC15.out.on gWl).on NL)
  have HLEWl : Hid (L ≤ yWl.heap.size) := by have h1 := gWl.size; have h2 := HSL.out; show _ ≤ _; omega
  obtain ⟨wWl, HWWl⟩ : ∃ y, Hid (yWl.alloc (.cells #[.slice aWl MW cWl, .int .i64 SW, .int .i64 CW, .int .i64 NW, .int .u64 DW, .int .u64 EW, .int .i64 sW, .int .i64 nW] 27) = y) := ⟨_, rfl⟩
  obtain ⟨pWl, HPWl⟩ : ∃ y, Hid (yWl.heap.size = y) := ⟨_, rfl⟩
  have HSL2 : Hid (L ≤ wWl.heap.size) := by have h1 := HLEWl.out; show _ ≤ _; rw [← HWWl.out]; simp; omega
  rw [HWWl.out] at HLWl HVWl HGWl HC16
  rw [HPWl.out] at HLWl HLEWl
  clear kx hy vWl gWl NL e0 e1 e2 e3 e4 e5 e6 e7 q0 q1 q2 q3 q4 q5 HC15 HSL
  have HSL := HSL2
  clear HSL2
  go_upto_region 24 with fail
  rw [HWWl.out, HPWl.out]
  clear HWWl HPWl HGWl
  have kx := dlc.answered a m c k S C N D E s n G X T U B wWl (HC16.out.lil HI.out) hG hX hT hU hB
  rw [hRW, hzN] at kx
  have e0 := HC16.out.ll.c0
  have e1 := HC16.out.ll.c1
  have e2 := HC16.out.ll.c2
  have e3 := HC16.out.ll.c3
  have e4 := HC16.out.ll.c4
  have e5 := HC16.out.ll.c5
  have e6 := HC16.out.ll.c6
  have e7 := HC16.out.ll.c7
  have q0 := HC16.out.nn.c0
  have q1 := HC16.out.nn.c1
  have q2 := HC16.out.nn.c2
  have q3 := HC16.out.nn.c3
  have q4 := HC16.out.nn.c4
  have q5 := HC16.out.nn.c5
  go_wp2_with fail
  refine kx.mono ?_
  intro e yWd hy
  obtain ⟨aWd, cWd, rfl, vWd, gWd⟩ := hy.use rfl hMW
  have NL := lnew yWd aWd MW cWd SW CW NW DW EW sW nW
  have HLWd := hid (Lm.new yWd aWd MW cWd SW CW NW DW EW sW nW)
  have HVWd := hid (vWd.bs.below NL)
  have HMWd := hid (Nat.le_trans vWd.nc vWd.cm)
  have HGWd : Hid (Bw wWl (yWd.alloc (.cells #[.slice aWd MW cWd, .int .i64 SW, .int .i64 CW, .int .i64 NW, .int .u64 DW, .int .u64 EW, .int .i64 sW, .int .i64 nW] 27))) := Bw.on gWd NL
  have HC17 := hid ((HC16.out.on gWd).on NL)
  have HLEWd : Hid (L ≤ yWd.heap.size) := by have h1 := gWd.size; have h2 := HSL.out; show _ ≤ _; omega
  obtain ⟨wWd, HWWd⟩ : ∃ y, Hid (yWd.alloc (.cells #[.slice aWd MW cWd, .int .i64 SW, .int .i64 CW, .int .i64 NW, .int .u64 DW, .int .u64 EW, .int .i64 sW, .int .i64 nW] 27) = y) := ⟨_, rfl⟩
  obtain ⟨pWd, HPWd⟩ : ∃ y, Hid (yWd.heap.size = y) := ⟨_, rfl⟩
  have HSL2 : Hid (L ≤ wWd.heap.size) := by have h1 := HLEWd.out; show _ ≤ _; rw [← HWWd.out]; simp; omega
  rw [HWWd.out] at HLWd HVWd HGWd HC17
  rw [HPWd.out] at HLWd HLEWd
  replace HLWl := hid (HLWl.out.kept HGWd.out)
  replace HVWl := hid (HVWl.out.below HGWd.out)
  clear kx hy vWd gWd NL e0 e1 e2 e3 e4 e5 e6 e7 q0 q1 q2 q3 q4 q5 HC16 HSL
  have HSL := HSL2
  clear HSL2
  go_upto_region 25 with fail
  rw [HWWd.out, HPWd.out]
  clear HWWd HPWd HGWd
  have kx := same17 aWl aWd MW cWl cWd kW SW CW NW DW EW sW nW wWd HVWl.out HVWd.out HMWl.out
  have e0 := HLWl.out.c0
  have e1 := HLWl.out.c1
  have e2 := HLWl.out.c2
  have e3 := HLWl.out.c3
  have e4 := HLWl.out.c4
  have e5 := HLWl.out.c5
  have e6 := HLWl.out.c6
  have e7 := HLWl.out.c7
  have f0 := HLWd.out.c0
  have f1 := HLWd.out.c1
  have f2 := HLWd.out.c2
  have f3 := HLWd.out.c3
  have f4 := HLWd.out.c4
  have f5 := HLWd.out.c5
  have f6 := HLWd.out.c6
  have f7 := HLWd.out.c7
  go_wp2_with fail
  refine kx.mono ?_
  rintro e uW ⟨rfl, gx⟩
  have HC18 := hid (HC17.out.on gx)
  have HSL2 : Hid (L ≤ uW.heap.size) := by have h1 := gx.size; have h2 := HSL.out; show _ ≤ _; omega
  clear kx gx e0 e1 e2 e3 e4 e5 e6 e7 f0 f1 f2 f3 f4 f5 f6 f7 HC17 HSL
  have HSL := HSL2
  clear HSL2
  have kt := stays_ a g m cap c k S C N D E s n S C N D E s n uW HC18.out.rm (HI.out.k.below HC18.out.bel) hl
  have e0 := HC18.out.lw.c0
  have e1 := HC18.out.lw.c1
  have e2 := HC18.out.lw.c2
  have e3 := HC18.out.lw.c3
  have e4 := HC18.out.lw.c4
  have e5 := HC18.out.lw.c5
  have e6 := HC18.out.lw.c6
  have e7 := HC18.out.lw.c7
  have f0 := HC18.out.ll.c0
  have f1 := HC18.out.ll.c1
  have f2 := HC18.out.ll.c2
  have f3 := HC18.out.ll.c3
  have f4 := HC18.out.ll.c4
  have f5 := HC18.out.ll.c5
  have f6 := HC18.out.ll.c6
  have f7 := HC18.out.ll.c7
  have hzN : (zN == zN) = true := by simp
  have HF := hid HC18.out.bel
  go_wp2_with fail
  refine kt.mono ?_
  rintro e wz ⟨rfl, gz⟩
  have HFZ : Hid (Below w.heap.size w wz) := bel_bel HF.out HF.out.size gz
  clear kt gz e0 e1 e2 e3 e4 e5 e6 e7 f0 f1 f2 f3 f4 f5 f6 f7
  go_wp2_with fail
  go_ret
  exact ⟨rfl, HFZ.out⟩
end Go.Proofs.Ythhakecimnnnfaa
