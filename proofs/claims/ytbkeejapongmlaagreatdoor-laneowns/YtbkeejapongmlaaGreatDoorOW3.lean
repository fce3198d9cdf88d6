import Derived.Test.YtbkeejapongmlaaGreatDoorOW2
import Derived.Deep.CutRange
namespace Go.Proofs.YtbkeejapongmlaaGreatDoor.Kp
set_option maxRecDepth 100000
open Go.RowKit
set_option linter.unusedVariables false

set_option maxHeartbeats 16000000 in
/-- LaneOwns. -/
theorem laneOwns_ (ll : LL) (a : Option Addr) (m0 c : Nat) (key : List Int) (S C N D E s n G B X Y T U : Int) (w : World) (h : Li w a m0 key S C N D E s n) (rG : i64r G) (rB : i64r B) (rX : u64r X) (rY : u64r Y) (rT : i64r T) (rU : i64r U) :
    Calls Tryz.prog 3 #[.agg #[.slice a m0 c, .int .i64 S, .int .i64 C, .int .i64 N, .int .u64 D, .int .u64 E, .int .i64 s, .int .i64 n], .agg #[.int .i64 G, .int .i64 B, .int .u64 X, .int .u64 Y, .int .i64 T, .int .i64 U]] w fun e w' => e = .returned (.bool true) ∧ Below w.heap.size w w' := by
  have hkl : key.length = m0 := h.k.1
  have B1 := lnew w a m0 c S C N D E s n
  have B2 := bel_al' (w.alloc (.cells #[.slice a m0 c, .int .i64 S, .int .i64 C, .int .i64 N, .int .u64 D, .int .u64 E, .int .i64 s, .int .i64 n] 27)) (.cells #[.int .i64 G, .int .i64 B, .int .u64 X, .int .u64 Y, .int .i64 T, .int .i64 U] 29)
  have HLM := hid ((Lm.new w a m0 c S C N D E s n).kept B2)
  have HNM : Hid (Nm ((w.alloc (.cells #[.slice a m0 c, .int .i64 S, .int .i64 C, .int .i64 N, .int .u64 D, .int .u64 E, .int .i64 s, .int .i64 n] 27)).alloc (.cells #[.int .i64 G, .int .i64 B, .int .u64 X, .int .u64 Y, .int .i64 T, .int .i64 U] 29)) (w.heap.size + 1) G B X Y T U) := by
    have := heap_alloc_new (w.alloc (.cells #[.slice a m0 c, .int .i64 S, .int .i64 C, .int .i64 N, .int .u64 D, .int .u64 E, .int .i64 s, .int .i64 n] 27)) (.cells #[.int .i64 G, .int .i64 B, .int .u64 X, .int .u64 Y, .int .i64 T, .int .i64 U] 29)
    rw [World.size_alloc] at this
    exact this
  have HBW := hid (bel_bel (B := w.heap.size) B1 B1.size B2)
  have HKW := hid (h.k.below HBW.out)
  have HLI : Hid (m0 ≤ 140737488351232 ∧ i64r S ∧ i64r C ∧ i64r N ∧ u64r D ∧ u64r E ∧ i64r s ∧ i64r n) := ⟨h.m, h.S, h.C, h.N, h.D, h.E, h.s, h.n⟩
  have HKE := hid hkl
  clear B1 B2 hkl h
  obtain ⟨W0, HW⟩ : ∃ y, Hid ((w.alloc (.cells #[.slice a m0 c, .int .i64 S, .int .i64 C, .int .i64 N, .int .u64 D, .int .u64 E, .int .i64 s, .int .i64 n] 27)).alloc (.cells #[.int .i64 G, .int .i64 B, .int .u64 X, .int .u64 Y, .int .i64 T, .int .i64 U] 29) = y) := ⟨_, rfl⟩
  obtain ⟨gg, Hg⟩ : ∃ y, Hid (w.heap.size = y) := ⟨_, rfl⟩
  rw [HW.out] at HLM HNM HBW HKW
  rw [Hg.out] at HLM HNM
  go_enter Tryz.func3, Tryz.ntmps3
  go_upto_region 1 with fail
  rw [HW.out, Hg.out]
  clear HW Hg
  have HNW : Hid (∀ wx, Below W0.heap.size W0 wx → Nm wx (gg + 1) G B X Y T U) := fun wx hb => HNM.out.at (hb.block _ HNM.out.lt)
  have HLW : Hid (∀ wx, Below W0.heap.size W0 wx → Lm wx gg a m0 c S C N D E s n) := fun wx hb => HLM.out.at (hb.block _ HLM.out.lt)
  have k1 := known_ ll W0
  go_wp2_with fail
  refine k1.mono ?_
  rintro e w1 ⟨rfl, g1⟩
  have HB1 : Hid (Below W0.heap.size W0 w1) := g1
  clear k1 g1
  have c0 := (HLW.out w1 HB1.out).c0
  by_cases hlen : m0 ≤ 4096
  case neg =>
    have hI : (4096 : Int) < m0 := by omega
    have HF : Hid (Below w.heap.size w w1) := HBW.out.trans ⟨HB1.out.os, HB1.out.tape, HB1.out.output, HB1.out.size, fun z hz => HB1.out.block z (by have := HBW.out.size; omega)⟩
    clear hlen
    go_wp2_with fail
    go_ret
    exact ⟨rfl, HF.out⟩
  have hI : ¬ (4096 : Int) < m0 := by omega
  have HKL : Hid (key.length ≤ 4096) := by show _ ≤ _; rw [HKE.out]; exact hlen
  have HM4 : Hid (m0 ≤ 4096) := hlen
  clear hlen
  go_upto_region 6 with (refine wpList_book rfl rfl ?_)
  generalize hbc : bookCells 0 (.slice none 0 0) (.slice none 0 0) (.slice none 0 0) = bc at *
  have NB : Bk (w1.alloc (.cells bc 50)) w1.heap.size 0 (.slice none 0 0) (.slice none 0 0) (.slice none 0 0) := by rw [← hbc]; exact new_book w1
  have hk : W0.heap.size ≤ w1.heap.size := HB1.out.size
  have HB2 : Hid (Below W0.heap.size W0 (w1.alloc (.cells bc 50))) := HB1.out.alloc HB1.out.size _
  have HNB := hid NB
  have HK0 := hid hk
  clear hbc NB hk c0
  obtain ⟨w2, HW2⟩ : ∃ z, Hid (w1.alloc (.cells bc 50) = z) := ⟨_, rfl⟩
  obtain ⟨k, HKK⟩ : ∃ z, Hid (w1.heap.size = z) := ⟨_, rfl⟩
  rw [HW2.out] at HNB HB2 ⊢
  rw [HKK.out] at HNB HK0 ⊢
  clear HW2 HKK HB1
  have kr := roomy_ a m0 c key S C N D E s n w2 (HKW.out.below HB2.out) HM4.out
  have e0 := (HLW.out w2 HB2.out).c0
  have e1 := (HLW.out w2 HB2.out).c1
  have e2 := (HLW.out w2 HB2.out).c2
  have e3 := (HLW.out w2 HB2.out).c3
  have e4 := (HLW.out w2 HB2.out).c4
  have e5 := (HLW.out w2 HB2.out).c5
  have e6 := (HLW.out w2 HB2.out).c6
  have e7 := (HLW.out w2 HB2.out).c7
  go_wp2_with fail
  refine kr.mono ?_
  rintro e y ⟨g, cap, rfl, hrm, hb⟩
  have NL := lnew y (some ⟨g, 0, none⟩) m0 cap S C N D E s n
  have HO0 : Hid (Os W0 (y.alloc (.cells #[.slice (some ⟨g, 0, none⟩) m0 cap, .int .i64 S, .int .i64 C, .int .i64 N, .int .u64 D, .int .u64 E, .int .i64 s, .int .i64 n] 27)) k 0 y.heap.size g (y.alloc (.cells #[.slice (some ⟨g, 0, none⟩) m0 cap, .int .i64 S, .int .i64 C, .int .i64 N, .int .u64 D, .int .u64 E, .int .i64 s, .int .i64 n] 27)).heap.size m0 cap key S C N D E s n) := by
    have o2 : Ow W0 w2 k 0 (fun b => b < (y.alloc (.cells #[.slice (some ⟨g, 0, none⟩) m0 cap, .int .i64 S, .int .i64 C, .int .i64 N, .int .u64 D, .int .u64 E, .int .i64 s, .int .i64 n] 27)).heap.size ∧ b ≠ g ∧ b ≠ y.heap.size) := ⟨⟨_, _, _, _, bo_start HNB.out, fun l hl => by omega⟩, HK0.out, HB2.out⟩
    obtain ⟨cur, hcur⟩ := hrm.blk
    have hgl := (Array.getElem?_eq_some_iff.1 hcur).1
    have hz : (y.alloc (.cells #[.slice (some ⟨g, 0, none⟩) m0 cap, .int .i64 S, .int .i64 C, .int .i64 N, .int .u64 D, .int .u64 E, .int .i64 s, .int .i64 n] 27)).heap.size = y.heap.size + 1 := by simp
    exact ⟨(o2.below hb).below NL, Lm.new y _ m0 cap S C N D E s n, hrm.on NL, by omega, by omega, by have h1 := HB2.out.size; have h2 := hb.size; omega, Nat.le_refl _⟩
  obtain ⟨w3, HW3⟩ : ∃ z, Hid (y.alloc (.cells #[.slice (some ⟨g, 0, none⟩) m0 cap, .int .i64 S, .int .i64 C, .int .i64 N, .int .u64 D, .int .u64 E, .int .i64 s, .int .i64 n] 27) = z) := ⟨_, rfl⟩
  obtain ⟨pw, HPW⟩ : ∃ z, Hid (y.heap.size = z) := ⟨_, rfl⟩
  rw [HW3.out, HPW.out] at HO0
  clear kr hrm hb NL e0 e1 e2 e3 e4 e5 e6 e7 HNB HK0 HB2
  go_upto_region 7 with fail
  rw [HW3.out, HPW.out]
  clear HW3 HPW
  go_wp2_with fail
  go_loopw [7] (fun i wr => ∃ (j mm H : Nat), j ≤ 2 ∧ mm ≤ 7 * j ∧ i = .int .i64 j ∧ Hid (Os W0 wr k mm pw g H m0 cap key S C N D E s n)) (fun i _ => 2 - (intOf i).toNat)
  case atStart => exact ⟨0, 0, _, by omega, by omega, rfl, HO0⟩
  case round =>
    clear HO0
    obtain ⟨j, mm, H, hj, hmm, rfl, HO⟩ := hrel
    have HLX : Hid (∀ wx m H, Os W0 wx k m pw g H m0 cap key S C N D E s n → Li wx (some ⟨g, 0, none⟩) m0 key S C N D E s n) := fun wx m H o => ⟨o.rm.key HKE.out, HLI.out.1, HLI.out.2.1, HLI.out.2.2.1, HLI.out.2.2.2.1, HLI.out.2.2.2.2.1, HLI.out.2.2.2.2.2.1, HLI.out.2.2.2.2.2.2.1, HLI.out.2.2.2.2.2.2.2⟩
    by_cases hlt : j < 2
    case pos =>
      have hjI : (j : Int) < 2 := by omega
      have HMB : Hid (mm ≤ 14) := by show _ ≤ _; omega
      have HHS : Hid (H ≤ wr.heap.size) := HO.out.Hs
      obtain ⟨wz, HWZ⟩ : ∃ z, Hid (wr = z) := ⟨_, rfl⟩
      rw [HWZ.out] at HO HHS ⊢
      clear HWZ
      obtain ⟨Ra1, hRa1⟩ : ∃ R, agnL ⟨key, S, C, N, D, E, s, n⟩ = R := ⟨_, rfl⟩
      have hla1 : Ra1.k.length ≤ 4096 := by rw [← hRa1]; exact agnL_len HKL.out
      obtain ⟨ka1, Sa1, Ca1, Na1, Da1, Ea1, sa1, na1⟩ := Ra1
      simp only at hla1
      obtain ⟨ma1, hma1⟩ : ∃ z, ka1.length = z := ⟨_, rfl⟩
      rw [hma1] at hla1
      have HLa1 : Hid (ma1 ≤ 4096) := hla1
      have kx := ll.again (some ⟨g, 0, none⟩) m0 cap key S C N D E s n wz (HLX.out _ _ _ HO.out)
      have e0 := HO.out.lm.c0
      have e1 := HO.out.lm.c1
      have e2 := HO.out.lm.c2
      have e3 := HO.out.lm.c3
      have e4 := HO.out.lm.c4
      have e5 := HO.out.lm.c5
      have e6 := HO.out.lm.c6
      have e7 := HO.out.lm.c7
      go_wp2_with fail
      refine kx.mono ?_
      intro e y hy
      obtain ⟨aa1, ca1, rfl, va1, ba1⟩ := hy.use hRa1 hma1
      have NL := lnew y aa1 ma1 ca1 Sa1 Ca1 Na1 Da1 Ea1 sa1 na1
      have BB := bel_bel (B := wz.heap.size) ba1 ba1.size NL
      have HEa1 := hid ((En.vs va1 (by have := HLa1.out; omega)).below NL)
      have HMa1 := hid (Lm.new y aa1 ma1 ca1 Sa1 Ca1 Na1 Da1 Ea1 sa1 na1)
      have HSa1 : Hid (wz.heap.size ≤ y.heap.size ∧ y.heap.size ≤ (y.alloc (.cells #[.slice aa1 ma1 ca1, .int .i64 Sa1, .int .i64 Ca1, .int .i64 Na1, .int .u64 Da1, .int .u64 Ea1, .int .i64 sa1, .int .i64 na1] 27)).heap.size) := ⟨ba1.size, NL.size⟩
      replace HO := hid (HO.out.on BB)
      obtain ⟨va, HV⟩ : ∃ z, Hid ((y.alloc (.cells #[.slice aa1 ma1 ca1, .int .i64 Sa1, .int .i64 Ca1, .int .i64 Na1, .int .u64 Da1, .int .u64 Ea1, .int .i64 sa1, .int .i64 na1] 27)) = z) := ⟨_, rfl⟩
      obtain ⟨ha1, HH⟩ : ∃ z, Hid (y.heap.size = z) := ⟨_, rfl⟩
      rw [HV.out] at HO HEa1 HMa1 HSa1
      rw [HH.out] at HEa1 HMa1 HSa1
      clear kx hy va1 ba1 NL BB hla1 hRa1 hma1 e0 e1 e2 e3 e4 e5 e6 e7
      go_upto_region 11 with fail
      rw [HV.out, HH.out]
      clear HV HH
      obtain ⟨Rb1, hRb1⟩ : ∃ R, prpL ⟨key, S, C, N, D, E, s, n⟩ = R := ⟨_, rfl⟩
      have hlb1 : Rb1.k.length ≤ 4096 := by rw [← hRb1]; exact prpL_len HKL.out
      obtain ⟨kb1, Sb1, Cb1, Nb1, Db1, Eb1, sb1, nb1⟩ := Rb1
      simp only at hlb1
      obtain ⟨mb1, hmb1⟩ : ∃ z, kb1.length = z := ⟨_, rfl⟩
      rw [hmb1] at hlb1
      have HLb1 : Hid (mb1 ≤ 4096) := hlb1
      have kx := ll.propose (some ⟨g, 0, none⟩) m0 cap key S C N D E s n va (HLX.out _ _ _ HO.out)
      have e0 := HO.out.lm.c0
      have e1 := HO.out.lm.c1
      have e2 := HO.out.lm.c2
      have e3 := HO.out.lm.c3
      have e4 := HO.out.lm.c4
      have e5 := HO.out.lm.c5
      have e6 := HO.out.lm.c6
      have e7 := HO.out.lm.c7
      go_wp2_with fail
      refine kx.mono ?_
      intro e y hy
      obtain ⟨ab1, cb1, rfl, vb1, bb1⟩ := hy.use hRb1 hmb1
      have NL := lnew y ab1 mb1 cb1 Sb1 Cb1 Nb1 Db1 Eb1 sb1 nb1
      have BB := bel_bel (B := va.heap.size) bb1 bb1.size NL
      have HEb1 := hid ((En.vs vb1 (by have := HLb1.out; omega)).below NL)
      have HMb1 := hid (Lm.new y ab1 mb1 cb1 Sb1 Cb1 Nb1 Db1 Eb1 sb1 nb1)
      have HSb1 : Hid (va.heap.size ≤ y.heap.size ∧ y.heap.size ≤ (y.alloc (.cells #[.slice ab1 mb1 cb1, .int .i64 Sb1, .int .i64 Cb1, .int .i64 Nb1, .int .u64 Db1, .int .u64 Eb1, .int .i64 sb1, .int .i64 nb1] 27)).heap.size) := ⟨bb1.size, NL.size⟩
      replace HO := hid (HO.out.on BB)
      replace HEa1 := hid (HEa1.out.below BB)
      replace HMa1 := hid (HMa1.out.kept BB)
      obtain ⟨vb, HV⟩ : ∃ z, Hid ((y.alloc (.cells #[.slice ab1 mb1 cb1, .int .i64 Sb1, .int .i64 Cb1, .int .i64 Nb1, .int .u64 Db1, .int .u64 Eb1, .int .i64 sb1, .int .i64 nb1] 27)) = z) := ⟨_, rfl⟩
      obtain ⟨hb1, HH⟩ : ∃ z, Hid (y.heap.size = z) := ⟨_, rfl⟩
      rw [HV.out] at HO HEb1 HMb1 HSb1 HEa1 HMa1
      rw [HH.out] at HEb1 HMb1 HSb1
      clear kx hy vb1 bb1 NL BB hlb1 hRb1 hmb1 e0 e1 e2 e3 e4 e5 e6 e7
      go_upto_region 12 with fail
      rw [HV.out, HH.out]
      clear HV HH
      obtain ⟨Rc1, hRc1⟩ : ∃ R, ansL ⟨key, S, C, N, D, E, s, n⟩ G X T U B = R := ⟨_, rfl⟩
      have hlc1 : Rc1.k.length ≤ 4096 := by rw [← hRc1]; exact ansL_len HKL.out
      obtain ⟨kc1, Sc1, Cc1, Nc1, Dc1, Ec1, sc1, nc1⟩ := Rc1
      simp only at hlc1
      obtain ⟨mc1, hmc1⟩ : ∃ z, kc1.length = z := ⟨_, rfl⟩
      rw [hmc1] at hlc1
      have HLc1 : Hid (mc1 ≤ 4096) := hlc1
      have kx := ll.answered (some ⟨g, 0, none⟩) m0 cap key S C N D E s n G X T U B vb (HLX.out _ _ _ HO.out) rG rX rT rU rB
      have e0 := HO.out.lm.c0
      have e1 := HO.out.lm.c1
      have e2 := HO.out.lm.c2
      have e3 := HO.out.lm.c3
      have e4 := HO.out.lm.c4
      have e5 := HO.out.lm.c5
      have e6 := HO.out.lm.c6
      have e7 := HO.out.lm.c7
      have i0 := (HNW.out _ HO.out.ow.fr).c0
      have i1 := (HNW.out _ HO.out.ow.fr).c1
      have i2 := (HNW.out _ HO.out.ow.fr).c2
      have i4 := (HNW.out _ HO.out.ow.fr).c4
      have i5 := (HNW.out _ HO.out.ow.fr).c5
      go_wp2_with fail
      refine kx.mono ?_
      intro e y hy
      obtain ⟨ac1, cc1, rfl, vc1, bc1⟩ := hy.use hRc1 hmc1
      have NL := lnew y ac1 mc1 cc1 Sc1 Cc1 Nc1 Dc1 Ec1 sc1 nc1
      have BB := bel_bel (B := vb.heap.size) bc1 bc1.size NL
      have HEc1 := hid ((En.vs vc1 (by have := HLc1.out; omega)).below NL)
      have HMc1 := hid (Lm.new y ac1 mc1 cc1 Sc1 Cc1 Nc1 Dc1 Ec1 sc1 nc1)
      have HSc1 : Hid (vb.heap.size ≤ y.heap.size ∧ y.heap.size ≤ (y.alloc (.cells #[.slice ac1 mc1 cc1, .int .i64 Sc1, .int .i64 Cc1, .int .i64 Nc1, .int .u64 Dc1, .int .u64 Ec1, .int .i64 sc1, .int .i64 nc1] 27)).heap.size) := ⟨bc1.size, NL.size⟩
      replace HO := hid (HO.out.on BB)
      replace HEa1 := hid (HEa1.out.below BB)
      replace HMa1 := hid (HMa1.out.kept BB)
      replace HEb1 := hid (HEb1.out.below BB)
      replace HMb1 := hid (HMb1.out.kept BB)
      obtain ⟨vc, HV⟩ : ∃ z, Hid ((y.alloc (.cells #[.slice ac1 mc1 cc1, .int .i64 Sc1, .int .i64 Cc1, .int .i64 Nc1, .int .u64 Dc1, .int .u64 Ec1, .int .i64 sc1, .int .i64 nc1] 27)) = z) := ⟨_, rfl⟩
      obtain ⟨hc1, HH⟩ : ∃ z, Hid (y.heap.size = z) := ⟨_, rfl⟩
      rw [HV.out] at HO HEc1 HMc1 HSc1 HEa1 HMa1 HEb1 HMb1
      rw [HH.out] at HEc1 HMc1 HSc1
      clear kx hy vc1 bc1 NL BB hlc1 hRc1 hmc1 e0 e1 e2 e3 e4 e5 e6 e7 i0 i1 i2 i4 i5
      go_upto_region 13 with fail
      rw [HV.out, HH.out]
      clear HV HH
      have d0 := HMa1.out.c0
      have kt := HO.out.tell HEa1.out (by have q0 := HHS.out; have q1 := HSa1.out; have q2 := HSb1.out; have q3 := HSc1.out; omega) (by have q0 := HHS.out; have q1 := HSa1.out; have q2 := HSb1.out; have q3 := HSc1.out; omega) (by have q0 := HHS.out; have q1 := HSa1.out; have q2 := HSb1.out; have q3 := HSc1.out; omega) (by have := HLa1.out; show ma1 ≤ 5000; omega) (by have := HMB.out; omega)
      go_wp2_with fail
      refine kt.mono ?_
      rintro e t1 ⟨rfl, o9, z9⟩
      replace HO := hid o9
      have HTt1 : Hid (vc.heap.size ≤ t1.heap.size) := z9.size
      replace HEb1 := hid (HEb1.out.wz z9)
      replace HMb1 := hid (lm_wz HMb1.out z9 (fun _ q => q))
      replace HEc1 := hid (HEc1.out.wz z9)
      replace HMc1 := hid (lm_wz HMc1.out z9 (fun _ q => q))
      clear kt o9 z9 HEa1 d0 HMa1
      have d0 := HMb1.out.c0
      have kt := HO.out.tell HEb1.out (by have q0 := HHS.out; have q1 := HSa1.out; have q2 := HSb1.out; have q3 := HSc1.out; have q4 := HTt1.out; omega) (by have q0 := HHS.out; have q1 := HSa1.out; have q2 := HSb1.out; have q3 := HSc1.out; have q4 := HTt1.out; omega) (by have q0 := HHS.out; have q1 := HSa1.out; have q2 := HSb1.out; have q3 := HSc1.out; have q4 := HTt1.out; omega) (by have := HLb1.out; show mb1 ≤ 5000; omega) (by have := HMB.out; omega)
      go_wp2_with fail
      refine kt.mono ?_
      rintro e t2 ⟨rfl, o9, z9⟩
      replace HO := hid o9
      have HTt2 : Hid (t1.heap.size ≤ t2.heap.size) := z9.size
      replace HEc1 := hid (HEc1.out.wz z9)
      replace HMc1 := hid (lm_wz HMc1.out z9 (fun _ q => q))
      clear kt o9 z9 HEb1 d0 HMb1
      have d0 := HMc1.out.c0
      have kt := HO.out.tell HEc1.out (by have q0 := HHS.out; have q1 := HSa1.out; have q2 := HSb1.out; have q3 := HSc1.out; have q4 := HTt1.out; have q5 := HTt2.out; omega) (by have q0 := HHS.out; have q1 := HSa1.out; have q2 := HSb1.out; have q3 := HSc1.out; have q4 := HTt1.out; have q5 := HTt2.out; omega) (by have q0 := HHS.out; have q1 := HSa1.out; have q2 := HSb1.out; have q3 := HSc1.out; have q4 := HTt1.out; have q5 := HTt2.out; omega) (by have := HLc1.out; show mc1 ≤ 5000; omega) (by have := HMB.out; omega)
      go_wp2_with fail
      refine kt.mono ?_
      rintro e t3 ⟨rfl, o9, z9⟩
      replace HO := hid o9
      have HTt3 : Hid (t2.heap.size ≤ t3.heap.size) := z9.size
      clear kt o9 z9 HEc1 d0 HMc1
      obtain ⟨Rd1, hRd1⟩ : ∃ R, newL key S = R := ⟨_, rfl⟩
      have hld1 : Rd1.k.length ≤ 4096 := by rw [← hRd1]; exact newL_len HKL.out
      obtain ⟨kd1, Sd1, Cd1, Nd1, Dd1, Ed1, sd1, nd1⟩ := Rd1
      simp only at hld1
      obtain ⟨md1, hmd1⟩ : ∃ z, kd1.length = z := ⟨_, rfl⟩
      rw [hmd1] at hld1
      have HLd1 : Hid (md1 ≤ 4096) := hld1
      have kx := ll.new (some ⟨g, 0, none⟩) m0 cap key S t3 (HLX.out _ _ _ HO.out).k HLI.out.1 HLI.out.2.1
      have e0 := HO.out.lm.c0
      have e1 := (HLW.out _ HO.out.ow.fr).c1
      go_wp2_with fail
      refine kx.mono ?_
      intro e y4 hy
      obtain ⟨ad1, cd1, rfl, vd1, bd1⟩ := hy.use hRd1 hmd1
      have HEd1 := hid (En.vs vd1 (by have := HLd1.out; omega))
      have HSd1 : Hid (t3.heap.size ≤ y4.heap.size) := bd1.size
      replace HO := hid (HO.out.on bd1)
      have hf0 := fld0 ad1 md1 cd1 Sd1 Cd1 Nd1 Dd1 Ed1 sd1 nd1 y4
      clear kx hy vd1 bd1 hld1 hRd1 hmd1 e0 e1
      have kt := HO.out.tell HEd1.out (by have q0 := HHS.out; have q1 := HSa1.out; have q2 := HSb1.out; have q3 := HSc1.out; have q4 := HTt1.out; have q5 := HTt2.out; have q6 := HTt3.out; have q7 := HSd1.out; omega) (by have q0 := HHS.out; have q1 := HSa1.out; have q2 := HSb1.out; have q3 := HSc1.out; have q4 := HTt1.out; have q5 := HTt2.out; have q6 := HTt3.out; have q7 := HSd1.out; omega) (by have q0 := HHS.out; have q1 := HSa1.out; have q2 := HSb1.out; have q3 := HSc1.out; have q4 := HTt1.out; have q5 := HTt2.out; have q6 := HTt3.out; have q7 := HSd1.out; omega) (by have := HLd1.out; show md1 ≤ 5000; omega) (by have := HMB.out; omega)
      go_wp2_with fail
      refine kt.mono ?_
      rintro e t4 ⟨rfl, o9, z9⟩
      replace HO := hid o9
      have HTt4 : Hid (y4.heap.size ≤ t4.heap.size) := z9.size
      clear kt o9 z9 HEd1 hf0
      obtain ⟨Rf1, hRf1⟩ : ∃ R, resL ⟨key, S, C, N, D, E, s, n⟩ Y B = R := ⟨_, rfl⟩
      have hlf1 : Rf1.k.length ≤ 4096 := by rw [← hRf1]; exact resL_len HKL.out
      obtain ⟨kf1, Sf1, Cf1, Nf1, Df1, Ef1, sf1, nf1⟩ := Rf1
      simp only at hlf1
      obtain ⟨mf1, hmf1⟩ : ∃ z, kf1.length = z := ⟨_, rfl⟩
      rw [hmf1] at hlf1
      have HLf1 : Hid (mf1 ≤ 4096) := hlf1
      have kx := ll.reserve (some ⟨g, 0, none⟩) m0 cap key S C N D E s n Y B t4 (HLX.out _ _ _ HO.out) rY rB
      have e0 := HO.out.lm.c0
      have e1 := HO.out.lm.c1
      have e2 := HO.out.lm.c2
      have e3 := HO.out.lm.c3
      have e4 := HO.out.lm.c4
      have e5 := HO.out.lm.c5
      have e6 := HO.out.lm.c6
      have e7 := HO.out.lm.c7
      have i1 := (HNW.out _ HO.out.ow.fr).c1
      have i3 := (HNW.out _ HO.out.ow.fr).c3
      go_wp2_with fail
      refine kx.mono ?_
      intro e y5 hy
      obtain ⟨af1, cf1, rfl, vf1, bf1⟩ := hy.use hRf1 hmf1
      have HEf1 := hid (En.vs vf1 (by have := HLf1.out; omega))
      have HSf1 : Hid (t4.heap.size ≤ y5.heap.size) := bf1.size
      replace HO := hid (HO.out.on bf1)
      have hf0 := fld0 af1 mf1 cf1 Sf1 Cf1 Nf1 Df1 Ef1 sf1 nf1 y5
      clear kx hy vf1 bf1 hlf1 hRf1 hmf1 e0 e1 e2 e3 e4 e5 e6 e7 i1 i3
      have kt := HO.out.tell HEf1.out (by have q0 := HHS.out; have q1 := HSa1.out; have q2 := HSb1.out; have q3 := HSc1.out; have q4 := HTt1.out; have q5 := HTt2.out; have q6 := HTt3.out; have q7 := HSd1.out; have q8 := HTt4.out; have q9 := HSf1.out; omega) (by have q0 := HHS.out; have q1 := HSa1.out; have q2 := HSb1.out; have q3 := HSc1.out; have q4 := HTt1.out; have q5 := HTt2.out; have q6 := HTt3.out; have q7 := HSd1.out; have q8 := HTt4.out; have q9 := HSf1.out; omega) (by have q0 := HHS.out; have q1 := HSa1.out; have q2 := HSb1.out; have q3 := HSc1.out; have q4 := HTt1.out; have q5 := HTt2.out; have q6 := HTt3.out; have q7 := HSd1.out; have q8 := HTt4.out; have q9 := HSf1.out; omega) (by have := HLf1.out; show mf1 ≤ 5000; omega) (by have := HMB.out; omega)
      go_wp2_with fail
      refine kt.mono ?_
      rintro e t5 ⟨rfl, o9, z9⟩
      replace HO := hid o9
      have HTt5 : Hid (y5.heap.size ≤ t5.heap.size) := z9.size
      clear kt o9 z9 HEf1 hf0
      obtain ⟨Ro1, hRo1⟩ : ∃ R, opnL ⟨key, S, C, N, D, E, s, n⟩ G X B = R := ⟨_, rfl⟩
      have hlo1 : Ro1.k.length ≤ 4096 := by rw [← hRo1]; exact opnL_len HKL.out
      obtain ⟨ko1, So1, Co1, No1, Do1, Eo1, so1, no1⟩ := Ro1
      simp only at hlo1
      obtain ⟨mo1, hmo1⟩ : ∃ z, ko1.length = z := ⟨_, rfl⟩
      rw [hmo1] at hlo1
      have HLo1 : Hid (mo1 ≤ 4096) := hlo1
      have kx := ll.opened (some ⟨g, 0, none⟩) m0 cap key S C N D E s n G X B t5 (HLX.out _ _ _ HO.out) rG rX rB
      have e0 := HO.out.lm.c0
      have e1 := HO.out.lm.c1
      have e2 := HO.out.lm.c2
      have e3 := HO.out.lm.c3
      have e4 := HO.out.lm.c4
      have e5 := HO.out.lm.c5
      have e6 := HO.out.lm.c6
      have e7 := HO.out.lm.c7
      have i0 := (HNW.out _ HO.out.ow.fr).c0
      have i1 := (HNW.out _ HO.out.ow.fr).c1
      have i2 := (HNW.out _ HO.out.ow.fr).c2
      go_wp2_with fail
      refine kx.mono ?_
      intro e y6 hy
      obtain ⟨ao1, co1, rfl, vo1, bo1⟩ := hy.use hRo1 hmo1
      have HEo1 := hid (En.vs vo1 (by have := HLo1.out; omega))
      have HSo1 : Hid (t5.heap.size ≤ y6.heap.size) := bo1.size
      replace HO := hid (HO.out.on bo1)
      have hf0 := fld0 ao1 mo1 co1 So1 Co1 No1 Do1 Eo1 so1 no1 y6
      clear kx hy vo1 bo1 hlo1 hRo1 hmo1 e0 e1 e2 e3 e4 e5 e6 e7 i0 i1 i2
      have kt := HO.out.tell HEo1.out (by have q0 := HHS.out; have q1 := HSa1.out; have q2 := HSb1.out; have q3 := HSc1.out; have q4 := HTt1.out; have q5 := HTt2.out; have q6 := HTt3.out; have q7 := HSd1.out; have q8 := HTt4.out; have q9 := HSf1.out; have q10 := HTt5.out; have q11 := HSo1.out; omega) (by have q0 := HHS.out; have q1 := HSa1.out; have q2 := HSb1.out; have q3 := HSc1.out; have q4 := HTt1.out; have q5 := HTt2.out; have q6 := HTt3.out; have q7 := HSd1.out; have q8 := HTt4.out; have q9 := HSf1.out; have q10 := HTt5.out; have q11 := HSo1.out; omega) (by have q0 := HHS.out; have q1 := HSa1.out; have q2 := HSb1.out; have q3 := HSc1.out; have q4 := HTt1.out; have q5 := HTt2.out; have q6 := HTt3.out; have q7 := HSd1.out; have q8 := HTt4.out; have q9 := HSf1.out; have q10 := HTt5.out; have q11 := HSo1.out; omega) (by have := HLo1.out; show mo1 ≤ 5000; omega) (by have := HMB.out; omega)
      go_wp2_with fail
      refine kt.mono ?_
      rintro e t6 ⟨rfl, o9, z9⟩
      replace HO := hid o9
      have HTt6 : Hid (y6.heap.size ≤ t6.heap.size) := z9.size
      clear kt o9 z9 HEo1 hf0
      obtain ⟨Rr1, hRr1⟩ : ∃ R, rseL ⟨key, S, C, N, D, E, s, n⟩ X B = R := ⟨_, rfl⟩
      have hlr1 : Rr1.k.length ≤ 4096 := by rw [← hRr1]; exact rseL_len HKL.out
      obtain ⟨kr1, Sr1, Cr1, Nr1, Dr1, Er1, sr1, nr1⟩ := Rr1
      simp only at hlr1
      obtain ⟨mr1, hmr1⟩ : ∃ z, kr1.length = z := ⟨_, rfl⟩
      rw [hmr1] at hlr1
      have HLr1 : Hid (mr1 ≤ 4096) := hlr1
      have kx := ll.raise (some ⟨g, 0, none⟩) m0 cap key S C N D E s n X B t6 (HLX.out _ _ _ HO.out) rX rB
      have e0 := HO.out.lm.c0
      have e1 := HO.out.lm.c1
      have e2 := HO.out.lm.c2
      have e3 := HO.out.lm.c3
      have e4 := HO.out.lm.c4
      have e5 := HO.out.lm.c5
      have e6 := HO.out.lm.c6
      have e7 := HO.out.lm.c7
      have i1 := (HNW.out _ HO.out.ow.fr).c1
      have i2 := (HNW.out _ HO.out.ow.fr).c2
      go_wp2_with fail
      refine kx.mono ?_
      intro e y7 hy
      obtain ⟨ar1, cr1, rfl, vr1, br1⟩ := hy.use hRr1 hmr1
      have HEr1 := hid (En.vs vr1 (by have := HLr1.out; omega))
      have HSr1 : Hid (t6.heap.size ≤ y7.heap.size) := br1.size
      replace HO := hid (HO.out.on br1)
      have hf0 := fld0 ar1 mr1 cr1 Sr1 Cr1 Nr1 Dr1 Er1 sr1 nr1 y7
      clear kx hy vr1 br1 hlr1 hRr1 hmr1 e0 e1 e2 e3 e4 e5 e6 e7 i1 i2
      have kt := HO.out.tell HEr1.out (by have q0 := HHS.out; have q1 := HSa1.out; have q2 := HSb1.out; have q3 := HSc1.out; have q4 := HTt1.out; have q5 := HTt2.out; have q6 := HTt3.out; have q7 := HSd1.out; have q8 := HTt4.out; have q9 := HSf1.out; have q10 := HTt5.out; have q11 := HSo1.out; have q12 := HTt6.out; have q13 := HSr1.out; omega) (by have q0 := HHS.out; have q1 := HSa1.out; have q2 := HSb1.out; have q3 := HSc1.out; have q4 := HTt1.out; have q5 := HTt2.out; have q6 := HTt3.out; have q7 := HSd1.out; have q8 := HTt4.out; have q9 := HSf1.out; have q10 := HTt5.out; have q11 := HSo1.out; have q12 := HTt6.out; have q13 := HSr1.out; omega) (by have q0 := HHS.out; have q1 := HSa1.out; have q2 := HSb1.out; have q3 := HSc1.out; have q4 := HTt1.out; have q5 := HTt2.out; have q6 := HTt3.out; have q7 := HSd1.out; have q8 := HTt4.out; have q9 := HSf1.out; have q10 := HTt5.out; have q11 := HSo1.out; have q12 := HTt6.out; have q13 := HSr1.out; omega) (by have := HLr1.out; show mr1 ≤ 5000; omega) (by have := HMB.out; omega)
      go_wp2_with fail
      refine kt.mono ?_
      rintro e t7 ⟨rfl, o9, z9⟩
      replace HO := hid o9
      have HTt7 : Hid (y7.heap.size ≤ t7.heap.size) := z9.size
      clear kt o9 z9 HEr1 hf0
      go_wp2_with fail
      go_roundw
      case rel => exact ⟨j + 1, mm + 1 + 1 + 1 + 1 + 1 + 1 + 1, _, by omega, by omega, by go_num, HO⟩
      case measure => simp [intOf]; omega
    case neg =>
      have hjI : ¬ (j : Int) < 2 := by omega
      have kf := HO.out.finish (by omega)
      clear HO hlt
      go_wp2_with fail
      refine kf.mono ?_
      rintro e w4 ⟨rfl, hlm, hrm, hb4⟩
      have HB4 := hid hb4
      have HLM4 := hid (HLW.out w4 hb4)
      have HKW4 := HKW.out.below hb4
      have ks := stays_ a g m0 cap c key S C N D E s n S C N D E s n w4 hrm HKW4 HM4.out
      have e0 := hlm.c0
      have e1 := hlm.c1
      have e2 := hlm.c2
      have e3 := hlm.c3
      have e4 := hlm.c4
      have e5 := hlm.c5
      have e6 := hlm.c6
      have e7 := hlm.c7
      have i0 := HLM4.out.c0
      have i1 := HLM4.out.c1
      have i2 := HLM4.out.c2
      have i3 := HLM4.out.c3
      have i4 := HLM4.out.c4
      have i5 := HLM4.out.c5
      have i6 := HLM4.out.c6
      have i7 := HLM4.out.c7
      clear kf hlm hrm hb4 HKW4
      go_wp2_with fail
      refine ks.mono ?_
      rintro e w5 ⟨rfl, g5⟩
      have HB5 := hid (bel_bel HB4.out HB4.out.size g5)
      clear ks g5 e0 e1 e2 e3 e4 e5 e6 e7 i0 i1 i2 i3 i4 i5 i6 i7
      have k5 := known_ ll w5
      go_wp2_with fail
      refine k5.mono ?_
      rintro e w6 ⟨rfl, g6⟩
      have HB6 := hid (bel_bel HB5.out HB5.out.size g6)
      have HF : Hid (Below w.heap.size w w6) := HBW.out.trans ⟨HB6.out.os, HB6.out.tape, HB6.out.output, HB6.out.size, fun z hz => HB6.out.block z (by have := HBW.out.size; omega)⟩
      clear k5 g6
      go_wp2_with fail
      go_ret
      exact ⟨rfl, HF.out⟩
end Go.Proofs.YtbkeejapongmlaaGreatDoor.Kp
