import Derived.Test.YtmbopaemnlikkaaLR0
import Derived.Deep.RegionWith
import Derived.Deep.CutRange
import Derived.Deep.RegionHeld3
namespace Go.Proofs.Ytmbopaemnlikkaa
set_option maxRecDepth 100000
open Go.RowKit
set_option linter.unusedVariables false

set_option maxHeartbeats 16000000 in
/-- LaneRises. -/
theorem laneRises_ (ll : LL) (a0 : Option Addr) (m0 c0 : Nat) (k0 : List Int) (S0 : Int) (ao : Option Addr) (no co : Nat) (ops : List Oz) (w : World) (hk : Bs w a0 m0 k0) (hm0 : m0 ≤ 140737488351232) (hS0 : i64r S0) (ho : Opl w ao no ops) :
    Calls Try.prog 3 #[.slice a0 m0 c0, .int .i64 S0, .slice ao no co] w fun e w' => e = .returned (.bool true) ∧ Below w.heap.size w w' := by
  have hkl : k0.length = m0 := hk.1
  have HK := hid hk
  have HO := hid ho
  have hnl := ho.len
  clear hk ho
  go_enter Try.func3, Try.ntmps3
  go_wp2_with fail
  refine (known_ ll w).mono ?_
  rintro e w1 ⟨rfl, g1⟩
  have HB1 : Hid (Bw w w1) := g1
  clear g1
  have kx := ll.new a0 m0 c0 k0 S0 w1 (HK.out.below HB1.out) hm0 hS0
  go_wp2_with fail
  refine kx.mono ?_
  intro e y hy
  clear kx
  by_cases hq : k0.length = 32 ∧ (S0 = 0 ∨ S0 = 1)
  case neg =>
    have eR : newL k0 S0 = ⟨[], 0, 0, 0, 0, 0, 0, 0⟩ := by unfold newL; rw [decide_eq_false hq]; rfl
    obtain ⟨az, cz, rfl, vz, gz⟩ := hy.use (m := 0) eR rfl
    have z2 := (Lm.new y az 0 cz 0 0 0 0 0 0 0).c2
    have HF : Hid (Below w.heap.size w (y.alloc (.cells #[.slice az 0 cz, .int .i64 0, .int .i64 0, .int .i64 0, .int .u64 0, .int .u64 0, .int .i64 0, .int .i64 0] 29))) := (HB1.out.on gz).on (lnew y az 0 cz 0 0 0 0 0 0 0)
    clear hy vz gz
    by_cases q1 : m0 = 32
    · subst q1
      by_cases q2 : S0 < 0
      · go_wp2_with fail
        all_goals (go_ret; first | exact ⟨rfl, HF.out⟩ | exact ⟨ret_bool (decide_eq_true (by omega)), HF.out⟩)
      · have q3 : 1 < S0 := by omega
        go_wp2_with fail
        all_goals (go_ret; first | exact ⟨rfl, HF.out⟩ | exact ⟨ret_bool (decide_eq_true (by omega)), HF.out⟩)
    · have q4 : ((m0 : Int) != 32) = true := bne_iff_ne.2 (by omega)
      go_wp2_with fail
      all_goals (go_ret; first | exact ⟨rfl, HF.out⟩ | exact ⟨ret_bool (decide_eq_true (by omega)), HF.out⟩)
  obtain ⟨hq1, hq2⟩ := hq
  have eR : newL k0 S0 = ⟨k0, S0, 1, 0, 0, 0, 0, 0⟩ := by unfold newL; rw [decide_eq_true ⟨hq1, hq2⟩]; rfl
  obtain ⟨az, cz, rfl, vz, gz⟩ := hy.use eR hq1
  obtain rfl : m0 = 32 := by omega
  have NL := lnew y az 32 cz S0 1 0 0 0 0 0
  have HL0 : Hid (Lh w (y.alloc (.cells #[.slice az 32 cz, .int .i64 S0, .int .i64 1, .int .i64 0, .int .u64 0, .int .u64 0, .int .i64 0, .int .i64 0] 29)) y.heap.size az cz k0 S0 1 0 0 0 0 0) :=
    ⟨Lm.new y az 32 cz S0 1 0 0 0 0 0, (vz.wide (V' := fun x => x ≠ y.heap.size) fun x hx _ => by omega).step fun x hx _ _ => NL.block x hx, lok_mk (by simp [vld]) hq1 hq2 (by show (1 : Int) ≤ 1; omega) (by show (1 : Int) ≤ 2147483647; omega) (by show (0 : Int) ≤ 0; omega) (by show (0 : Int) ≤ 2147483647; omega), by unfold u64r; omega, by unfold u64r; omega, by unfold i64r; omega, by unfold i64r; omega, (HB1.out.on gz).on NL, by have h1 := Below.size HB1.out; have h2 := gz.size; omega⟩
  obtain ⟨w0, HW0⟩ : ∃ z, Hid (y.alloc (.cells #[.slice az 32 cz, .int .i64 S0, .int .i64 1, .int .i64 0, .int .u64 0, .int .u64 0, .int .i64 0, .int .i64 0] 29) = z) := ⟨_, rfl⟩
  obtain ⟨pl, HPL⟩ : ∃ z, Hid (y.heap.size = z) := ⟨_, rfl⟩
  rw [HW0.out] at HL0
  rw [HPL.out] at HL0
  clear hy vz gz NL eR HB1
  go_upto_region 4 with fail
  rw [HW0.out, HPL.out]
  clear HW0 HPL
  have z2 := HL0.out.lm.c2
  go_wp2_with fail
  clear z2
  go_loopw [8, 9] (fun v i wr => ∃ (j : Nat) (lst : Int) (a : Option Addr) (c : Nat) (C N D E s n : Int), j ≤ no ∧ i = .int .i64 j ∧ v = .int .i64 lst ∧ Hid (Lh w wr pl a c k0 S0 C N D E s n) ∧ Hid (lst ≤ N)) (fun _ i _ => no - (intOf i).toNat)
  case atStart => exact ⟨0, 0, az, cz, 1, 0, 0, 0, 0, 0, by omega, rfl, rfl, HL0, Int.le_refl _⟩
  case round =>
    clear HL0
    obtain ⟨j, lst, a, c, C, N, D, E, s, n, hj, rfl, rfl, HL, HLS⟩ := hrel
    by_cases hlt : j < no
    case neg =>
      have hjI : ¬ (j : Int) < no := by omega
      go_wp2_with fail
      go_ret
      exact ⟨rfl, HL.out.bel⟩
    have hjI : (j : Int) < no := by omega
    by_cases h20 : (j : Int) < 2000
    case neg =>
      go_wp2_with fail
      go_ret
      exact ⟨rfl, HL.out.bel⟩
    obtain ⟨b, off, rfl, hc⟩ : ∃ b off, ao = some ⟨b, off, none⟩ ∧ ∀ i, i < no → OpAt wr b (off + i * 7) (ops.getD i oz0) := by
      rcases (HO.out.on HL.out.bel).at' with h0 | h1
      · omega
      · exact h1
    have hx := hc j hlt
    obtain ⟨x, HX⟩ : ∃ x, Hid (ops.getD j oz0 = x) := ⟨_, rfl⟩
    rw [HX.out] at hx
    obtain ⟨⟨o0, o1, o2, o3, o4, o5, o6⟩, hox⟩ := hx
    obtain ⟨C1, N1, D1, E1, s1, n1, hf, hnx, kx⟩ := HL.out.next ll hox
    obtain ⟨kd, G, B, X, Y, T, U⟩ := x
    simp only at o0 o1 o2 o3 o4 o5 o6 hf hnx kx
    obtain ⟨gv, hgv⟩ : ∃ z, nxG ⟨k0, S0, C, N, D, E, s, n⟩ kd G B X Y T U = z := ⟨_, rfl⟩
    obtain ⟨av, hav⟩ : ∃ z, nxA ⟨k0, S0, C, N, D, E, s, n⟩ kd G B X Y T U = z := ⟨_, rfl⟩
    rw [hgv] at hf
    simp only [hgv, hav] at kx
    have HF := hid hf
    have HOX := hid hox
    have HNX := hid hnx
    have HGV := hid hgv
    have HAV := hid hav
    have HO0 := hid o0
    have HO1 := hid o1
    have HO2 := hid o2
    have HO3 := hid o3
    clear hc hf hox hnx hgv hav
    have BW0 : Bw wr { wr with drawn := wr.drawn + 1 } := Bw.drew wr
    have BW1 : Bw wr (wr.alloc (.cells #[.slice none 0 0, .int .i64 0, .int .i64 0, .int .i64 0, .int .u64 0, .int .u64 0, .int .i64 0, .int .i64 0] 29)).drew := Bw.on (Bw.on (Below.refl _ _) (lnew wr none 0 0 0 0 0 0 0 0 0)) (below_drew _)
    have HW1S : Hid ((wr.alloc (.cells #[.slice none 0 0, .int .i64 0, .int .i64 0, .int .i64 0, .int .u64 0, .int .u64 0, .int .i64 0, .int .i64 0] 29)).drew.heap.size = wr.heap.size + 1) := by show _ = _; simp [World.drew]
    have HPP : Hid (pl < wr.heap.size) := HL.out.lm.lt
    have HLZ0 : Hid (Lm (wr.alloc (.cells #[.slice none 0 0, .int .i64 0, .int .i64 0, .int .i64 0, .int .u64 0, .int .u64 0, .int .i64 0, .int .i64 0] 29)).drew wr.heap.size none 0 0 0 0 0 0 0 0 0) := (Lm.new wr none 0 0 0 0 0 0 0 0 0).kept (below_drew _)
    have e0 := HL.out.lm.c0
    have e1 := HL.out.lm.c1
    have e2 := HL.out.lm.c2
    have e3 := HL.out.lm.c3
    have e4 := HL.out.lm.c4
    have e5 := HL.out.lm.c5
    have e6 := HL.out.lm.c6
    have e7 := HL.out.lm.c7
    go_upto_region 10 with fail
    go_cut [10, 11, 12] from 37 to 192 (fun v10 v11 v12 wx => ∃ (pz : Nat) (a1 : Option Addr) (c1 : Nat), v10 = .pointer (some ⟨pz, 0, none⟩) ∧ v11 = .int .i64 gv ∧ v12 = .int .u64 av ∧ Hid (Lm wx pz a1 32 c1 S0 C1 N1 D1 E1 s1 n1) ∧ Hid (Vs wx (fun x => x ≠ pl) a1 32 c1 k0) ∧ Hid (Bw wr wx) ∧ Hid (pz ≠ pl))
    case first =>
      go_region_held3 (fun wx => wx.cell? ⟨pl, 0, none⟩ = some (.slice a 32 c) ∧ wx.cell? ⟨pl, 1, none⟩ = some (.int .i64 S0) ∧ wx.cell? ⟨pl, 2, none⟩ = some (.int .i64 C) ∧ wx.cell? ⟨pl, 3, none⟩ = some (.int .i64 N) ∧ wx.cell? ⟨pl, 4, none⟩ = some (.int .u64 D) ∧ wx.cell? ⟨pl, 5, none⟩ = some (.int .u64 E) ∧ wx.cell? ⟨pl, 6, none⟩ = some (.int .i64 s) ∧ wx.cell? ⟨pl, 7, none⟩ = some (.int .i64 n) ∧ wx.cell? ⟨b, off + j * 7, none⟩ = some (.int .i64 kd) ∧ wx.cell? ⟨b, off + j * 7 + 1, none⟩ = some (.int .i64 G) ∧ wx.cell? ⟨b, off + j * 7 + 2, none⟩ = some (.int .i64 B) ∧ wx.cell? ⟨b, off + j * 7 + 3, none⟩ = some (.int .u64 X) ∧ wx.cell? ⟨b, off + j * 7 + 4, none⟩ = some (.int .u64 Y) ∧ wx.cell? ⟨b, off + j * 7 + 5, none⟩ = some (.int .i64 T) ∧ wx.cell? ⟨b, off + j * 7 + 6, none⟩ = some (.int .i64 U)) (go_keep) (first | (go_at_call 9; refine (kx _ BW0).mono ?_; rintro en y5 ⟨a1, c1, rfl, v1, g1⟩; have G1 := Bw.on BW0 g1; have i0 := Bw.cell G1 e0; have i1 := Bw.cell G1 e1; have i2 := Bw.cell G1 e2; have i3 := Bw.cell G1 e3; have i4 := Bw.cell G1 e4; have i5 := Bw.cell G1 e5; have i6 := Bw.cell G1 e6; have i7 := Bw.cell G1 e7; have h0 := Bw.cell G1 o0; have h1 := Bw.cell G1 o1; have h2 := Bw.cell G1 o2; have h3 := Bw.cell G1 o3; have h4 := Bw.cell G1 o4; have h5 := Bw.cell G1 o5; have h6 := Bw.cell G1 o6; have HV1 := hid v1; have HG1 := hid g1; clear v1 g1) | (go_at_call 9; refine (kx _ BW1).mono ?_; rintro en y5 ⟨a1, c1, rfl, v1, g1⟩; have G1 := Bw.on BW1 g1; have i0 := Bw.cell G1 e0; have i1 := Bw.cell G1 e1; have i2 := Bw.cell G1 e2; have i3 := Bw.cell G1 e3; have i4 := Bw.cell G1 e4; have i5 := Bw.cell G1 e5; have i6 := Bw.cell G1 e6; have i7 := Bw.cell G1 e7; have h0 := Bw.cell G1 o0; have h1 := Bw.cell G1 o1; have h2 := Bw.cell G1 o2; have h3 := Bw.cell G1 o3; have h4 := Bw.cell G1 o4; have h5 := Bw.cell G1 o5; have h6 := Bw.cell G1 o6; have HV1 := hid v1; have HG1 := hid g1; have G8 : Bw wr _ := set8_bel (g := wr.heap.size) G1 (Nat.le_refl _) (.slice a1 32 c1) (.int .i64 S0) (.int .i64 C1) (.int .i64 N1) (.int .u64 D1) (.int .u64 E1) (.int .i64 s1) (.int .i64 n1); have j0 := Bw.cell G8 e0; have j1 := Bw.cell G8 e1; have j2 := Bw.cell G8 e2; have j3 := Bw.cell G8 e3; have j4 := Bw.cell G8 e4; have j5 := Bw.cell G8 e5; have j6 := Bw.cell G8 e6; have j7 := Bw.cell G8 e7; have l0 := Bw.cell G8 o0; have l1 := Bw.cell G8 o1; have l2 := Bw.cell G8 o2; have l3 := Bw.cell G8 o3; have l4 := Bw.cell G8 o4; have l5 := Bw.cell G8 o5; have l6 := Bw.cell G8 o6; have HLZ := hid (HLZ0.out.kept g1); have zc0 := HLZ.out.c0; have zf0 := HLZ.out.fz 0; have zc1 := HLZ.out.c1; have zf1 := HLZ.out.fz 1; have zc2 := HLZ.out.c2; have zf2 := HLZ.out.fz 2; have zc3 := HLZ.out.c3; have zf3 := HLZ.out.fz 3; have zc4 := HLZ.out.c4; have zf4 := HLZ.out.fz 4; have zc5 := HLZ.out.c5; have zf5 := HLZ.out.fz 5; have zc6 := HLZ.out.c6; have zf6 := HLZ.out.fz 6; have zc7 := HLZ.out.c7; have zf7 := HLZ.out.fz 7; clear v1 g1))
      · go_wp2_with fail
        go_meet
        exact ⟨y5.heap.size, a1, c1, rfl, rfl, rfl, Lm.new y5 a1 32 c1 S0 C1 N1 D1 E1 s1 n1, (HV1.out.wide (V' := fun x => x ≠ pl) fun x _ hx => hx.1).step fun x hx _ _ => (lnew y5 a1 32 c1 S0 C1 N1 D1 E1 s1 n1).block x hx, Bw.on (Bw.on BW0 HG1.out) (lnew y5 a1 32 c1 S0 C1 N1 D1 E1 s1 n1), by have h1 := HPP.out; have h2 := Below.size (Bw.on BW0 HG1.out); show y5.heap.size ≠ pl; omega⟩
      · go_wp2_with fail
        go_meet
        exact ⟨wr.heap.size, a1, c1, rfl, rfl, rfl, HLZ.out.set8 a1 32 c1 S0 C1 N1 D1 E1 s1 n1, (HV1.out.step fun x _ hx _ => set8_other (by have h1 := HW1S.out; omega) _ _ _ _ _ _ _ _).wide fun x _ hx => hx.1, set8_bel (Bw.on BW1 HG1.out) (Nat.le_refl _) _ _ _ _ _ _ _ _, by have h1 := HPP.out; show wr.heap.size ≠ pl; omega⟩
    obtain ⟨pz, a1, c1, rfl, rfl, rfl, HZ5, HV5, HB5, HPZ⟩ := hcut

    have HL5 := hid (HL.out.on HB5.out)
    clear kx BW0 BW1 HW1S HLZ0 e0 e1 e2 e3 e4 e5 e6 e7 o0 o1 o2 o3 o4 o5 o6
    go_upto_region 11 with fail
    have kv := ll.valid a1 32 c1 k0 S0 C1 N1 D1 E1 s1 n1 wc (by unfold maxLen; omega) HF.out.s HF.out.n
    rw [show lok 32 S0 C1 N1 s1 n1 = true from by have h := HF.out.ok; unfold lokL at h; simp only [hq1] at h; exact h] at kv
    have e0 := HZ5.out.c0
    have e1 := HZ5.out.c1
    have e2 := HZ5.out.c2
    have e3 := HZ5.out.c3
    have e4 := HZ5.out.c4
    have e5 := HZ5.out.c5
    have e6 := HZ5.out.c6
    have e7 := HZ5.out.c7
    go_wp2_with fail
    refine kv.mono ?_
    rintro e w6 ⟨rfl, g6⟩
    have HL6 := hid (HL5.out.on g6)
    have HZ6 := hid (HZ5.out.kept g6)
    have HV6 := hid (HV5.out.step fun x hx _ _ => g6.block x hx)
    have HB6 : Hid (Bw wr w6) := HB5.out.on g6
    clear kv g6 HL5 HZ5 HV5 HB5 e0 e1 e2 e3 e4 e5 e6 e7
    have ks := same_d a1 a0 32 c1 32 c0 k0 k0 w6 HV6.out.bs (HK.out.below HL6.out.bel) (by unfold maxLen; omega) (by unfold maxLen; omega)
    rw [sameB_self] at ks
    have e0 := HZ6.out.c0
    go_wp2_with fail
    refine ks.mono ?_
    rintro e w7 ⟨rfl, g7⟩
    have HL7 := hid (HL6.out.on g7.below)
    have HZ7 := hid (HZ6.out.kept g7.below)
    have HV7 := hid (HV6.out.step fun x hx _ _ => g7.below.block x hx)
    have HB7 : Hid (Bw wr w7) := HB6.out.on g7.below
    clear ks g7 HL6 HZ6 HV6 HB6 e0
    have kw := sameLane_ a1 a 32 c1 32 c k0 k0 S0 C1 N1 D1 E1 s1 n1 S0 C N D E s n w7 HV7.out.bs HL7.out.vs.bs (by unfold maxLen; omega) (by unfold maxLen; omega)
    obtain ⟨q, hqq⟩ : ∃ q, slE k0 k0 S0 C1 N1 D1 E1 s1 n1 S0 C N D E s n = q := ⟨_, rfl⟩
    rw [hqq] at kw
    have HQ : Hid (q = false → (⟨k0, S0, C1, N1, D1, E1, s1, n1⟩ : Ln) ≠ ⟨k0, S0, C, N, D, E, s, n⟩) := fun h e => by
      rw [← hqq] at h
      injection e with _ _ x1 x2 x3 x4 x5 x6
      subst x1 x2 x3 x4 x5 x6
      simp [slE] at h
    have HQT : Hid (q = true → C1 = C ∧ N1 = N) := fun h => by
      rw [← hqq] at h
      have h := of_decide_eq_true (show decide _ = true from h)
      exact ⟨h.2.2.1, h.2.2.2.1⟩
    clear hqq
    have e0 := HZ7.out.c0
    have f0 := HL7.out.lm.c0
    have e1 := HZ7.out.c1
    have f1 := HL7.out.lm.c1
    have e2 := HZ7.out.c2
    have f2 := HL7.out.lm.c2
    have e3 := HZ7.out.c3
    have f3 := HL7.out.lm.c3
    have e4 := HZ7.out.c4
    have f4 := HL7.out.lm.c4
    have e5 := HZ7.out.c5
    have f5 := HL7.out.lm.c5
    have e6 := HZ7.out.c6
    have f6 := HL7.out.lm.c6
    have e7 := HZ7.out.c7
    have f7 := HL7.out.lm.c7
    go_wp2_with fail
    refine kw.mono ?_
    rintro e w8 ⟨rfl, g8⟩
    have HL8 := hid (HL7.out.on g8)
    have HZ8 := hid (HZ7.out.kept g8)
    have HV8 := hid (HV7.out.step fun x hx _ _ => g8.block x hx)
    have HB8 : Hid (Bw wr w8) := HB7.out.on g8
    clear kw g8 HL7 HZ7 HV7 HB7 e0 e1 e2 e3 e4 e5 e6 e7 f0 f1 f2 f3 f4 f5 f6 f7
    have k8 := HB8.out.cell HO0.out
    go_upto_region 15 with fail
    clear k8
    have F := HF.out
    have hC : C ≤ C1 := F.C
    have hN : N ≤ N1 := F.N
    have hsee : lss s1 n1 s n = false := F.seen
    have hC1 : ¬ C1 < C := by omega
    have hN1 : ¬ N1 < N := by omega
    have hSn : (S0 != S0) = false := by simp
    have ka1 := after_ s n s1 n1 w8
    rw [hsee] at ka1
    have e0 := HZ8.out.c0
    have f0 := HL8.out.lm.c0
    have e1 := HZ8.out.c1
    have f1 := HL8.out.lm.c1
    have e2 := HZ8.out.c2
    have f2 := HL8.out.lm.c2
    have e3 := HZ8.out.c3
    have f3 := HL8.out.lm.c3
    have e4 := HZ8.out.c4
    have f4 := HL8.out.lm.c4
    have e5 := HZ8.out.c5
    have f5 := HL8.out.lm.c5
    have e6 := HZ8.out.c6
    have f6 := HL8.out.lm.c6
    have e7 := HZ8.out.c7
    have f7 := HL8.out.lm.c7
    go_wp2_with fail
    refine ka1.mono ?_
    rintro e w9 ⟨rfl, g9⟩
    have HL9 := hid (HL8.out.on g9)
    have HZ9 := hid (HZ8.out.kept g9)
    have HV9 := hid (HV8.out.step fun x hx _ _ => g9.block x hx)
    clear ka1 g9 HL8 HZ8 HV8 HB8 e0 e1 e2 e3 e4 e5 e6 e7 f0 f1 f2 f3 f4 f5 f6 f7 hsee
    go_upto_region 17 with fail
    have e0 := HZ9.out.c0
    have f0 := HL9.out.lm.c0
    have e1 := HZ9.out.c1
    have f1 := HL9.out.lm.c1
    have e2 := HZ9.out.c2
    have f2 := HL9.out.lm.c2
    have e3 := HZ9.out.c3
    have f3 := HL9.out.lm.c3
    have e4 := HZ9.out.c4
    have f4 := HL9.out.lm.c4
    have e5 := HZ9.out.c5
    have f5 := HL9.out.lm.c5
    have e6 := HZ9.out.c6
    have f6 := HL9.out.lm.c6
    have e7 := HZ9.out.c7
    have f7 := HL9.out.lm.c7
    have HFIN : Hid (∀ (wz : World) (lst' : Int), Lh w wz pl a c k0 S0 C N D E s n → Vs wz (fun x => x ≠ pl) a1 32 c1 k0 → Lh w (wz.setRow pl #[.slice a1 32 c1, .int .i64 S0, .int .i64 C1, .int .i64 N1, .int .u64 D1, .int .u64 E1, .int .i64 s1, .int .i64 n1]) pl a1 c1 k0 S0 C1 N1 D1 E1 s1 n1) := fun wz lst' h hv => h.set hv HF.out.ok HF.out.D HF.out.E HF.out.s HF.out.n
    have ka2 := fun wx => after_ s1 n1 s n wx
    obtain ⟨q4, hq4⟩ : ∃ z, lss s n s1 n1 = z := ⟨_, rfl⟩
    simp only [hq4] at ka2
    have hturn := F.turns
    have hprop := F.props
    have hsees := F.sees
    have hgiv := F.giv
    simp only at hturn hprop hsees hgiv
    rw [hq4] at hsees
    have hLS := HLS.out
    clear F
    go_cut [123] from 37 to 192 (fun v wx => v = .bool false ∧ wx = w9)
    case first =>
      by_cases hCC : C1 = C
      · have hs2 := HF.out.same hCC
        simp only at hs2
        have hD2 : ¬ D1 < D := by omega
        have hE2 : ¬ E1 < E := by omega
        have hceq : (C1 == C) = true := by rw [hCC]; simp
        have HCC := hid hCC
        clear hCC
        go_wp2_with fail
        go_meet
        exact ⟨rfl, rfl⟩
      · have hceq : (C1 == C) = false := beq_eq_false_iff_ne.2 hCC
        go_wp2_with fail
        go_meet
        exact ⟨rfl, rfl⟩
    obtain ⟨rfl, hwc⟩ := hcut
    obtain rfl := hwc.symm
    go_upto_region 19 with fail
    obtain ⟨tq, HTQ⟩ : ∃ z, Hid (((kd == 1) || (kd == 4) || (kd == 5)) = z) := ⟨_, rfl⟩
    go_cut [17] from 37 to 192 (fun v wx => v = .bool tq ∧ wx = w9)
    case first =>
      cases hb1 : (kd == 1) with
      | true =>
        obtain rfl : true = tq := by rw [← HTQ.out, hb1]; rfl
        go_wp2_with fail
        go_meet
        exact ⟨rfl, rfl⟩
      | false =>
      cases hb4 : (kd == 4) with
      | true =>
        obtain rfl : true = tq := by rw [← HTQ.out, hb1, hb4]; rfl
        go_wp2_with fail
        go_meet
        exact ⟨rfl, rfl⟩
      | false =>
      cases hb5 : (kd == 5) with
      | true =>
        obtain rfl : true = tq := by rw [← HTQ.out, hb1, hb4, hb5]; rfl
        go_wp2_with fail
        go_meet
        exact ⟨rfl, rfl⟩
      | false =>
        obtain rfl : false = tq := by rw [← HTQ.out, hb1, hb4, hb5]; rfl
        go_wp2_with fail
        go_meet
        exact ⟨rfl, rfl⟩
    obtain ⟨rfl, hwc⟩ := hcut
    obtain rfl := hwc.symm
    go_upto_region 20 with fail
    have HTD : Hid (q = false → tq = decide (C < C1)) := fun hq => by
      have h := hturn (HQ.out hq)
      rw [← HTQ.out]
      by_cases h1 : C < C1
      · rw [decide_eq_true h1]
        rcases h.2 h1 with h2 | h2 | h2 <;> (rw [h2]; rfl)
      · rw [decide_eq_false h1]
        have h3 : ¬ (kd = 1 ∨ kd = 4 ∨ kd = 5) := fun e => h1 (h.1 e)
        rw [beq_eq_false_iff_ne.2 (fun e => h3 (.inl e)), beq_eq_false_iff_ne.2 (fun e => h3 (.inr (.inl e))), beq_eq_false_iff_ne.2 (fun e => h3 (.inr (.inr e)))]
        rfl
    have HPD : Hid (q = false → (kd == 3) = decide (N < N1)) := fun hq => by
      have h := hprop (HQ.out hq)
      by_cases h1 : N < N1
      · rw [decide_eq_true h1, h.2 h1]; rfl
      · rw [decide_eq_false h1]
        exact beq_eq_false_iff_ne.2 fun e => h1 (h.1 e)
    have HSD : Hid (q = false → (kd == 4) = q4) := fun hq => by
      have h := hsees (HQ.out hq)
      cases q4 with
      | true => rw [h.2 rfl]; rfl
      | false => exact beq_eq_false_iff_ne.2 fun e => by have := h.1 e; cases this
    go_cut [169] from 37 to 192 (fun v wx => v = .bool false ∧ Hid (Below w9.heap.size w9 wx))
    case first =>
      clear hturn hprop hsees hgiv
      cases q with
      | true =>
        simp only [Bool.not_true]
        go_wp2_with fail
        go_meet
        exact ⟨rfl, Below.refl _ _⟩
      | false =>
        simp only [Bool.not_false]
        have k1 := HTD.out rfl
        have k2 := HPD.out rfl
        have k3 := HSD.out rfl
        subst k1
        go_wp2_with (first | (go_at_call 13; refine (ka2 _).mono ?_; rintro en w10 ⟨rfl, g10⟩; have HG10 := hid g10; clear g10) | fail)
        go_meet
        exact ⟨rfl, HG10.out⟩
    obtain ⟨rfl, HB9⟩ := hcut
    replace HL9 := hid (HL9.out.on HB9.out)
    replace HZ9 := hid (HZ9.out.kept HB9.out)
    replace HV9 := hid (HV9.out.step fun x hx _ _ => HB9.out.block x hx)
    clear hturn hprop hsees HTD HPD HSD HTQ e0 e1 e2 e3 e4 e5 e6 e7 f0 f1 f2 f3 f4 f5 f6 f7
    go_upto_region 22 with fail
    have HS11 := hid (HFIN.out _ 0 HL9.out HV9.out)
    by_cases hg0 : 0 ≤ gv
    · obtain ⟨y1, y2, y3⟩ := hgiv hg0
      have y4 : ¬ gv ≤ C := by omega
      have y5' : ¬ gv ≤ lst := by omega
      have y6 : (gv != N1) = false := by rw [y3]; simp
      have HY3 := hid y3
      clear y3 hgiv
      have f2 := HL9.out.lm.c2
      have e3 := HZ9.out.c3
      go_upto_region 26 with fail
      clear f2 e3
      have e0 := HZ9.out.c0
      have e1 := HZ9.out.c1
      have e2 := HZ9.out.c2
      have e3 := HZ9.out.c3
      have e4 := HZ9.out.c4
      have e5 := HZ9.out.c5
      have e6 := HZ9.out.c6
      have e7 := HZ9.out.c7
      go_wp2_with (refine wpList_sln rfl rfl _ _ rfl pl a1 32 c1 S0 C1 N1 D1 E1 s1 n1 rfl rfl (by with_reducible exact HL9.out.lm) ?_)
      go_roundw
      case rel => exact ⟨j + 1, gv, a1, c1, C1, N1, D1, E1, s1, n1, by omega, by go_num, rfl, HS11, by have := HY3.out; show gv ≤ N1; omega⟩
      case measure => simp [intOf]; omega
    · clear hgiv
      have e0 := HZ9.out.c0
      have e1 := HZ9.out.c1
      have e2 := HZ9.out.c2
      have e3 := HZ9.out.c3
      have e4 := HZ9.out.c4
      have e5 := HZ9.out.c5
      have e6 := HZ9.out.c6
      have e7 := HZ9.out.c7
      go_wp2_with (refine wpList_sln rfl rfl _ _ rfl pl a1 32 c1 S0 C1 N1 D1 E1 s1 n1 rfl rfl (by with_reducible exact HL9.out.lm) ?_)
      go_roundw
      case rel => exact ⟨j + 1, lst, a1, c1, C1, N1, D1, E1, s1, n1, by omega, by go_num, rfl, HS11, by show lst ≤ N1; omega⟩
      case measure => simp [intOf]; omega
end Go.Proofs.Ytmbopaemnlikkaa
