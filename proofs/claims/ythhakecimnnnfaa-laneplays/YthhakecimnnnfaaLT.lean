import Derived.Test.YthhakecimnnnfaaLT0
import Derived.Deep.RegionWith
import Derived.Deep.CutRange
import Derived.Deep.RegionHeld3
namespace Go.Proofs.Ythhakecimnnnfaa
set_option maxRecDepth 100000
open Go.RowKit
set_option linter.unusedVariables false

theorem newL_ok (k : List Int) (S : Int) (hS : i64r S) : (newL k S).Ok ∧ (newL k S).k.length ≤ 32 := by
  unfold newL
  split
  · rename_i h
    have := of_decide_eq_true h
    exact ⟨⟨hS, by simp only [i64r]; omega, by simp only [i64r]; omega, by simp only [u64r]; omega, by simp only [u64r]; omega, by simp only [i64r]; omega, by simp only [i64r]; omega⟩, by show k.length ≤ 32; omega⟩
  · exact ⟨lzero_ok, by show ([] : List Int).length ≤ 32; simp⟩
set_option maxHeartbeats 16000000 in
/-- LanePlays. -/
theorem lanePlays_ (ll : LL) (a0 : Option Addr) (m0 c0 : Nat) (k0 : List Int) (S0 : Int) (ao : Option Addr) (no co : Nat) (ops : List Oz) (w : World) (hk : Bs w a0 m0 k0) (hm0 : m0 ≤ 140737488351232) (hS0 : i64r S0) (ho : Opl w ao no ops) :
    Calls Try.prog 8 #[.slice a0 m0 c0, .int .i64 S0, .slice ao no co] w fun e w' => e = .returned (.bool true) ∧ Below w.heap.size w w' := by
  have HK := hid hk
  have HO := hid ho
  have hnl := ho.len
  clear hk ho
  obtain ⟨hnok, hnlen⟩ := newL_ok k0 S0 hS0
  obtain ⟨R, hR⟩ : ∃ R, newL k0 S0 = R := ⟨_, rfl⟩
  rw [hR] at hnok hnlen
  obtain ⟨k1, S1, C1, N1, D1, E1, s1, n1⟩ := R
  obtain ⟨m1, hm1⟩ : ∃ z, k1.length = z := ⟨_, rfl⟩
  simp only [hm1] at hnlen
  go_enter Try.func8, Try.ntmps8
  go_wp2_with fail
  refine (known_ ll w).mono ?_
  rintro e w1 ⟨rfl, g1⟩
  have HB1 : Hid (Bw w w1) := g1
  clear g1
  have kx := ll.new a0 m0 c0 k0 S0 w1 (HK.out.below HB1.out) hm0 hS0
  go_wp2_with fail
  refine kx.mono ?_
  intro e y hy
  obtain ⟨az, cz, rfl, vz, gz⟩ := hy.use hR hm1
  have NL := lnew y az m1 cz S1 C1 N1 D1 E1 s1 n1
  have HL0 : Hid (Lp w (y.alloc (.cells #[.slice az m1 cz, .int .i64 S1, .int .i64 C1, .int .i64 N1, .int .u64 D1, .int .u64 E1, .int .i64 s1, .int .i64 n1] 27)) y.heap.size az m1 cz k1 S1 C1 N1 D1 E1 s1 n1) :=
    ⟨Lm.new y az m1 cz S1 C1 N1 D1 E1 s1 n1, (vz.wide (V' := fun x => x ≠ y.heap.size) fun x hx _ => by omega).step fun x hx _ _ => NL.block x hx, by omega, hnok, (HB1.out.on gz).on NL, by have h1 := Below.size HB1.out; have h2 := gz.size; omega⟩
  obtain ⟨w0, HW0⟩ : ∃ z, Hid (y.alloc (.cells #[.slice az m1 cz, .int .i64 S1, .int .i64 C1, .int .i64 N1, .int .u64 D1, .int .u64 E1, .int .i64 s1, .int .i64 n1] 27) = z) := ⟨_, rfl⟩
  obtain ⟨pl, HPL⟩ : ∃ z, Hid (y.heap.size = z) := ⟨_, rfl⟩
  rw [HW0.out] at HL0
  rw [HPL.out] at HL0
  clear kx hy vz gz NL
  go_upto_region 4 with fail
  rw [HW0.out, HPL.out]
  clear HW0 HPL
  have kx := dlc.new a0 m0 c0 k0 S0 w0 (HK.out.below HL0.out.bel) hm0 hS0
  go_wp2_with fail
  refine kx.mono ?_
  intro e y hy
  obtain ⟨ar, cr, rfl, vr, gr⟩ := hy.use hR hm1
  have NL := lnew y ar m1 cr S1 C1 N1 D1 E1 s1 n1
  have HL1 := hid (HL0.out.on (bel_bel (B := w0.heap.size) gr gr.size NL))
  have HR1 := hid (Lm.new y ar m1 cr S1 C1 N1 D1 E1 s1 n1)
  have HVR := hid (vr.step (w' := y.alloc (.cells #[.slice ar m1 cr, .int .i64 S1, .int .i64 C1, .int .i64 N1, .int .u64 D1, .int .u64 E1, .int .i64 s1, .int .i64 n1] 27)) fun x hx _ _ => NL.block x hx)
  obtain ⟨w2, HW0⟩ : ∃ z, Hid (y.alloc (.cells #[.slice ar m1 cr, .int .i64 S1, .int .i64 C1, .int .i64 N1, .int .u64 D1, .int .u64 E1, .int .i64 s1, .int .i64 n1] 27) = z) := ⟨_, rfl⟩
  obtain ⟨pr, HPR⟩ : ∃ z, Hid (y.heap.size = z) := ⟨_, rfl⟩
  rw [HW0.out] at HL1 HR1 HVR
  rw [HPR.out] at HR1
  clear kx hy vr gr NL HL0
  go_upto_region 5 with fail
  rw [HW0.out, HPR.out]
  clear HW0 HPR
  have hMx : m1 ≤ maxLen := by unfold maxLen; omega
  have ks := sameLane_ az ar m1 cz m1 cr k1 k1 S1 C1 N1 D1 E1 s1 n1 S1 C1 N1 D1 E1 s1 n1 w2 HL1.out.vs.bs HVR.out.bs hMx hMx
  rw [slE_self] at ks
  have e0 := HL1.out.lm.c0
  have e1 := HL1.out.lm.c1
  have e2 := HL1.out.lm.c2
  have e3 := HL1.out.lm.c3
  have e4 := HL1.out.lm.c4
  have e5 := HL1.out.lm.c5
  have e6 := HL1.out.lm.c6
  have e7 := HL1.out.lm.c7
  have f0 := HR1.out.c0
  have f1 := HR1.out.c1
  have f2 := HR1.out.c2
  have f3 := HR1.out.c3
  have f4 := HR1.out.c4
  have f5 := HR1.out.c5
  have f6 := HR1.out.c6
  have f7 := HR1.out.c7
  go_wp2_with fail
  refine ks.mono ?_
  rintro e w3 ⟨rfl, g3⟩
  have HL3 := hid (HL1.out.on g3)
  clear ks g3 HL1 HR1 HVR HB1 e0 f0 e1 f1 e2 f2 e3 f3 e4 f4 e5 f5 e6 f6 e7 f7
  go_wp2_with fail
  go_loopw [10] (fun i wr => ∃ (j : Nat) (a : Option Addr) (m c : Nat) (k : List Int) (S C N D E s n : Int), j ≤ no ∧ i = .int .i64 j ∧ Hid (Lp w wr pl a m c k S C N D E s n)) (fun i _ => no - (intOf i).toNat)
  case atStart => exact ⟨0, az, m1, cz, k1, S1, C1, N1, D1, E1, s1, n1, by omega, rfl, HL3⟩
  case round =>
    clear HL3 hnok hnlen hR hm1
    obtain ⟨j, a, m, c, k, S, C, N, D, E, s, n, hj, rfl, HL⟩ := hrel
    by_cases hlt : j < no ∧ (j : Int) < 2000
    case neg =>
      have kv := ll.valid a m c k S C N D E s n wr (Nat.le_trans HL.out.m (by unfold maxLen; omega)) HL.out.ok.s HL.out.ok.n
      obtain ⟨q, hq⟩ : ∃ q, lok m S C N s n = q := ⟨_, rfl⟩
      rw [hq] at kv
      have e0 := HL.out.lm.c0
      have e1 := HL.out.lm.c1
      have e2 := HL.out.lm.c2
      have e3 := HL.out.lm.c3
      have e4 := HL.out.lm.c4
      have e5 := HL.out.lm.c5
      have e6 := HL.out.lm.c6
      have e7 := HL.out.lm.c7
      have FIN : ∀ w4, Below wr.heap.size wr w4 → Calls Try.prog 11 #[.agg #[.slice a m c, .int .i64 S, .int .i64 C, .int .i64 N, .int .u64 D, .int .u64 E, .int .i64 s, .int .i64 n]] w4 fun e w' => e = .returned (.bool q) ∧ Below w4.heap.size w4 w' := fun w4 _ => by
        have h := dlc.valid a m c k S C N D E s n w4 (Nat.le_trans HL.out.m (by unfold maxLen; omega)) HL.out.ok.s HL.out.ok.n
        rw [hq] at h
        exact h
      have HQ := hid hq
      clear hq
      by_cases h1 : j < no
      · have hjI : (j : Int) < no := by omega
        have h2 : ¬ (j : Int) < 2000 := fun h => hlt ⟨h1, h⟩
        clear hlt
        go_wp2_with fail
        refine kv.mono ?_
        rintro e w4 ⟨rfl, g4⟩
        have HL4 := hid (HL.out.on g4)
        have kd := FIN w4 g4
        clear kv FIN g4 e0 e1 e2 e3 e4 e5 e6 e7
        have e0 := HL4.out.lm.c0
        have e1 := HL4.out.lm.c1
        have e2 := HL4.out.lm.c2
        have e3 := HL4.out.lm.c3
        have e4 := HL4.out.lm.c4
        have e5 := HL4.out.lm.c5
        have e6 := HL4.out.lm.c6
        have e7 := HL4.out.lm.c7
        go_wp2_with fail
        refine kd.mono ?_
        rintro e w5 ⟨rfl, g5⟩
        have HL5 := hid (HL4.out.on g5)
        clear kd g5 e0 e1 e2 e3 e4 e5 e6 e7
        cases q <;> (go_wp2_with fail; go_ret; exact ⟨rfl, HL5.out.bel⟩)
      · have hjI : ¬ (j : Int) < no := by omega
        clear hlt
        go_wp2_with fail
        refine kv.mono ?_
        rintro e w4 ⟨rfl, g4⟩
        have HL4 := hid (HL.out.on g4)
        have kd := FIN w4 g4
        clear kv FIN g4 e0 e1 e2 e3 e4 e5 e6 e7
        have e0 := HL4.out.lm.c0
        have e1 := HL4.out.lm.c1
        have e2 := HL4.out.lm.c2
        have e3 := HL4.out.lm.c3
        have e4 := HL4.out.lm.c4
        have e5 := HL4.out.lm.c5
        have e6 := HL4.out.lm.c6
        have e7 := HL4.out.lm.c7
        go_wp2_with fail
        refine kd.mono ?_
        rintro e w5 ⟨rfl, g5⟩
        have HL5 := hid (HL4.out.on g5)
        clear kd g5 e0 e1 e2 e3 e4 e5 e6 e7
        cases q <;> (go_wp2_with fail; go_ret; exact ⟨rfl, HL5.out.bel⟩)
    obtain ⟨hlt, h20⟩ := hlt
    have hjI : (j : Int) < no := by omega
    obtain ⟨b, off, rfl, hc⟩ : ∃ b off, ao = some ⟨b, off, none⟩ ∧ ∀ i, i < no → OpAt wr b (off + i * 7) (ops.getD i oz0) := by
      rcases (HO.out.on HL.out.bel).at' with h0 | h1
      · omega
      · exact h1
    have hx := hc j hlt
    obtain ⟨x, HX⟩ : ∃ x, Hid (ops.getD j oz0 = x) := ⟨_, rfl⟩
    rw [HX.out] at hx
    obtain ⟨⟨o0, o1, o2, o3, o4, o5, o6⟩, hox⟩ := hx
    obtain ⟨S', C', N', D', E', s', n', hok, kx⟩ := HL.out.step ll hox
    obtain ⟨kd, G, B, X, Y, T, U⟩ := x
    simp only at o0 o1 o2 o3 o4 o5 o6 kx
    have HOK := hid hok
    clear hc hox hok
    have BW0 : Bw wr { wr with drawn := wr.drawn + 1 } := Bw.drew wr
    have BW1 : Bw wr (wr.alloc (.cells #[.slice none 0 0, .int .i64 0, .int .i64 0, .int .i64 0, .int .u64 0, .int .u64 0, .int .i64 0, .int .i64 0] 27)).drew := Bw.on (Bw.on (Below.refl _ _) (lnew wr none 0 0 0 0 0 0 0 0 0)) (below_drew _)
    have HW1S : Hid ((wr.alloc (.cells #[.slice none 0 0, .int .i64 0, .int .i64 0, .int .i64 0, .int .u64 0, .int .u64 0, .int .i64 0, .int .i64 0] 27)).drew.heap.size = wr.heap.size + 1) := by show _ = _; simp [World.drew]
    have HPP : Hid (pl < wr.heap.size) := HL.out.lm.lt
    have HLZ0 : Hid (Lm (wr.alloc (.cells #[.slice none 0 0, .int .i64 0, .int .i64 0, .int .i64 0, .int .u64 0, .int .u64 0, .int .i64 0, .int .i64 0] 27)).drew wr.heap.size none 0 0 0 0 0 0 0 0 0) := (Lm.new wr none 0 0 0 0 0 0 0 0 0).kept (below_drew _)
    have e0 := HL.out.lm.c0
    have e1 := HL.out.lm.c1
    have e2 := HL.out.lm.c2
    have e3 := HL.out.lm.c3
    have e4 := HL.out.lm.c4
    have e5 := HL.out.lm.c5
    have e6 := HL.out.lm.c6
    have e7 := HL.out.lm.c7
    go_upto_region 11 with fail
    go_cut [11, 12] from 28 to 49 (fun v10 v12 wx => ∃ (pz : Nat) (a1 : Option Addr) (c1 : Nat), v10 = .pointer (some ⟨pz, 0, none⟩) ∧ v12 = .bool true ∧ Hid (Lm wx pz a1 m c1 S' C' N' D' E' s' n') ∧ Hid (Vs wx (fun x => x ≠ pl) a1 m c1 k) ∧ Hid (Bw wr wx) ∧ Hid (pz ≠ pl))
    case first =>
      go_region_held3 (fun wx => wx.cell? ⟨pl, 0, none⟩ = some (.slice a m c) ∧ wx.cell? ⟨pl, 1, none⟩ = some (.int .i64 S) ∧ wx.cell? ⟨pl, 2, none⟩ = some (.int .i64 C) ∧ wx.cell? ⟨pl, 3, none⟩ = some (.int .i64 N) ∧ wx.cell? ⟨pl, 4, none⟩ = some (.int .u64 D) ∧ wx.cell? ⟨pl, 5, none⟩ = some (.int .u64 E) ∧ wx.cell? ⟨pl, 6, none⟩ = some (.int .i64 s) ∧ wx.cell? ⟨pl, 7, none⟩ = some (.int .i64 n) ∧ wx.cell? ⟨b, off + j * 7, none⟩ = some (.int .i64 kd) ∧ wx.cell? ⟨b, off + j * 7 + 1, none⟩ = some (.int .i64 G) ∧ wx.cell? ⟨b, off + j * 7 + 2, none⟩ = some (.int .i64 B) ∧ wx.cell? ⟨b, off + j * 7 + 3, none⟩ = some (.int .u64 X) ∧ wx.cell? ⟨b, off + j * 7 + 4, none⟩ = some (.int .u64 Y) ∧ wx.cell? ⟨b, off + j * 7 + 5, none⟩ = some (.int .i64 T) ∧ wx.cell? ⟨b, off + j * 7 + 6, none⟩ = some (.int .i64 U)) (go_keep) (first | (go_at_call 32; refine (kx _ BW0).mono ?_; rintro en y5 ⟨a1, c1, rfl, v1, g1⟩; have G1 := Bw.on BW0 g1; have i0 := Bw.cell G1 e0; have i1 := Bw.cell G1 e1; have i2 := Bw.cell G1 e2; have i3 := Bw.cell G1 e3; have i4 := Bw.cell G1 e4; have i5 := Bw.cell G1 e5; have i6 := Bw.cell G1 e6; have i7 := Bw.cell G1 e7; have h0 := Bw.cell G1 o0; have h1 := Bw.cell G1 o1; have h2 := Bw.cell G1 o2; have h3 := Bw.cell G1 o3; have h4 := Bw.cell G1 o4; have h5 := Bw.cell G1 o5; have h6 := Bw.cell G1 o6; have HV1 := hid v1; have HG1 := hid g1; clear v1 g1) | (go_at_call 32; refine (kx _ BW1).mono ?_; rintro en y5 ⟨a1, c1, rfl, v1, g1⟩; have G1 := Bw.on BW1 g1; have i0 := Bw.cell G1 e0; have i1 := Bw.cell G1 e1; have i2 := Bw.cell G1 e2; have i3 := Bw.cell G1 e3; have i4 := Bw.cell G1 e4; have i5 := Bw.cell G1 e5; have i6 := Bw.cell G1 e6; have i7 := Bw.cell G1 e7; have h0 := Bw.cell G1 o0; have h1 := Bw.cell G1 o1; have h2 := Bw.cell G1 o2; have h3 := Bw.cell G1 o3; have h4 := Bw.cell G1 o4; have h5 := Bw.cell G1 o5; have h6 := Bw.cell G1 o6; have HV1 := hid v1; have HG1 := hid g1; have G8 : Bw wr _ := set8_bel (g := wr.heap.size) G1 (Nat.le_refl _) (.slice a1 m c1) (.int .i64 S') (.int .i64 C') (.int .i64 N') (.int .u64 D') (.int .u64 E') (.int .i64 s') (.int .i64 n'); have j0 := Bw.cell G8 e0; have j1 := Bw.cell G8 e1; have j2 := Bw.cell G8 e2; have j3 := Bw.cell G8 e3; have j4 := Bw.cell G8 e4; have j5 := Bw.cell G8 e5; have j6 := Bw.cell G8 e6; have j7 := Bw.cell G8 e7; have l0 := Bw.cell G8 o0; have l1 := Bw.cell G8 o1; have l2 := Bw.cell G8 o2; have l3 := Bw.cell G8 o3; have l4 := Bw.cell G8 o4; have l5 := Bw.cell G8 o5; have l6 := Bw.cell G8 o6; have HLZ := hid (HLZ0.out.kept g1); have zc0 := HLZ.out.c0; have zf0 := HLZ.out.fz 0; have zc1 := HLZ.out.c1; have zf1 := HLZ.out.fz 1; have zc2 := HLZ.out.c2; have zf2 := HLZ.out.fz 2; have zc3 := HLZ.out.c3; have zf3 := HLZ.out.fz 3; have zc4 := HLZ.out.c4; have zf4 := HLZ.out.fz 4; have zc5 := HLZ.out.c5; have zf5 := HLZ.out.fz 5; have zc6 := HLZ.out.c6; have zf6 := HLZ.out.fz 6; have zc7 := HLZ.out.c7; have zf7 := HLZ.out.fz 7; clear v1 g1))
      · go_wp2_with fail
        go_meet
        exact ⟨y5.heap.size, a1, c1, rfl, rfl, Lm.new y5 a1 m c1 S' C' N' D' E' s' n', (HV1.out.wide (V' := fun x => x ≠ pl) fun x _ hx => hx.1).step fun x hx _ _ => (lnew y5 a1 m c1 S' C' N' D' E' s' n').block x hx, Bw.on (Bw.on BW0 HG1.out) (lnew y5 a1 m c1 S' C' N' D' E' s' n'), by have h1 := HPP.out; have h2 := Below.size (Bw.on BW0 HG1.out); show y5.heap.size ≠ pl; omega⟩
      · go_wp2_with fail
        go_meet
        exact ⟨wr.heap.size, a1, c1, rfl, rfl, HLZ.out.set8 a1 m c1 S' C' N' D' E' s' n', (HV1.out.step fun x _ hx _ => set8_other (by have h1 := HW1S.out; omega) _ _ _ _ _ _ _ _).wide fun x _ hx => hx.1, set8_bel (Bw.on BW1 HG1.out) (Nat.le_refl _) _ _ _ _ _ _ _ _, by have h1 := HPP.out; show wr.heap.size ≠ pl; omega⟩
    obtain ⟨pz, a1, c1, rfl, rfl, HZ5, HV5, HB5, HPZ⟩ := hcut
    have HL5 := hid (HL.out.on HB5.out)
    have HS5 := hid (HL5.out.set HV5.out HOK.out)
    clear kx BW0 BW1 HW1S HLZ0 e0 e1 e2 e3 e4 e5 e6 e7 o0 o1 o2 o3 o4 o5 o6
    have e0 := HZ5.out.c0
    have e1 := HZ5.out.c1
    have e2 := HZ5.out.c2
    have e3 := HZ5.out.c3
    have e4 := HZ5.out.c4
    have e5 := HZ5.out.c5
    have e6 := HZ5.out.c6
    have e7 := HZ5.out.c7
    go_wp2_with (refine wpList_sln rfl rfl _ _ rfl pl a1 m c1 S' C' N' D' E' s' n' rfl rfl (by with_reducible exact HL5.out.lm) ?_)
    go_roundw
    case rel => exact ⟨j + 1, a1, m, c1, k, S', C', N', D', E', s', n', by omega, by go_num, HS5⟩
    case measure => simp [intOf]; omega
end Go.Proofs.Ythhakecimnnnfaa
