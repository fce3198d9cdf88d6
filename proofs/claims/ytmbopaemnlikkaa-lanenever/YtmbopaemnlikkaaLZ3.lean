import Derived.Test.YtmbopaemnlikkaaLZ2
import Derived.Deep.RegionWith
import Derived.Deep.CutRange
import Derived.Deep.RegionHeld3
namespace Go.Proofs.Ytmbopaemnlikkaa
set_option maxRecDepth 100000
open Go.RowKit
set_option linter.unusedVariables false

structure Ics (w : World) (a : Option Addr) (n : Nat) (l : List Int) : Prop where
  len : l.length = n
  ok : ∀ i, i < n → i64r (l.getD i 0)
  at' : n = 0 ∨ ∃ b off, a = some ⟨b, off, none⟩ ∧ ∀ i, i < n → w.cell? ⟨b, off + i, none⟩ = some (.int .i64 (l.getD i 0))
set_option maxHeartbeats 16000000 in
/-- LaneNever. -/
theorem laneNever_ (ll : LL) (a0 : Option Addr) (m0 c0 : Nat) (k0 : List Int) (S0 : Int) (ao : Option Addr) (no co : Nat) (ops : List Oz) (ac : Option Addr) (nc cc : Nat) (cs : List Int) (w : World) (hk : Bs w a0 m0 k0) (hm0 : m0 ≤ 140737488351232) (hS0 : i64r S0) (ho : Opl w ao no ops) (hcs : Ics w ac nc cs) :
    Calls Try.prog 4 #[.slice a0 m0 c0, .int .i64 S0, .slice ao no co, .slice ac nc cc] w fun e w' => e = .returned (.bool true) ∧ Below w.heap.size w w' := by
  have hkl : k0.length = m0 := hk.1
  have HK := hid hk
  have HO := hid ho
  have HCS := hid hcs
  have hnl := ho.len
  clear hk ho hcs
  go_enter Try.func4, Try.ntmps4
  go_wp2_with fail
  refine (known_ ll w).mono ?_
  rintro e w1 ⟨rfl, g1⟩
  have HB1 : Hid (Bw w w1) := g1
  clear g1
  have kx := ll.new a0 m0 c0 k0 S0 w1 (HK.out.below HB1.out) hm0 hS0
  go_wp2_with fail
  refine kx.mono ?_
  intro e y hy
  clear kx
  by_cases hq : k0.length = 32 ∧ (S0 = 0 ∨ S0 = 1)
  case neg =>
    have eR : newL k0 S0 = ⟨[], 0, 0, 0, 0, 0, 0, 0⟩ := by unfold newL; rw [decide_eq_false hq]; rfl
    obtain ⟨az, cz, rfl, vz, gz⟩ := hy.use (m := 0) eR rfl
    have z2 := (Lm.new y az 0 cz 0 0 0 0 0 0 0).c2
    have HF : Hid (Below w.heap.size w (y.alloc (.cells #[.slice az 0 cz, .int .i64 0, .int .i64 0, .int .i64 0, .int .u64 0, .int .u64 0, .int .i64 0, .int .i64 0] 29))) := (HB1.out.on gz).on (lnew y az 0 cz 0 0 0 0 0 0 0)
    clear hy vz gz
    by_cases q1 : m0 = 32
    · subst q1
      by_cases q2 : S0 < 0
      · go_wp2_with fail
        all_goals (go_ret; first | exact ⟨rfl, HF.out⟩ | exact ⟨ret_bool (decide_eq_true (by omega)), HF.out⟩)
      · have q3 : 1 < S0 := by omega
        go_wp2_with fail
        all_goals (go_ret; first | exact ⟨rfl, HF.out⟩ | exact ⟨ret_bool (decide_eq_true (by omega)), HF.out⟩)
    · have q4 : ((m0 : Int) != 32) = true := bne_iff_ne.2 (by omega)
      go_wp2_with fail
      all_goals (go_ret; first | exact ⟨rfl, HF.out⟩ | exact ⟨ret_bool (decide_eq_true (by omega)), HF.out⟩)
  obtain ⟨hq1, hq2⟩ := hq
  have eR : newL k0 S0 = ⟨k0, S0, 1, 0, 0, 0, 0, 0⟩ := by unfold newL; rw [decide_eq_true ⟨hq1, hq2⟩]; rfl
  obtain ⟨az, cz, rfl, vz, gz⟩ := hy.use eR hq1
  obtain rfl : m0 = 32 := by omega
  have NL := lnew y az 32 cz S0 1 0 0 0 0 0
  have HL0 : Hid (Lh w (y.alloc (.cells #[.slice az 32 cz, .int .i64 S0, .int .i64 1, .int .i64 0, .int .u64 0, .int .u64 0, .int .i64 0, .int .i64 0] 29)) y.heap.size az cz k0 S0 1 0 0 0 0 0) :=
    ⟨Lm.new y az 32 cz S0 1 0 0 0 0 0, (vz.wide (V' := fun x => x ≠ y.heap.size) fun x hx _ => by omega).step fun x hx _ _ => NL.block x hx, lok_mk (by simp [vld]) hq1 hq2 (by show (1 : Int) ≤ 1; omega) (by show (1 : Int) ≤ 2147483647; omega) (by show (0 : Int) ≤ 0; omega) (by show (0 : Int) ≤ 2147483647; omega), by unfold u64r; omega, by unfold u64r; omega, by unfold i64r; omega, by unfold i64r; omega, (HB1.out.on gz).on NL, by have h1 := Below.size HB1.out; have h2 := gz.size; omega⟩
  obtain ⟨w0, HW0⟩ : ∃ z, Hid (y.alloc (.cells #[.slice az 32 cz, .int .i64 S0, .int .i64 1, .int .i64 0, .int .u64 0, .int .u64 0, .int .i64 0, .int .i64 0] 29) = z) := ⟨_, rfl⟩
  obtain ⟨pl, HPL⟩ : ∃ z, Hid (y.heap.size = z) := ⟨_, rfl⟩
  rw [HW0.out] at HL0
  rw [HPL.out] at HL0
  clear hy vz gz NL eR HB1
  go_upto_region 4 with fail
  rw [HW0.out, HPL.out]
  clear HW0 HPL
  have z2 := HL0.out.lm.c2
  have NB := bel_al' w0 (.cells #[.slice none 0 0, .slice none 0 0] 46)
  have HNQ : Hid (Nq w (w0.alloc (.cells #[.slice none 0 0, .slice none 0 0] 46)) pl w0.heap.size (.slice none 0 0) (.slice none 0 0) [] az cz k0 S0 1 0 0 0 0 0) := by
    have hpl := HL0.out.lm.lt
    refine ⟨HL0.out.on NB, ⟨heap_alloc_new w0 _, ug_nil _ _, uo_nil _ _, by simp [Value.ownBlock], by simp [Value.ownBlock], fun y e => by simp [Value.ownBlock] at e, HL0.out.bel.size⟩, ⟨by omega, by simp [Value.ownBlock], by simp [Value.ownBlock]⟩, (HL0.out.vs.andLt17.step fun x hx _ _ => NB.block x hx).wide fun x _ hx => ⟨hx.1, by have := hx.2; omega, by simp [Value.ownBlock], by simp [Value.ownBlock]⟩⟩
  obtain ⟨wb, HWB⟩ : ∃ z, Hid (w0.alloc (.cells #[.slice none 0 0, .slice none 0 0] 46) = z) := ⟨_, rfl⟩
  obtain ⟨pu, HPU⟩ : ∃ z, Hid (w0.heap.size = z) := ⟨_, rfl⟩
  rw [HWB.out] at HNQ
  rw [HPU.out] at HNQ
  clear NB
  go_upto_region 7 with fail
  rw [HWB.out, HPU.out]
  clear HWB HPU z2
  go_wp2_with fail
  go_loopw [11, 12] (fun u i wr => ∃ (t : Int) (j : Nat) (v1 v2 : Value) (P : List (Int × Int)) (a : Option Addr) (c : Nat) (C N D E s n : Int), u = .int .u64 t ∧ j ≤ no ∧ i = .int .i64 j ∧ Hid (P.length ≤ 8 * j) ∧ Hid (Nv C N D t P) ∧ Hid (Nq w wr pl pu v1 v2 P a c k0 S0 C N D E s n)) (fun _ i _ => no - (intOf i).toNat)
  case atStart => exact ⟨0, 0, _, _, [], az, cz, 1, 0, 0, 0, 0, 0, rfl, by omega, rfl, by show _ ≤ _; simp, nv_start _ _ _ (by omega), HNQ⟩
  case round =>
    clear HL0 HNQ
    obtain ⟨t, j, v1, v2, P, a, c, C, N, D, E, s, n, rfl, hj, rfl, HPL, HNV, HC⟩ := hrel
    by_cases hlt : j < no
    case neg =>
      have hjI : ¬ (j : Int) < no := by omega
      go_wp2_with fail
      go_ret
      exact ⟨rfl, HC.out.lh.bel⟩
    have hjI : (j : Int) < no := by omega
    by_cases h20 : (j : Int) < 2000
    case neg =>
      go_wp2_with fail
      go_ret
      exact ⟨rfl, HC.out.lh.bel⟩
    have HL := hid HC.out.lh
    obtain ⟨b, off, rfl, hc⟩ : ∃ b off, ao = some ⟨b, off, none⟩ ∧ ∀ i, i < no → OpAt wr b (off + i * 7) (ops.getD i oz0) := by
      rcases (HO.out.on HL.out.bel).at' with h0 | h1
      · omega
      · exact h1
    have hx := hc j hlt
    obtain ⟨x, HX⟩ : ∃ x, Hid (ops.getD j oz0 = x) := ⟨_, rfl⟩
    rw [HX.out] at hx
    obtain ⟨⟨o0, o1, o2, o3, o4, o5, o6⟩, hox⟩ := hx
    obtain ⟨C1, N1, D1, E1, s1, n1, hf, hnx, kx⟩ := HC.out.next ll hox
    obtain ⟨kd, G, B, X, Y, T, U⟩ := x
    simp only at o0 o1 o2 o3 o4 o5 o6 hf hnx kx
    obtain ⟨gv, hgv⟩ : ∃ z, nxG ⟨k0, S0, C, N, D, E, s, n⟩ kd G B X Y T U = z := ⟨_, rfl⟩
    obtain ⟨av, hav⟩ : ∃ z, nxA ⟨k0, S0, C, N, D, E, s, n⟩ kd G B X Y T U = z := ⟨_, rfl⟩
    rw [hgv] at hf
    simp only [hgv, hav] at kx
    have HF := hid hf
    have HOX := hid hox
    have HNX := hid hnx
    have HGV := hid hgv
    have HAV := hid hav
    have HO0 := hid o0
    have HO1 := hid o1
    have HO2 := hid o2
    have HO3 := hid o3
    clear hc hf hox hnx hgv hav
    have BW0 : Bw wr { wr with drawn := wr.drawn + 1 } := Bw.drew wr
    have BW1 : Bw wr (wr.alloc (.cells #[.slice none 0 0, .int .i64 0, .int .i64 0, .int .i64 0, .int .u64 0, .int .u64 0, .int .i64 0, .int .i64 0] 29)).drew := Bw.on (Bw.on (Below.refl _ _) (lnew wr none 0 0 0 0 0 0 0 0 0)) (below_drew _)
    have HW1S : Hid ((wr.alloc (.cells #[.slice none 0 0, .int .i64 0, .int .i64 0, .int .i64 0, .int .u64 0, .int .u64 0, .int .i64 0, .int .i64 0] 29)).drew.heap.size = wr.heap.size + 1) := by show _ = _; simp [World.drew]
    have HPP : Hid (pl < wr.heap.size) := HL.out.lm.lt
    have HLZ0 : Hid (Lm (wr.alloc (.cells #[.slice none 0 0, .int .i64 0, .int .i64 0, .int .i64 0, .int .u64 0, .int .u64 0, .int .i64 0, .int .i64 0] 29)).drew wr.heap.size none 0 0 0 0 0 0 0 0 0) := (Lm.new wr none 0 0 0 0 0 0 0 0 0).kept (below_drew _)
    have e0 := HL.out.lm.c0
    have e1 := HL.out.lm.c1
    have e2 := HL.out.lm.c2
    have e3 := HL.out.lm.c3
    have e4 := HL.out.lm.c4
    have e5 := HL.out.lm.c5
    have e6 := HL.out.lm.c6
    have e7 := HL.out.lm.c7
    go_upto_region 11 with fail
    go_cut [13, 14, 15] from 39 to 140 (fun v10 v11 v12 wx => ∃ (pz : Nat) (a1 : Option Addr) (c1 : Nat), v10 = .pointer (some ⟨pz, 0, none⟩) ∧ v11 = .int .i64 gv ∧ v12 = .int .u64 av ∧ Hid (Lm wx pz a1 32 c1 S0 C1 N1 D1 E1 s1 n1) ∧ Hid (Vs wx (fun x => x ≠ pl ∧ Nb v1 v2 pu x) a1 32 c1 k0) ∧ Hid (Bw wr wx) ∧ Hid (wr.heap.size ≤ pz))
    case first =>
      go_region_held3 (fun wx => wx.cell? ⟨pl, 0, none⟩ = some (.slice a 32 c) ∧ wx.cell? ⟨pl, 1, none⟩ = some (.int .i64 S0) ∧ wx.cell? ⟨pl, 2, none⟩ = some (.int .i64 C) ∧ wx.cell? ⟨pl, 3, none⟩ = some (.int .i64 N) ∧ wx.cell? ⟨pl, 4, none⟩ = some (.int .u64 D) ∧ wx.cell? ⟨pl, 5, none⟩ = some (.int .u64 E) ∧ wx.cell? ⟨pl, 6, none⟩ = some (.int .i64 s) ∧ wx.cell? ⟨pl, 7, none⟩ = some (.int .i64 n) ∧ wx.cell? ⟨b, off + j * 7, none⟩ = some (.int .i64 kd) ∧ wx.cell? ⟨b, off + j * 7 + 1, none⟩ = some (.int .i64 G) ∧ wx.cell? ⟨b, off + j * 7 + 2, none⟩ = some (.int .i64 B) ∧ wx.cell? ⟨b, off + j * 7 + 3, none⟩ = some (.int .u64 X) ∧ wx.cell? ⟨b, off + j * 7 + 4, none⟩ = some (.int .u64 Y) ∧ wx.cell? ⟨b, off + j * 7 + 5, none⟩ = some (.int .i64 T) ∧ wx.cell? ⟨b, off + j * 7 + 6, none⟩ = some (.int .i64 U)) (go_keep) (first | (go_at_call 9; refine (kx _ BW0).mono ?_; rintro en y5 ⟨a1, c1, rfl, v1, g1⟩; have G1 := Bw.on BW0 g1; have i0 := Bw.cell G1 e0; have i1 := Bw.cell G1 e1; have i2 := Bw.cell G1 e2; have i3 := Bw.cell G1 e3; have i4 := Bw.cell G1 e4; have i5 := Bw.cell G1 e5; have i6 := Bw.cell G1 e6; have i7 := Bw.cell G1 e7; have h0 := Bw.cell G1 o0; have h1 := Bw.cell G1 o1; have h2 := Bw.cell G1 o2; have h3 := Bw.cell G1 o3; have h4 := Bw.cell G1 o4; have h5 := Bw.cell G1 o5; have h6 := Bw.cell G1 o6; have HV1 := hid v1; have HG1 := hid g1; clear v1 g1) | (go_at_call 9; refine (kx _ BW1).mono ?_; rintro en y5 ⟨a1, c1, rfl, v1, g1⟩; have G1 := Bw.on BW1 g1; have i0 := Bw.cell G1 e0; have i1 := Bw.cell G1 e1; have i2 := Bw.cell G1 e2; have i3 := Bw.cell G1 e3; have i4 := Bw.cell G1 e4; have i5 := Bw.cell G1 e5; have i6 := Bw.cell G1 e6; have i7 := Bw.cell G1 e7; have h0 := Bw.cell G1 o0; have h1 := Bw.cell G1 o1; have h2 := Bw.cell G1 o2; have h3 := Bw.cell G1 o3; have h4 := Bw.cell G1 o4; have h5 := Bw.cell G1 o5; have h6 := Bw.cell G1 o6; have HV1 := hid v1; have HG1 := hid g1; have G8 : Bw wr _ := set8_bel (g := wr.heap.size) G1 (Nat.le_refl _) (.slice a1 32 c1) (.int .i64 S0) (.int .i64 C1) (.int .i64 N1) (.int .u64 D1) (.int .u64 E1) (.int .i64 s1) (.int .i64 n1); have j0 := Bw.cell G8 e0; have j1 := Bw.cell G8 e1; have j2 := Bw.cell G8 e2; have j3 := Bw.cell G8 e3; have j4 := Bw.cell G8 e4; have j5 := Bw.cell G8 e5; have j6 := Bw.cell G8 e6; have j7 := Bw.cell G8 e7; have l0 := Bw.cell G8 o0; have l1 := Bw.cell G8 o1; have l2 := Bw.cell G8 o2; have l3 := Bw.cell G8 o3; have l4 := Bw.cell G8 o4; have l5 := Bw.cell G8 o5; have l6 := Bw.cell G8 o6; have HLZ := hid (HLZ0.out.kept g1); have zc0 := HLZ.out.c0; have zf0 := HLZ.out.fz 0; have zc1 := HLZ.out.c1; have zf1 := HLZ.out.fz 1; have zc2 := HLZ.out.c2; have zf2 := HLZ.out.fz 2; have zc3 := HLZ.out.c3; have zf3 := HLZ.out.fz 3; have zc4 := HLZ.out.c4; have zf4 := HLZ.out.fz 4; have zc5 := HLZ.out.c5; have zf5 := HLZ.out.fz 5; have zc6 := HLZ.out.c6; have zf6 := HLZ.out.fz 6; have zc7 := HLZ.out.c7; have zf7 := HLZ.out.fz 7; clear v1 g1))
      · go_wp2_with fail
        go_meet
        exact ⟨y5.heap.size, a1, c1, rfl, rfl, rfl, Lm.new y5 a1 32 c1 S0 C1 N1 D1 E1 s1 n1, (HV1.out.wide (V' := fun x => x ≠ pl ∧ Nb v1 v2 pu x) fun x _ hx => hx.1).step fun x hx _ _ => (lnew y5 a1 32 c1 S0 C1 N1 D1 E1 s1 n1).block x hx, Bw.on (Bw.on BW0 HG1.out) (lnew y5 a1 32 c1 S0 C1 N1 D1 E1 s1 n1), by have h2 := Below.size (Bw.on BW0 HG1.out); exact h2⟩
      · go_wp2_with fail
        go_meet
        exact ⟨wr.heap.size, a1, c1, rfl, rfl, rfl, HLZ.out.set8 a1 32 c1 S0 C1 N1 D1 E1 s1 n1, (HV1.out.step fun x _ hx _ => set8_other (by have h1 := HW1S.out; omega) _ _ _ _ _ _ _ _).wide fun x _ hx => hx.1, set8_bel (Bw.on BW1 HG1.out) (Nat.le_refl _) _ _ _ _ _ _ _ _, Nat.le_refl _⟩
    obtain ⟨pz, a1, c1, rfl, rfl, rfl, HZ5, HV5, HB5, HPZ⟩ := hcut

    have HL5 := hid (HL.out.on HB5.out)
    clear kx BW0 BW1 HW1S HLZ0 e0 e1 e2 e3 e4 e5 e6 e7 o0 o1 o2 o3 o4 o5 o6
    go_upto_region 12 with fail
    have NN := nx_never (kd := kd) (G := G) (B := B) (Y := Y) HC.out.lh.ok HC.out.lh.D HC.out.lh.E HC.out.lh.s HC.out.lh.n HOX.out.X HOX.out.T HOX.out.U
    rw [HNX.out, HGV.out, HAV.out] at NN
    have HNN := hid NN
    have HFN : Hid (N ≤ N1) := HF.out.N
    have HNR : Hid (Nr w wc pl pz pu v1 v2 P a c k0 S0 C N D E s n a1 c1 C1 N1 D1 E1 s1 n1) := ⟨HC.out.on HB5.out, HZ5.out, HC.out.bu.far HPZ.out, HV5.out⟩
    have HOW : Hid (w.cell? ⟨b, off + j * 7, none⟩ = some (.int .i64 kd)) := by
      rcases HO.out.at' with h0 | ⟨b', off', e, hc'⟩
      · omega
      · obtain ⟨rfl, rfl⟩ : b = b' ∧ off = off' := by simpa using e
        have h := (hc' j hlt).1.1
        rw [HX.out] at h
        exact h
    have HP0 : Hid (P.length ≤ 50000) := by have h5 := HPL.out; show _ ≤ _; omega
    clear NN HC HL HL5 HZ5 HV5 HB5 HPZ HO0 HO1 HO2 HO3 HNX HGV HAV HPP
    go_cut [66] from 39 to 140 (fun u wx => ∃ (u1 u2 : Value) (P1 : List (Int × Int)), u = .bool false ∧ Hid (P1.length ≤ 8 * j + 1 ∧ Nv C N1 D t P1 ∧ Nr w wx pl pz pu u1 u2 P1 a c k0 S0 C N D E s n a1 c1 C1 N1 D1 E1 s1 n1))
    case first =>
      by_cases hg0 : 0 ≤ gv
      · obtain ⟨g1, g2, g3, g4⟩ := HNN.out.giv hg0
        simp only at g1 g2 g3 g4
        have hq := HNV.out.propose g2 g3
        have ku := use_ w pu v1 v2 P gv 0 wc HNR.out.q.bu hq.1 HP0.out HNR.out.q.lh.bel.size
        have HQ2 := hid hq.2
        have HG4 := hid g4
        clear g1 g2 g3 g4 hq
        go_wp2_with fail
        refine ku.mono ?_
        intro e w7 hu
        obtain rfl := hu.e
        obtain ⟨u1, u2, hr⟩ := HNR.out.used hu
        have HR7 := hid hr
        clear ku hu hr
        go_wp2_with fail
        go_meet
        exact ⟨u1, u2, _, rfl, by have := HPL.out; simp; omega, by rw [← HG4.out]; exact HQ2.out, HR7.out⟩
      · go_wp2_with fail
        go_meet
        exact ⟨v1, v2, P, rfl, by have := HPL.out; omega, HNV.out.stay HFN.out (Int.le_refl _), HNR.out⟩
    obtain ⟨u1, u2, P1, rfl, HS6⟩ := hcut
    clear HNV HNR HP0 HPL
    have e2 := HS6.out.2.2.z.c2
    have f2 := HS6.out.2.2.q.lh.lm.c2
    obtain ⟨qq, hqq⟩ : ∃ z, (C1 != C) = z := ⟨_, rfl⟩
    go_upto_if 71 with fail
    clear e2 f2
    have HQQ := hid hqq
    clear hqq
    go_cut [11] from 39 to 140 (fun u wx => ∃ (t1 : Int) (x1 x2 : Value) (P2 : List (Int × Int)), u = .int .u64 t1 ∧ Hid (P2.length ≤ 8 * j + 2 ∧ Nv C1 N1 D1 t1 P2 ∧ Nr w wx pl pz pu x1 x2 P2 a c k0 S0 C N D E s n a1 c1 C1 N1 D1 E1 s1 n1))
    case first =>
      cases qq with
      | false =>
        have HCC : Hid (C1 = C) := by have h := HQQ.out; show _ = _; simpa using h
        go_wp2_with fail
        go_meet
        exact ⟨t, u1, u2, P1, rfl, by have := HS6.out.1; omega, by have h8 := (HNN.out.stay HCC.out).2; simp only at h8; rw [HCC.out]; exact HS6.out.2.1.stay (Int.le_refl _) h8, HS6.out.2.2⟩
      | true =>
        have hnc : C1 ≠ C := by have h := HQQ.out; simpa using h
        obtain ⟨k1, k2, k3⟩ := HNN.out.turn hnc
        simp only at k1 k2 k3
        have HK2 := hid k2
        clear hnc k2
        have o0 := cell_on17 HOW.out HS6.out.2.2.q.lh.bel
        rcases k3 with ⟨kk, k4, k5⟩ | ⟨kk, k4, k5⟩ | ⟨kk, k4⟩
        · have b4 : (kd == 4) = false := by rw [kk]; rfl
          have b5 : (kd == 5) = false := by rw [kk]; rfl
          have HNA := hid (HS6.out.2.1.again (C' := C1) (D' := D1) k1 (by have := HK2.out; omega) (by omega))
          clear kk k1 k4 k5
          go_wp2_with fail
          go_meet
          exact ⟨0, u1, u2, P1, rfl, by have := HS6.out.1; omega, HNA.out, HS6.out.2.2⟩
        · have b4 : (kd == 4) = true := by rw [kk]; rfl
          have b5 : (kd == 5) = false := by rw [kk]; rfl
          have hq := HS6.out.2.1.answered (C' := C1) (D' := D1) (u := av) k1 (by rw [k4, HK2.out]) k5
          have hav : 0 ≤ av ∧ av ≤ 1 := by rw [k4]; split <;> omega
          have hnd : ¬ D1 ≤ av := by omega
          have hdd : decide (D1 ≤ av) = false := decide_eq_false hnd
          have hwr : (av + 1) % 18446744073709551616 = av + 1 := by omega
          have ku := use_ w pu u1 u2 P1 C1 av wc HS6.out.2.2.q.bu hq.1 (by have := HS6.out.1; omega) HS6.out.2.2.q.lh.bel.size
          have HQ2 := hid hq.2
          have e2 := HS6.out.2.2.z.c2
          have e4 := HS6.out.2.2.z.c4
          have HAV2 := hid hav
          clear kk k1 k4 k5 hq hav
          go_wp2_with fail
          refine ku.mono ?_
          intro e w7 hu
          obtain rfl := hu.e
          obtain ⟨y1, y2, hr⟩ := HS6.out.2.2.used hu
          have HR7 := hid hr
          have o1 := cell_on17 HOW.out HR7.out.q.lh.bel
          clear ku hu hr e2 e4 o0
          go_wp2_with fail
          go_meet
          exact ⟨av + 1, y1, y2, _, rfl, by have := HS6.out.1; simp; omega, HQ2.out, HR7.out⟩
        · have b4 : (kd == 4) = false := by rw [kk]; rfl
          have b5 : (kd == 5) = true := by rw [kk]; rfl
          have HNA := hid (HS6.out.2.1.opened (C' := C1) (D' := D1) k1 k4)
          clear kk k1 k4
          go_wp2_with fail
          go_meet
          exact ⟨1, u1, u2, P1, rfl, by have := HS6.out.1; omega, HNA.out, HS6.out.2.2⟩
    obtain ⟨t1, x1, x2, P2, rfl, HS7⟩ := hcut
    clear HS6 HQQ HNN
    have HQ6 := hid (HS7.out.2.2.take HF.out.ok HF.out.D HF.out.E HF.out.s HF.out.n)
    have HV6 := hid HS7.out.2.1
    have HP6 : Hid (P2.length ≤ 8 * j + 2) := HS7.out.1
    have e0 := HS7.out.2.2.z.c0
    have e1 := HS7.out.2.2.z.c1
    have e2 := HS7.out.2.2.z.c2
    have e3 := HS7.out.2.2.z.c3
    have e4 := HS7.out.2.2.z.c4
    have e5 := HS7.out.2.2.z.c5
    have e6 := HS7.out.2.2.z.c6
    have e7 := HS7.out.2.2.z.c7
    obtain ⟨w6, HW6⟩ : ∃ y, Hid (wc.setRow pl #[.slice a1 32 c1, .int .i64 S0, .int .i64 C1, .int .i64 N1, .int .u64 D1, .int .u64 E1, .int .i64 s1, .int .i64 n1] = y) := ⟨_, rfl⟩
    rw [HW6.out] at HQ6
    go_upto_region 23 with (refine wpList_sln rfl rfl _ _ rfl pl a1 32 c1 S0 C1 N1 D1 E1 s1 n1 rfl rfl (by with_reducible exact HS7.out.2.2.q.lh.lm) ?_)
    rw [HW6.out]
    clear HW6 HS7 e0 e1 e2 e3 e4 e5 e6 e7
    have hD64 := HF.out.D
    simp only at hD64
    by_cases hju : j < nc
    case neg =>
      have hjuI : ¬ (j : Int) < nc := by omega
      have hjuL : (nc : Int) ≤ j := by omega
      go_wp2_with fail
      go_roundw
      case rel => exact ⟨t1, j + 1, x1, x2, P2, a1, c1, C1, N1, D1, E1, s1, n1, rfl, by omega, by go_num, by have h5 := HP6.out; show _ ≤ _; omega, HV6, HQ6⟩
      case measure => simp [intOf]; omega
    have hjuI : ¬ (nc : Int) ≤ j := by omega
    have hjuJ : (j : Int) < nc := by omega
    obtain ⟨bc, oc, rfl, hcm⟩ : ∃ bc oc, ac = some ⟨bc, oc, none⟩ ∧ w.cell? ⟨bc, oc + j, none⟩ = some (.int .i64 (cs.getD j 0)) := by
      rcases HCS.out.at' with h0 | ⟨bc, oc, e, hc⟩
      · omega
      · exact ⟨bc, oc, e, hc j hju⟩
    obtain ⟨cj, Hcj⟩ : ∃ z, Hid (cs.getD j 0 = z) := ⟨_, rfl⟩
    rw [Hcj.out] at hcm
    have HCM := hid hcm
    clear hcm
    have cm := cell_on17 HCM.out HQ6.out.lh.bel
    obtain ⟨qn, hqn⟩ : ∃ z, decide (cj < 0) = z := ⟨_, rfl⟩
    go_upto_if 107 with fail
    have HQN := hid hqn
    clear hqn cm
    go_cut [11] from 39 to 140 (fun u wx => ∃ t2 : Int, u = .int .u64 t2 ∧ wx = w6 ∧ Hid (Nv C1 N1 D1 t2 P2))
    case first =>
      have d4 := HQ6.out.lh.lm.c4
      cases qn with
      | true =>
        go_wp2_with fail
        go_meet
        exact ⟨D1, rfl, rfl, HV6.out.skip⟩
      | false =>
        go_wp2_with fail
        go_meet
        exact ⟨t1, rfl, rfl, HV6.out⟩
    obtain ⟨t2, rfl, hwc, HV7⟩ := hcut
    obtain rfl := hwc.symm
    clear HV6 HQN
    go_wp2_with fail
    go_loopw [11, 16] (fun u i wr2 => ∃ (t3 : Int) (r : Nat) (y1 y2 : Value) (P3 : List (Int × Int)), u = .int .u64 t3 ∧ i = .int .i64 r ∧ r ≤ 6 ∧ Hid (P3.length ≤ 8 * j + 2 + r) ∧ Hid (Nv C1 N1 D1 t3 P3) ∧ Hid (Nq w wr2 pl pu y1 y2 P3 a1 c1 k0 S0 C1 N1 D1 E1 s1 n1)) (fun _ i _ => 6 - (intOf i).toNat)
    case atStart => exact ⟨t2, 0, x1, x2, P2, rfl, rfl, by omega, by have h5 := HP6.out; show _ ≤ _; omega, HV7, HQ6⟩
    case round =>
      clear HV7 HQ6 HP6
      obtain ⟨t3, r, y1, y2, P3, rfl, rfl, hr6, HP3, HV3, HQ3⟩ := hrel
      have cm := cell_on17 HCM.out HQ3.out.lh.bel
      have d4 := HQ3.out.lh.lm.c4
      have d2 := HQ3.out.lh.lm.c2
      by_cases hok : (r : Int) < cj ∧ (r : Int) < 6 ∧ t3 < D1
      · obtain ⟨q1, q2, q3⟩ := hok
        have hq := HV3.out.use q3
        have hlo := HV3.out.lo
        have ku := use_ w pu y1 y2 P3 C1 t3 _ HQ3.out.bu hq.1 (by have := HP3.out; omega) HQ3.out.lh.bel.size
        have hnm : ¬ 18446744073709551614 < t3 := by unfold u64r at hD64; omega
        have hwr : (t3 + 1) % 18446744073709551616 = t3 + 1 := by unfold u64r at hD64; omega
        have HV4 := hid hq.2
        clear hq hlo
        go_wp2_with fail
        refine ku.mono ?_
        intro e w7 hu
        obtain rfl := hu.e
        obtain ⟨z1, z2, hr, -⟩ := HQ3.out.used hu
        have HQ4 := hid hr
        clear ku hu hr cm d4 d2
        go_wp2_with fail
        go_roundw
        case rel => exact ⟨t3 + 1, r + 1, z1, z2, _, rfl, by go_num, by omega, by have h5 := HP3.out; show _ ≤ _; simp; omega, HV4, HQ4⟩
        case measure => simp [intOf]; omega
      · have FIN : ∀ x : Unit, True := fun _ => trivial
        by_cases q1 : (r : Int) < cj
        · by_cases q2 : (r : Int) < 6
          · have q3 : ¬ t3 < D1 := fun h => hok ⟨q1, q2, h⟩
            clear hok
            go_wp2_with fail
            go_roundw
            case rel => exact ⟨t3, j + 1, y1, y2, P3, a1, c1, C1, N1, D1, E1, s1, n1, rfl, by omega, by go_num, by have h5 := HP3.out; show _ ≤ _; omega, HV3, HQ3⟩
            case measure => simp [intOf]; omega
          · clear hok
            go_wp2_with fail
            go_roundw
            case rel => exact ⟨t3, j + 1, y1, y2, P3, a1, c1, C1, N1, D1, E1, s1, n1, rfl, by omega, by go_num, by have h5 := HP3.out; show _ ≤ _; omega, HV3, HQ3⟩
            case measure => simp [intOf]; omega
        · clear hok
          go_wp2_with fail
          go_roundw
          case rel => exact ⟨t3, j + 1, y1, y2, P3, a1, c1, C1, N1, D1, E1, s1, n1, rfl, by omega, by go_num, by have h5 := HP3.out; show _ ≤ _; omega, HV3, HQ3⟩
          case measure => simp [intOf]; omega
end Go.Proofs.Ytmbopaemnlikkaa
