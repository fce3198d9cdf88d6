import Derived.Test.YtblcpdffiafgnaaGreatDoorZSa
namespace Go.Proofs.YtblcpdffiafgnaaGreatDoor
set_option linter.unusedSimpArgs false
set_option maxRecDepth 100000
open Go.RowKit Go.Shelf
set_option linter.unusedVariables false
set_option linter.unusedSimpArgs false

set_option maxHeartbeats 16000000 in
theorem walSteps_ (n : Int) (w : World) (hT : Tab w) (xa : Option Addr) (xn xc : Nat) (X : Nat → Xt) (hx : IsTxs w xa xn X) (hxn : xn ≤ 140737488355328) (sa : Option Addr) (sn sc : Nat) (st : List Int) (hs : Dt w sa sn sc st) (ta : Option Addr) (tn tc : Nat) (tx : List Int) (ht : Dt w ta tn tc tx) : Calls Tryz.prog 6 #[.int .i64 n, .slice xa xn xc, .slice sa sn sc, .slice ta tn tc] w fun en w' => en = .returned (.bool true) ∧ Below w.heap.size w w' := by
  have k1 := first_ w hT
  have HT := hid hT
  have HX := hid hx
  have hsn := hs.n
  have htn := ht.n
  have DS0 := hid hs
  have DT0 := hid ht
  clear hT hx hs ht
  go_enter Tryz.func6, Tryz.ntmps6
  go_wp2_with fail
  refine k1.mono ?_
  rintro en w1 ⟨rfl, B1⟩
  simp only
  have HB1 := hid B1
  by_cases h20 : (20000 : Int) < (sn : Int)
  · clear k1 B1
    go_wp2_with fail
    go_ret
    exact ⟨rfl, HB1.out⟩
  have DS := hid (DS0.out.below B1)
  have DT := hid (DT0.out.below B1)
  have kf := filled_ n w1 (HT.out.bel B1) xa xn xc X (HX.out.below B1) hxn sa sn sc st DS.out
  clear k1 B1 HT HX DS0 DT0
  go_wp2_with fail
  refine kf.mono ?_
  rintro en w2 ⟨t, rfl, T, hk, htw⟩
  simp only
  obtain ⟨d, g, l, Q, R, s1, x1, s2, x2, s3, x3, H⟩ := htw
  obtain ⟨y, hlg⟩ := Option.ne_none_iff_exists'.1 hk.l
  obtain ⟨ep, nx, pl⟩ := y
  obtain ⟨p1, p2, p3, p4, p5⟩ := hk.v.pl hlg
  obtain ⟨rfl, q1, gt, rg⟩ := H.wq hlg p2
  rw [hk.s] at q1
  have hks : Ks T.s ep nx pl T.A T.s.c := ⟨hk.v.n1, hk.v.n2, by have := hk.v.k; omega, rfl, (hk.v.hs hk.s ep nx pl hlg).1, hk.c, (hk.v.hs hk.s ep nx pl hlg).2.up (by omega)⟩
  have h2 : Wt w1 w2 t g g d T.s.k ep nx pl true T.s := ⟨⟨Q, q1, fun b q => (H.rb b (H.qr b q)).1, H.qt⟩, gt, (H.rb g rg).1, H.tn.cell 0, H.tn.cell 1, (H.rb t H.rt).1, H.bel⟩
  obtain ⟨NN, hNN⟩ : ∃ NN, T.s.n = NN := ⟨_, rfl⟩
  obtain ⟨RR, hRR⟩ : ∃ RR, roo NN = RR := ⟨_, rfl⟩
  have hR49 : RR ≤ 49 := by rw [← hRR, ← hNN]; exact roo_100 hk.v.n2
  have hplR : pl ≤ RR := by rw [← hRR, ← hNN]; exact p1
  have kar := wt_arm0 h2
  have z0 := h2.c0
  have HS0 := hid hks
  clear kf H q1 hk h2 hks p1 rg
  go_wp2_with fail
  refine kar.mono ?_
  rintro en w3 ⟨rfl, h3⟩
  simp only
  have HS3 := hid HS0.out.arm
  have hk3 : (arS T.s []).k = T.s.k := (arS_is T.s []).2.1
  have hn3 : (arS T.s []).n = NN := (arS_is T.s []).1.trans hNN
  obtain ⟨s4, hs4⟩ : ∃ s4, arS T.s [] = s4 := ⟨_, rfl⟩
  rw [hs4] at h3 HS3 hk3 hn3
  have hR4 : roo s4.n = RR := by rw [hn3, hRR]
  have kst := wt_state h3 hk3
  have z1 := h3.c1
  clear kar hs4 HS0
  go_wp2_with fail
  refine kst.mono ?_
  rintro en w4 ⟨rfl, h4⟩
  simp only
  have kle := wt_left h4 hk3 (by omega)
  rw [hR4] at kle
  obtain ⟨LL, hLL⟩ : ∃ LL, RR - pl = LL := ⟨_, rfl⟩
  rw [hLL] at kle
  have z1 := h4.c1
  clear kst h3
  go_wp2_with fail
  refine kle.mono ?_
  rintro en w5 ⟨rfl, h5⟩
  simp only
  have krm := wt_room h5 hk3
  rw [hR4] at krm
  have z1 := h5.c1
  clear kle h4
  go_wp2_with fail
  refine krm.mono ?_
  rintro en w6 ⟨rfl, h6⟩
  simp only
  have z1 := h6.c1
  clear krm h5
  have e0b : ((LL : Int) + (pl : Int) != (RR : Int)) = false := by simp; omega
  obtain ⟨ND, hND⟩ : ∃ ND, ned tn = ND := ⟨_, rfl⟩
  have hND99 : ND ≤ 12 := by rw [← hND]; unfold ned pcN; split <;> (first | omega | (split <;> omega))
  have hpsn : pcN sn ≤ 50 := by unfold pcN; omega
  by_cases hE : aE true tn nx pl RR = 0
  · obtain ⟨m1, m2, m3, m4⟩ := aE_ok hE
    by_cases h480 : tn ≤ 480
    · have kap := wt_app h6 HS3.out (by omega) (by omega) hk3 DT.out m1 m2 (by rw [hR4]; exact m4)
      have hap := (HS3.out.app (by omega) DT.out.b.2.1 (tx := tx) (by rw [DT.out.b.1]; exact m1) (by rw [DT.out.b.1]; exact m2) (by rw [DT.out.b.1, hR4]; exact m4)).2
      rw [DT.out.b.1, if_pos h480] at hap
      obtain ⟨cn1, cn2, _⟩ := apR_n s4 s4.n ep nx pl tx (by rw [DT.out.b.1]; exact m2)
      obtain ⟨s5, hs5⟩ : ∃ s5, (apR s4 s4.n ep nx pl tx).2 = s5 := ⟨_, rfl⟩
      rw [hs5] at kap hap cn1 cn2
      rw [hND] at kap hap m3 m4
      have HS5 := hid hap
      have hk5 := cn2.trans hk3
      have hn5 : s5.n = NN := cn1.trans hn3
      clear hap h6 hs5 cn1 cn2 HS3 hk3 hn3 hR4
      go_wp2_with (first | (go_at_call 21; refine (num12 _ _).mono ?_; rintro e w' ⟨rfl, hw⟩; obtain rfl := hw.symm; clear hw) | (go_at_call 23; refine (need0_ _ _ (by omega)).mono ?_; rintro e w' ⟨rfl, hw⟩; obtain rfl := hw.symm; clear hw; rw [Int.toNat_natCast]) | (go_at_call 22; refine (pieces0_ _ _ (by omega)).mono ?_; rintro e w' ⟨rfl, hw⟩; obtain rfl := hw.symm; clear hw; rw [Int.toNat_natCast]))
      refine kap.mono ?_
      rintro en w7 ⟨rfl, h7⟩
      simp only
      have kst := wt_state h7 hk5
      have z1 := h7.c1
      have h480I : ¬ (480 : Int) < (tn : Int) := by omega
      have n1 : (0 : Int) < (ND : Int) := by omega
      have n2 : (ND : Int) ≤ (LL : Int) := by omega
      have hpc : pcN tn ≤ 10 := by unfold pcN; omega
      clear kap
      go_wp2_with (first | (go_at_call 21; refine (num12 _ _).mono ?_; rintro e w' ⟨rfl, hw⟩; obtain rfl := hw.symm; clear hw) | (go_at_call 22; refine (pieces0_ _ _ (by omega)).mono ?_; rintro e w' ⟨rfl, hw⟩; obtain rfl := hw.symm; clear hw; rw [Int.toNat_natCast]) | (go_at_call 23; refine (need0_ _ _ (by omega)).mono ?_; rintro e w' ⟨rfl, hw⟩; obtain rfl := hw.symm; clear hw; rw [Int.toNat_natCast, hND]))
      refine kst.mono ?_
      rintro en w10 ⟨rfl, h10⟩
      simp only
      have z0 := h10.c0
      have kdn := wt_done h10
      rw [HS5.out.c] at kdn
      have e1b : (((0 + 2 : Nat) : Int) != 2) = false := by simp
      have e2b : (((nx + 1 : Nat) : Int) != (nx : Int) + 1) = false := by simp
      have e3b : (((pl + ND : Nat) : Int) != (pl : Int) + (ND : Int)) = false := by simp
      clear kst h7
      go_wp2_with (first | (go_at_call 21; refine (num12 _ _).mono ?_; rintro e w' ⟨rfl, hw⟩; obtain rfl := hw.symm; clear hw) | (go_at_call 23; refine (need0_ _ _ (by omega)).mono ?_; rintro e w' ⟨rfl, hw⟩; obtain rfl := hw.symm; clear hw; rw [Int.toNat_natCast]) | (go_at_call 22; refine (pieces0_ _ _ (by omega)).mono ?_; rintro e w' ⟨rfl, hw⟩; obtain rfl := hw.symm; clear hw; rw [Int.toNat_natCast]) | (go_at_call 24; refine kdn.mono ?_; rintro e w' ⟨rfl, hw⟩; obtain rfl := hw.symm; clear hw))
      have kar := wt_arm0 h10
      have z0 := h10.c0
      clear h10 kdn
      go_wp2_with (first | (go_at_call 21; refine (num12 _ _).mono ?_; rintro e w' ⟨rfl, hw⟩; obtain rfl := hw.symm; clear hw) | (go_at_call 23; refine (need0_ _ _ (by omega)).mono ?_; rintro e w' ⟨rfl, hw⟩; obtain rfl := hw.symm; clear hw; rw [Int.toNat_natCast]) | (go_at_call 22; refine (pieces0_ _ _ (by omega)).mono ?_; rintro e w' ⟨rfl, hw⟩; obtain rfl := hw.symm; clear hw; rw [Int.toNat_natCast]))
      refine kar.mono ?_
      rintro en w11 ⟨rfl, h11⟩
      simp only
      have HS5a := hid HS5.out.arm
      have hk6 : (arS s5 []).k = T.s.k := (arS_is s5 []).2.1.trans hk5
      have hn6 : (arS s5 []).n = NN := (arS_is s5 []).1.trans hn5
      obtain ⟨s6, hs6⟩ : ∃ s6, arS s5 [] = s6 := ⟨_, rfl⟩
      rw [hs6] at h11 HS5a hk6 hn6
      have z1 := h11.c1
      have kst := wt_state h11 hk6
      clear kar hs6 HS5 hk5 hn5 h11
      go_wp2_with (first | (go_at_call 21; refine (num12 _ _).mono ?_; rintro e w' ⟨rfl, hw⟩; obtain rfl := hw.symm; clear hw) | (go_at_call 23; refine (need0_ _ _ (by omega)).mono ?_; rintro e w' ⟨rfl, hw⟩; obtain rfl := hw.symm; clear hw; rw [Int.toNat_natCast]) | (go_at_call 22; refine (pieces0_ _ _ (by omega)).mono ?_; rintro e w' ⟨rfl, hw⟩; obtain rfl := hw.symm; clear hw; rw [Int.toNat_natCast]))
      refine kst.mono ?_
      rintro en w12 ⟨rfl, h12⟩
      simp only
      have z1 := h12.c1
      have z0 := h12.c0
      clear kst
      by_cases hck : pcN sn + 11 ≤ RR
      · have hckI : (pcN sn : Int) + 11 ≤ (RR : Int) := by omega
        have kck := wt_ck h12 HS5a.out (by omega) (by omega) hk6 DS.out (by rw [hn6, hRR]; exact hck)
        have hc6 := HS5a.out.ck (by omega) DS.out.b.2.1 (st := st) (by rw [DS.out.b.1, hn6, hRR]; exact hck)
        rw [DS.out.b.1] at hc6
        obtain ⟨cn1, cn2, _⟩ := ckp_n s6 s6.n (ep) (nx + 1) st
        obtain ⟨s8, hs8⟩ : ∃ s8, (ckp s6 s6.n (ep) (nx + 1) st).2 = s8 := ⟨_, rfl⟩
        rw [hs8] at kck hc6 cn1 cn2
        have HS6 := hid hc6.2
        have hk8 := cn2.trans hk6
        have hn8 : s8.n = NN := cn1.trans hn6
        have hRRx : roo s8.n = RR := by rw [hn8, hRR]
        clear h12 hc6 cn1 cn2 hs8 HS5a hk6 hn6
        go_wp2_with (first | (go_at_call 21; refine (num12 _ _).mono ?_; rintro e w' ⟨rfl, hw⟩; obtain rfl := hw.symm; clear hw) | (go_at_call 23; refine (need0_ _ _ (by omega)).mono ?_; rintro e w' ⟨rfl, hw⟩; obtain rfl := hw.symm; clear hw; rw [Int.toNat_natCast]) | (go_at_call 22; refine (pieces0_ _ _ (by omega)).mono ?_; rintro e w' ⟨rfl, hw⟩; obtain rfl := hw.symm; clear hw; rw [Int.toNat_natCast]))
        refine kck.mono ?_
        rintro en w13 ⟨rfl, h13⟩
        simp only
        have z1 := h13.c1
        have z0 := h13.c0
        have kst := wt_state h13 hk8
        clear kck
        go_wp2_with (first | (go_at_call 21; refine (num12 _ _).mono ?_; rintro e w' ⟨rfl, hw⟩; obtain rfl := hw.symm; clear hw) | (go_at_call 23; refine (need0_ _ _ (by omega)).mono ?_; rintro e w' ⟨rfl, hw⟩; obtain rfl := hw.symm; clear hw; rw [Int.toNat_natCast]) | (go_at_call 22; refine (pieces0_ _ _ (by omega)).mono ?_; rintro e w' ⟨rfl, hw⟩; obtain rfl := hw.symm; clear hw; rw [Int.toNat_natCast]))
        refine kst.mono ?_
        rintro en w14 ⟨rfl, h14⟩
        simp only
        have z0 := h14.c0
        have kdn := wt_done h14
        rw [HS6.out.c] at kdn
        have e1b : (((0 + (pcN sn + 3) : Nat) : Int) != (pcN sn : Int) + 3) = false := by simp
        have e2b : ((((ep) + 1 : Nat) : Int) != (((ep) : Nat) : Int) + 1) = false := by simp
        have e3b : ((((nx + 1) : Nat) : Int) != (((nx + 1) : Nat) : Int)) = false := by simp
        have e4b : (((pcN sn : Nat) : Int) != ((pcN sn : Nat) : Int)) = false := by simp
        have hle6 : ([] : List (List Int)).length ≤ RR := Nat.zero_le _
        clear kst h13
        go_wp2_with (go_at_call 24; refine kdn.mono ?_; rintro e w' ⟨rfl, hw⟩; obtain rfl := hw.symm; clear hw)
        have kcr := wt_crash0 h14 HS6.out.P
        have z0 := h14.c0
        clear h14 kdn
        go_wp2_with (first | (go_at_call 21; refine (num12 _ _).mono ?_; rintro e w' ⟨rfl, hw⟩; obtain rfl := hw.symm; clear hw) | (go_at_call 23; refine (need0_ _ _ (by omega)).mono ?_; rintro e w' ⟨rfl, hw⟩; obtain rfl := hw.symm; clear hw; rw [Int.toNat_natCast]) | (go_at_call 22; refine (pieces0_ _ _ (by omega)).mono ?_; rintro e w' ⟨rfl, hw⟩; obtain rfl := hw.symm; clear hw; rw [Int.toNat_natCast]))
        refine kcr.mono ?_
        rintro en w20 ⟨rfl, h20⟩
        simp only
        have z0 := h20.c0
        have kop := wt_open h20 HS6.out
        have hkk6 := HS6.out.k
        clear kcr h20
        go_wp2_with (first | (go_at_call 21; refine (num12 _ _).mono ?_; rintro e w' ⟨rfl, hw⟩; obtain rfl := hw.symm; clear hw) | (go_at_call 23; refine (need0_ _ _ (by omega)).mono ?_; rintro e w' ⟨rfl, hw⟩; obtain rfl := hw.symm; clear hw; rw [Int.toNat_natCast]) | (go_at_call 22; refine (pieces0_ _ _ (by omega)).mono ?_; rintro e w' ⟨rfl, hw⟩; obtain rfl := hw.symm; clear hw; rw [Int.toNat_natCast]))
        refine kop.mono ?_
        rintro en w21 ⟨g2, oa1, on1, oc1, oa2, oc2, s7, e7, n7, p7, rfl, h21, r2, r3, r4, r6, r7⟩
        simp only
        rw [hRRx] at r2
        have z0 := h21.c0
        have kdn := wt_done h21
        obtain ⟨C7, hC7⟩ : ∃ C7 : Nat, s7.c = C7 := ⟨_, rfl⟩
        have ksf := wt_safe h21 r3 r4 (by omega) r6
        rw [hC7] at kdn r2 r7
        have b7 : ¬ (2 + (RR : Int)) < (C7 : Int) := by omega
        have HKS := hid ksf
        have HR7 := hid r7
        obtain ⟨L6, hL6⟩ : ∃ L6 : Nat, ([] : List (List Int)).length = L6 := ⟨_, rfl⟩
        rw [hL6] at hle6 ⊢
        clear kop h21 ksf r3 r4 r6 r7 hC7 hL6
        go_wp2_with fail
        refine kdn.mono ?_
        rintro en w' ⟨rfl, hw⟩
        obtain rfl := hw.symm
        clear hw kdn
        simp only
        go_wp2_with (first | (go_at_call 21; refine (num12 _ _).mono ?_; rintro e w' ⟨rfl, hw⟩; obtain rfl := hw.symm; clear hw) | (go_at_call 23; refine (need0_ _ _ (by omega)).mono ?_; rintro e w' ⟨rfl, hw⟩; obtain rfl := hw.symm; clear hw; rw [Int.toNat_natCast]) | (go_at_call 22; refine (pieces0_ _ _ (by omega)).mono ?_; rintro e w' ⟨rfl, hw⟩; obtain rfl := hw.symm; clear hw; rw [Int.toNat_natCast]))
        refine HKS.out.mono ?_
        rintro en w22 ⟨rfl, h22⟩
        simp only
        have z0 := h22.c0
        have kdn := wt_done h22
        rw [HR7.out] at kdn
        have hle7 : (L6 : Int) ≤ (RR : Int) := by omega
        have e7b : (((C7 + 1 : Nat) : Int) == (C7 : Int) + 1) = true := by simp
        have HF := hid (bel_bel HB1.out HB1.out.size h22.bel)
        clear HKS HR7 h22
        go_wp2_with (first | (go_at_call 21; refine (num12 _ _).mono ?_; rintro e w' ⟨rfl, hw⟩; obtain rfl := hw.symm; clear hw) | (go_at_call 23; refine (need0_ _ _ (by omega)).mono ?_; rintro e w' ⟨rfl, hw⟩; obtain rfl := hw.symm; clear hw; rw [Int.toNat_natCast]) | (go_at_call 22; refine (pieces0_ _ _ (by omega)).mono ?_; rintro e w' ⟨rfl, hw⟩; obtain rfl := hw.symm; clear hw; rw [Int.toNat_natCast]) | (go_at_call 24; refine kdn.mono ?_; rintro e w' ⟨rfl, hw⟩; obtain rfl := hw.symm; clear hw))
        go_ret
        exact ⟨rfl, HF.out⟩
      · have hckI : ¬ (pcN sn : Int) + 11 ≤ (RR : Int) := by omega
        have hkE : kE true sn (ep) (nx + 1) (roo s6.n) = 112 := by
          have h1 := kE_is (m := sn) (R := roo s6.n) (show (nx + 1) ≤ 1000000 by omega) (show (ep) ≤ 1000000 by omega)
          rcases h1 with h1 | h1
          · exact absurd (kE_ok h1) (by rw [hn6, hRR]; exact hck)
          · exact h1
        have kck := wt_ckno h12 hk6 sa sn sc (by omega) (by rw [hkE]; decide)
        rw [hkE] at kck
        have hRRx : roo s6.n = RR := by rw [hn6, hRR]
        have hle6 : (T.A.2 ++ [tx]).length ≤ RR := by
          obtain ⟨qq, hq1, _⟩ := HS5a.out.q
          have hl6 := ends_len hq1.ld
          have hl7 := hq1.ld.room
          rw [hRRx] at hl7
          exact Nat.le_trans (Nat.le_trans (Nat.le_add_left _ _) hl6) hl7
        clear h12
        go_wp2_with (first | (go_at_call 21; refine (num12 _ _).mono ?_; rintro e w' ⟨rfl, hw⟩; obtain rfl := hw.symm; clear hw) | (go_at_call 23; refine (need0_ _ _ (by omega)).mono ?_; rintro e w' ⟨rfl, hw⟩; obtain rfl := hw.symm; clear hw; rw [Int.toNat_natCast]) | (go_at_call 22; refine (pieces0_ _ _ (by omega)).mono ?_; rintro e w' ⟨rfl, hw⟩; obtain rfl := hw.symm; clear hw; rw [Int.toNat_natCast]))
        refine kck.mono ?_
        rintro en w13 ⟨rfl, h13⟩
        simp only
        have z1 := h13.c1
        have z0 := h13.c0
        have kdn := wt_done h13
        rw [HS5a.out.c] at kdn
        clear kck
        go_wp2_with (first | (go_at_call 21; refine (num12 _ _).mono ?_; rintro e w' ⟨rfl, hw⟩; obtain rfl := hw.symm; clear hw) | (go_at_call 23; refine (need0_ _ _ (by omega)).mono ?_; rintro e w' ⟨rfl, hw⟩; obtain rfl := hw.symm; clear hw; rw [Int.toNat_natCast]) | (go_at_call 22; refine (pieces0_ _ _ (by omega)).mono ?_; rintro e w' ⟨rfl, hw⟩; obtain rfl := hw.symm; clear hw; rw [Int.toNat_natCast]) | (go_at_call 24; refine kdn.mono ?_; rintro e w' ⟨rfl, hw⟩; obtain rfl := hw.symm; clear hw))
        have kcr := wt_crash0 h13 HS5a.out.P
        have z0 := h13.c0
        clear h13 kdn
        go_wp2_with (first | (go_at_call 21; refine (num12 _ _).mono ?_; rintro e w' ⟨rfl, hw⟩; obtain rfl := hw.symm; clear hw) | (go_at_call 23; refine (need0_ _ _ (by omega)).mono ?_; rintro e w' ⟨rfl, hw⟩; obtain rfl := hw.symm; clear hw; rw [Int.toNat_natCast]) | (go_at_call 22; refine (pieces0_ _ _ (by omega)).mono ?_; rintro e w' ⟨rfl, hw⟩; obtain rfl := hw.symm; clear hw; rw [Int.toNat_natCast]))
        refine kcr.mono ?_
        rintro en w20 ⟨rfl, h20⟩
        simp only
        have z0 := h20.c0
        have kop := wt_open h20 HS5a.out
        have hkk6 := HS5a.out.k
        clear kcr h20
        go_wp2_with (first | (go_at_call 21; refine (num12 _ _).mono ?_; rintro e w' ⟨rfl, hw⟩; obtain rfl := hw.symm; clear hw) | (go_at_call 23; refine (need0_ _ _ (by omega)).mono ?_; rintro e w' ⟨rfl, hw⟩; obtain rfl := hw.symm; clear hw; rw [Int.toNat_natCast]) | (go_at_call 22; refine (pieces0_ _ _ (by omega)).mono ?_; rintro e w' ⟨rfl, hw⟩; obtain rfl := hw.symm; clear hw; rw [Int.toNat_natCast]))
        refine kop.mono ?_
        rintro en w21 ⟨g2, oa1, on1, oc1, oa2, oc2, s7, e7, n7, p7, rfl, h21, r2, r3, r4, r6, r7⟩
        simp only
        rw [hRRx] at r2
        have z0 := h21.c0
        have kdn := wt_done h21
        obtain ⟨C7, hC7⟩ : ∃ C7 : Nat, s7.c = C7 := ⟨_, rfl⟩
        have ksf := wt_safe h21 r3 r4 (by omega) r6
        rw [hC7] at kdn r2 r7
        have b7 : ¬ (2 + (RR : Int)) < (C7 : Int) := by omega
        have HKS := hid ksf
        have HR7 := hid r7
        obtain ⟨L6, hL6⟩ : ∃ L6 : Nat, (T.A.2 ++ [tx]).length = L6 := ⟨_, rfl⟩
        rw [hL6] at hle6 ⊢
        clear kop h21 ksf r3 r4 r6 r7 hC7 hL6
        go_wp2_with fail
        refine kdn.mono ?_
        rintro en w' ⟨rfl, hw⟩
        obtain rfl := hw.symm
        clear hw kdn
        simp only
        go_wp2_with (first | (go_at_call 21; refine (num12 _ _).mono ?_; rintro e w' ⟨rfl, hw⟩; obtain rfl := hw.symm; clear hw) | (go_at_call 23; refine (need0_ _ _ (by omega)).mono ?_; rintro e w' ⟨rfl, hw⟩; obtain rfl := hw.symm; clear hw; rw [Int.toNat_natCast]) | (go_at_call 22; refine (pieces0_ _ _ (by omega)).mono ?_; rintro e w' ⟨rfl, hw⟩; obtain rfl := hw.symm; clear hw; rw [Int.toNat_natCast]))
        refine HKS.out.mono ?_
        rintro en w22 ⟨rfl, h22⟩
        simp only
        have z0 := h22.c0
        have kdn := wt_done h22
        rw [HR7.out] at kdn
        have hle7 : (L6 : Int) ≤ (RR : Int) := by omega
        have e7b : (((C7 + 1 : Nat) : Int) == (C7 : Int) + 1) = true := by simp
        have HF := hid (bel_bel HB1.out HB1.out.size h22.bel)
        clear HKS HR7 h22
        go_wp2_with (first | (go_at_call 21; refine (num12 _ _).mono ?_; rintro e w' ⟨rfl, hw⟩; obtain rfl := hw.symm; clear hw) | (go_at_call 23; refine (need0_ _ _ (by omega)).mono ?_; rintro e w' ⟨rfl, hw⟩; obtain rfl := hw.symm; clear hw; rw [Int.toNat_natCast]) | (go_at_call 22; refine (pieces0_ _ _ (by omega)).mono ?_; rintro e w' ⟨rfl, hw⟩; obtain rfl := hw.symm; clear hw; rw [Int.toNat_natCast]) | (go_at_call 24; refine kdn.mono ?_; rintro e w' ⟨rfl, hw⟩; obtain rfl := hw.symm; clear hw))
        go_ret
        exact ⟨rfl, HF.out⟩
    · have kap := wt_app h6 HS3.out (by omega) (by omega) hk3 DT.out m1 m2 (by rw [hR4]; exact m4)
      have hap := (HS3.out.app (by omega) DT.out.b.2.1 (tx := tx) (by rw [DT.out.b.1]; exact m1) (by rw [DT.out.b.1]; exact m2) (by rw [DT.out.b.1, hR4]; exact m4)).2
      rw [DT.out.b.1, if_neg h480] at hap
      obtain ⟨cn1, cn2, _⟩ := apR_n s4 s4.n ep nx pl tx (by rw [DT.out.b.1]; exact m2)
      obtain ⟨s5, hs5⟩ : ∃ s5, (apR s4 s4.n ep nx pl tx).2 = s5 := ⟨_, rfl⟩
      rw [hs5] at kap hap cn1 cn2
      rw [hND] at kap hap m3 m4
      have HS5 := hid hap
      have hk5 := cn2.trans hk3
      have hn5 : s5.n = NN := cn1.trans hn3
      clear hap h6 hs5 cn1 cn2 HS3 hk3 hn3 hR4
      go_wp2_with (first | (go_at_call 21; refine (num12 _ _).mono ?_; rintro e w' ⟨rfl, hw⟩; obtain rfl := hw.symm; clear hw) | (go_at_call 23; refine (need0_ _ _ (by omega)).mono ?_; rintro e w' ⟨rfl, hw⟩; obtain rfl := hw.symm; clear hw; rw [Int.toNat_natCast]) | (go_at_call 22; refine (pieces0_ _ _ (by omega)).mono ?_; rintro e w' ⟨rfl, hw⟩; obtain rfl := hw.symm; clear hw; rw [Int.toNat_natCast]))
      refine kap.mono ?_
      rintro en w7 ⟨rfl, h7⟩
      simp only
      have kst := wt_state h7 hk5
      have z1 := h7.c1
      have h480I : (480 : Int) < (tn : Int) := by omega
      have n1 : (0 : Int) < (ND : Int) := by omega
      have n2 : (ND : Int) ≤ (LL : Int) := by omega
      have hpc : pcN tn ≤ 10 := by unfold pcN; omega
      clear kap
      go_wp2_with (first | (go_at_call 21; refine (num12 _ _).mono ?_; rintro e w' ⟨rfl, hw⟩; obtain rfl := hw.symm; clear hw) | (go_at_call 22; refine (pieces0_ _ _ (by omega)).mono ?_; rintro e w' ⟨rfl, hw⟩; obtain rfl := hw.symm; clear hw; rw [Int.toNat_natCast]) | (go_at_call 23; refine (need0_ _ _ (by omega)).mono ?_; rintro e w' ⟨rfl, hw⟩; obtain rfl := hw.symm; clear hw; rw [Int.toNat_natCast, hND]))
      refine kst.mono ?_
      rintro en w10 ⟨rfl, h10⟩
      simp only
      have z0 := h10.c0
      have kdn := wt_done h10
      rw [HS5.out.c] at kdn
      have e1b : (((0 + (pcN tn + 3) : Nat) : Int) != (pcN tn : Int) + 3) = false := by simp
      have e2b : (((nx + 1 : Nat) : Int) != (nx : Int) + 1) = false := by simp
      have e3b : (((pl + ND : Nat) : Int) != (pl : Int) + (ND : Int)) = false := by simp
      clear kst h7
      go_wp2_with (first | (go_at_call 21; refine (num12 _ _).mono ?_; rintro e w' ⟨rfl, hw⟩; obtain rfl := hw.symm; clear hw) | (go_at_call 23; refine (need0_ _ _ (by omega)).mono ?_; rintro e w' ⟨rfl, hw⟩; obtain rfl := hw.symm; clear hw; rw [Int.toNat_natCast]) | (go_at_call 22; refine (pieces0_ _ _ (by omega)).mono ?_; rintro e w' ⟨rfl, hw⟩; obtain rfl := hw.symm; clear hw; rw [Int.toNat_natCast]) | (go_at_call 24; refine kdn.mono ?_; rintro e w' ⟨rfl, hw⟩; obtain rfl := hw.symm; clear hw))
      have kar := wt_arm0 h10
      have z0 := h10.c0
      clear h10 kdn
      go_wp2_with (first | (go_at_call 21; refine (num12 _ _).mono ?_; rintro e w' ⟨rfl, hw⟩; obtain rfl := hw.symm; clear hw) | (go_at_call 23; refine (need0_ _ _ (by omega)).mono ?_; rintro e w' ⟨rfl, hw⟩; obtain rfl := hw.symm; clear hw; rw [Int.toNat_natCast]) | (go_at_call 22; refine (pieces0_ _ _ (by omega)).mono ?_; rintro e w' ⟨rfl, hw⟩; obtain rfl := hw.symm; clear hw; rw [Int.toNat_natCast]))
      refine kar.mono ?_
      rintro en w11 ⟨rfl, h11⟩
      simp only
      have HS5a := hid HS5.out.arm
      have hk6 : (arS s5 []).k = T.s.k := (arS_is s5 []).2.1.trans hk5
      have hn6 : (arS s5 []).n = NN := (arS_is s5 []).1.trans hn5
      obtain ⟨s6, hs6⟩ : ∃ s6, arS s5 [] = s6 := ⟨_, rfl⟩
      rw [hs6] at h11 HS5a hk6 hn6
      have z1 := h11.c1
      have kst := wt_state h11 hk6
      clear kar hs6 HS5 hk5 hn5 h11
      go_wp2_with (first | (go_at_call 21; refine (num12 _ _).mono ?_; rintro e w' ⟨rfl, hw⟩; obtain rfl := hw.symm; clear hw) | (go_at_call 23; refine (need0_ _ _ (by omega)).mono ?_; rintro e w' ⟨rfl, hw⟩; obtain rfl := hw.symm; clear hw; rw [Int.toNat_natCast]) | (go_at_call 22; refine (pieces0_ _ _ (by omega)).mono ?_; rintro e w' ⟨rfl, hw⟩; obtain rfl := hw.symm; clear hw; rw [Int.toNat_natCast]))
      refine kst.mono ?_
      rintro en w12 ⟨rfl, h12⟩
      simp only
      have z1 := h12.c1
      have z0 := h12.c0
      clear kst
      by_cases hck : pcN sn + 11 ≤ RR
      · have hckI : (pcN sn : Int) + 11 ≤ (RR : Int) := by omega
        have kck := wt_ck h12 HS5a.out (by omega) (by omega) hk6 DS.out (by rw [hn6, hRR]; exact hck)
        have hc6 := HS5a.out.ck (by omega) DS.out.b.2.1 (st := st) (by rw [DS.out.b.1, hn6, hRR]; exact hck)
        rw [DS.out.b.1] at hc6
        obtain ⟨cn1, cn2, _⟩ := ckp_n s6 s6.n (ep) (nx + 1) st
        obtain ⟨s8, hs8⟩ : ∃ s8, (ckp s6 s6.n (ep) (nx + 1) st).2 = s8 := ⟨_, rfl⟩
        rw [hs8] at kck hc6 cn1 cn2
        have HS6 := hid hc6.2
        have hk8 := cn2.trans hk6
        have hn8 : s8.n = NN := cn1.trans hn6
        have hRRx : roo s8.n = RR := by rw [hn8, hRR]
        clear h12 hc6 cn1 cn2 hs8 HS5a hk6 hn6
        go_wp2_with (first | (go_at_call 21; refine (num12 _ _).mono ?_; rintro e w' ⟨rfl, hw⟩; obtain rfl := hw.symm; clear hw) | (go_at_call 23; refine (need0_ _ _ (by omega)).mono ?_; rintro e w' ⟨rfl, hw⟩; obtain rfl := hw.symm; clear hw; rw [Int.toNat_natCast]) | (go_at_call 22; refine (pieces0_ _ _ (by omega)).mono ?_; rintro e w' ⟨rfl, hw⟩; obtain rfl := hw.symm; clear hw; rw [Int.toNat_natCast]))
        refine kck.mono ?_
        rintro en w13 ⟨rfl, h13⟩
        simp only
        have z1 := h13.c1
        have z0 := h13.c0
        have kst := wt_state h13 hk8
        clear kck
        go_wp2_with (first | (go_at_call 21; refine (num12 _ _).mono ?_; rintro e w' ⟨rfl, hw⟩; obtain rfl := hw.symm; clear hw) | (go_at_call 23; refine (need0_ _ _ (by omega)).mono ?_; rintro e w' ⟨rfl, hw⟩; obtain rfl := hw.symm; clear hw; rw [Int.toNat_natCast]) | (go_at_call 22; refine (pieces0_ _ _ (by omega)).mono ?_; rintro e w' ⟨rfl, hw⟩; obtain rfl := hw.symm; clear hw; rw [Int.toNat_natCast]))
        refine kst.mono ?_
        rintro en w14 ⟨rfl, h14⟩
        simp only
        have z0 := h14.c0
        have kdn := wt_done h14
        rw [HS6.out.c] at kdn
        have e1b : (((0 + (pcN sn + 3) : Nat) : Int) != (pcN sn : Int) + 3) = false := by simp
        have e2b : ((((ep) + 1 : Nat) : Int) != (((ep) : Nat) : Int) + 1) = false := by simp
        have e3b : ((((nx + 1) : Nat) : Int) != (((nx + 1) : Nat) : Int)) = false := by simp
        have e4b : (((pcN sn : Nat) : Int) != ((pcN sn : Nat) : Int)) = false := by simp
        have hle6 : ([] : List (List Int)).length ≤ RR := Nat.zero_le _
        clear kst h13
        go_wp2_with (go_at_call 24; refine kdn.mono ?_; rintro e w' ⟨rfl, hw⟩; obtain rfl := hw.symm; clear hw)
        have kcr := wt_crash0 h14 HS6.out.P
        have z0 := h14.c0
        clear h14 kdn
        go_wp2_with (first | (go_at_call 21; refine (num12 _ _).mono ?_; rintro e w' ⟨rfl, hw⟩; obtain rfl := hw.symm; clear hw) | (go_at_call 23; refine (need0_ _ _ (by omega)).mono ?_; rintro e w' ⟨rfl, hw⟩; obtain rfl := hw.symm; clear hw; rw [Int.toNat_natCast]) | (go_at_call 22; refine (pieces0_ _ _ (by omega)).mono ?_; rintro e w' ⟨rfl, hw⟩; obtain rfl := hw.symm; clear hw; rw [Int.toNat_natCast]))
        refine kcr.mono ?_
        rintro en w20 ⟨rfl, h20⟩
        simp only
        have z0 := h20.c0
        have kop := wt_open h20 HS6.out
        have hkk6 := HS6.out.k
        clear kcr h20
        go_wp2_with (first | (go_at_call 21; refine (num12 _ _).mono ?_; rintro e w' ⟨rfl, hw⟩; obtain rfl := hw.symm; clear hw) | (go_at_call 23; refine (need0_ _ _ (by omega)).mono ?_; rintro e w' ⟨rfl, hw⟩; obtain rfl := hw.symm; clear hw; rw [Int.toNat_natCast]) | (go_at_call 22; refine (pieces0_ _ _ (by omega)).mono ?_; rintro e w' ⟨rfl, hw⟩; obtain rfl := hw.symm; clear hw; rw [Int.toNat_natCast]))
        refine kop.mono ?_
        rintro en w21 ⟨g2, oa1, on1, oc1, oa2, oc2, s7, e7, n7, p7, rfl, h21, r2, r3, r4, r6, r7⟩
        simp only
        rw [hRRx] at r2
        have z0 := h21.c0
        have kdn := wt_done h21
        obtain ⟨C7, hC7⟩ : ∃ C7 : Nat, s7.c = C7 := ⟨_, rfl⟩
        have ksf := wt_safe h21 r3 r4 (by omega) r6
        rw [hC7] at kdn r2 r7
        have b7 : ¬ (2 + (RR : Int)) < (C7 : Int) := by omega
        have HKS := hid ksf
        have HR7 := hid r7
        obtain ⟨L6, hL6⟩ : ∃ L6 : Nat, ([] : List (List Int)).length = L6 := ⟨_, rfl⟩
        rw [hL6] at hle6 ⊢
        clear kop h21 ksf r3 r4 r6 r7 hC7 hL6
        go_wp2_with fail
        refine kdn.mono ?_
        rintro en w' ⟨rfl, hw⟩
        obtain rfl := hw.symm
        clear hw kdn
        simp only
        go_wp2_with (first | (go_at_call 21; refine (num12 _ _).mono ?_; rintro e w' ⟨rfl, hw⟩; obtain rfl := hw.symm; clear hw) | (go_at_call 23; refine (need0_ _ _ (by omega)).mono ?_; rintro e w' ⟨rfl, hw⟩; obtain rfl := hw.symm; clear hw; rw [Int.toNat_natCast]) | (go_at_call 22; refine (pieces0_ _ _ (by omega)).mono ?_; rintro e w' ⟨rfl, hw⟩; obtain rfl := hw.symm; clear hw; rw [Int.toNat_natCast]))
        refine HKS.out.mono ?_
        rintro en w22 ⟨rfl, h22⟩
        simp only
        have z0 := h22.c0
        have kdn := wt_done h22
        rw [HR7.out] at kdn
        have hle7 : (L6 : Int) ≤ (RR : Int) := by omega
        have e7b : (((C7 + 1 : Nat) : Int) == (C7 : Int) + 1) = true := by simp
        have HF := hid (bel_bel HB1.out HB1.out.size h22.bel)
        clear HKS HR7 h22
        go_wp2_with (first | (go_at_call 21; refine (num12 _ _).mono ?_; rintro e w' ⟨rfl, hw⟩; obtain rfl := hw.symm; clear hw) | (go_at_call 23; refine (need0_ _ _ (by omega)).mono ?_; rintro e w' ⟨rfl, hw⟩; obtain rfl := hw.symm; clear hw; rw [Int.toNat_natCast]) | (go_at_call 22; refine (pieces0_ _ _ (by omega)).mono ?_; rintro e w' ⟨rfl, hw⟩; obtain rfl := hw.symm; clear hw; rw [Int.toNat_natCast]) | (go_at_call 24; refine kdn.mono ?_; rintro e w' ⟨rfl, hw⟩; obtain rfl := hw.symm; clear hw))
        go_ret
        exact ⟨rfl, HF.out⟩
      · have hckI : ¬ (pcN sn : Int) + 11 ≤ (RR : Int) := by omega
        have hkE : kE true sn (ep) (nx + 1) (roo s6.n) = 112 := by
          have h1 := kE_is (m := sn) (R := roo s6.n) (show (nx + 1) ≤ 1000000 by omega) (show (ep) ≤ 1000000 by omega)
          rcases h1 with h1 | h1
          · exact absurd (kE_ok h1) (by rw [hn6, hRR]; exact hck)
          · exact h1
        have kck := wt_ckno h12 hk6 sa sn sc (by omega) (by rw [hkE]; decide)
        rw [hkE] at kck
        have hRRx : roo s6.n = RR := by rw [hn6, hRR]
        have hle6 : (T.A.2 ++ [tx]).length ≤ RR := by
          obtain ⟨qq, hq1, _⟩ := HS5a.out.q
          have hl6 := ends_len hq1.ld
          have hl7 := hq1.ld.room
          rw [hRRx] at hl7
          exact Nat.le_trans (Nat.le_trans (Nat.le_add_left _ _) hl6) hl7
        clear h12
        go_wp2_with (first | (go_at_call 21; refine (num12 _ _).mono ?_; rintro e w' ⟨rfl, hw⟩; obtain rfl := hw.symm; clear hw) | (go_at_call 23; refine (need0_ _ _ (by omega)).mono ?_; rintro e w' ⟨rfl, hw⟩; obtain rfl := hw.symm; clear hw; rw [Int.toNat_natCast]) | (go_at_call 22; refine (pieces0_ _ _ (by omega)).mono ?_; rintro e w' ⟨rfl, hw⟩; obtain rfl := hw.symm; clear hw; rw [Int.toNat_natCast]))
        refine kck.mono ?_
        rintro en w13 ⟨rfl, h13⟩
        simp only
        have z1 := h13.c1
        have z0 := h13.c0
        have kdn := wt_done h13
        rw [HS5a.out.c] at kdn
        clear kck
        go_wp2_with (first | (go_at_call 21; refine (num12 _ _).mono ?_; rintro e w' ⟨rfl, hw⟩; obtain rfl := hw.symm; clear hw) | (go_at_call 23; refine (need0_ _ _ (by omega)).mono ?_; rintro e w' ⟨rfl, hw⟩; obtain rfl := hw.symm; clear hw; rw [Int.toNat_natCast]) | (go_at_call 22; refine (pieces0_ _ _ (by omega)).mono ?_; rintro e w' ⟨rfl, hw⟩; obtain rfl := hw.symm; clear hw; rw [Int.toNat_natCast]) | (go_at_call 24; refine kdn.mono ?_; rintro e w' ⟨rfl, hw⟩; obtain rfl := hw.symm; clear hw))
        have kcr := wt_crash0 h13 HS5a.out.P
        have z0 := h13.c0
        clear h13 kdn
        go_wp2_with (first | (go_at_call 21; refine (num12 _ _).mono ?_; rintro e w' ⟨rfl, hw⟩; obtain rfl := hw.symm; clear hw) | (go_at_call 23; refine (need0_ _ _ (by omega)).mono ?_; rintro e w' ⟨rfl, hw⟩; obtain rfl := hw.symm; clear hw; rw [Int.toNat_natCast]) | (go_at_call 22; refine (pieces0_ _ _ (by omega)).mono ?_; rintro e w' ⟨rfl, hw⟩; obtain rfl := hw.symm; clear hw; rw [Int.toNat_natCast]))
        refine kcr.mono ?_
        rintro en w20 ⟨rfl, h20⟩
        simp only
        have z0 := h20.c0
        have kop := wt_open h20 HS5a.out
        have hkk6 := HS5a.out.k
        clear kcr h20
        go_wp2_with (first | (go_at_call 21; refine (num12 _ _).mono ?_; rintro e w' ⟨rfl, hw⟩; obtain rfl := hw.symm; clear hw) | (go_at_call 23; refine (need0_ _ _ (by omega)).mono ?_; rintro e w' ⟨rfl, hw⟩; obtain rfl := hw.symm; clear hw; rw [Int.toNat_natCast]) | (go_at_call 22; refine (pieces0_ _ _ (by omega)).mono ?_; rintro e w' ⟨rfl, hw⟩; obtain rfl := hw.symm; clear hw; rw [Int.toNat_natCast]))
        refine kop.mono ?_
        rintro en w21 ⟨g2, oa1, on1, oc1, oa2, oc2, s7, e7, n7, p7, rfl, h21, r2, r3, r4, r6, r7⟩
        simp only
        rw [hRRx] at r2
        have z0 := h21.c0
        have kdn := wt_done h21
        obtain ⟨C7, hC7⟩ : ∃ C7 : Nat, s7.c = C7 := ⟨_, rfl⟩
        have ksf := wt_safe h21 r3 r4 (by omega) r6
        rw [hC7] at kdn r2 r7
        have b7 : ¬ (2 + (RR : Int)) < (C7 : Int) := by omega
        have HKS := hid ksf
        have HR7 := hid r7
        obtain ⟨L6, hL6⟩ : ∃ L6 : Nat, (T.A.2 ++ [tx]).length = L6 := ⟨_, rfl⟩
        rw [hL6] at hle6 ⊢
        clear kop h21 ksf r3 r4 r6 r7 hC7 hL6
        go_wp2_with fail
        refine kdn.mono ?_
        rintro en w' ⟨rfl, hw⟩
        obtain rfl := hw.symm
        clear hw kdn
        simp only
        go_wp2_with (first | (go_at_call 21; refine (num12 _ _).mono ?_; rintro e w' ⟨rfl, hw⟩; obtain rfl := hw.symm; clear hw) | (go_at_call 23; refine (need0_ _ _ (by omega)).mono ?_; rintro e w' ⟨rfl, hw⟩; obtain rfl := hw.symm; clear hw; rw [Int.toNat_natCast]) | (go_at_call 22; refine (pieces0_ _ _ (by omega)).mono ?_; rintro e w' ⟨rfl, hw⟩; obtain rfl := hw.symm; clear hw; rw [Int.toNat_natCast]))
        refine HKS.out.mono ?_
        rintro en w22 ⟨rfl, h22⟩
        simp only
        have z0 := h22.c0
        have kdn := wt_done h22
        rw [HR7.out] at kdn
        have hle7 : (L6 : Int) ≤ (RR : Int) := by omega
        have e7b : (((C7 + 1 : Nat) : Int) == (C7 : Int) + 1) = true := by simp
        have HF := hid (bel_bel HB1.out HB1.out.size h22.bel)
        clear HKS HR7 h22
        go_wp2_with (first | (go_at_call 21; refine (num12 _ _).mono ?_; rintro e w' ⟨rfl, hw⟩; obtain rfl := hw.symm; clear hw) | (go_at_call 23; refine (need0_ _ _ (by omega)).mono ?_; rintro e w' ⟨rfl, hw⟩; obtain rfl := hw.symm; clear hw; rw [Int.toNat_natCast]) | (go_at_call 22; refine (pieces0_ _ _ (by omega)).mono ?_; rintro e w' ⟨rfl, hw⟩; obtain rfl := hw.symm; clear hw; rw [Int.toNat_natCast]) | (go_at_call 24; refine kdn.mono ?_; rintro e w' ⟨rfl, hw⟩; obtain rfl := hw.symm; clear hw))
        go_ret
        exact ⟨rfl, HF.out⟩
  · have hcase : ND = 0 ∨ (0 < ND ∧ LL < ND) := by
      by_cases h0 : ND = 0
      · exact .inl h0
      · refine .inr ⟨by omega, ?_⟩
        by_cases h1 : LL < ND
        · exact h1
        · refine absurd ?_ hE
          unfold aE
          rw [if_neg (by simp), hND, if_neg h0, if_neg (by omega), hLL, if_neg h1]
    rcases hcase with h0 | ⟨h0, h1⟩
    · have kap := wt_appno h6 hk3 (by omega) ta tn tc (by omega) (by rw [hR4]; exact hE)
      rw [hR4] at kap
      obtain ⟨E, hEE⟩ : ∃ E, aE true tn nx pl RR = E := ⟨_, rfl⟩
      rw [hEE] at kap hE
      have hE0 : (E == 0) = false := by simp; exact hE
      have HS5 := HS3
      obtain ⟨s5, hs5⟩ : ∃ s5, s4 = s5 := ⟨_, rfl⟩
      rw [hs5] at kap HS5 hk3 hn3
      have hk5 := hk3
      have hn5 := hn3
      clear h6 hs5 hEE hR4 HS3
      go_wp2_with (first | (go_at_call 21; refine (num12 _ _).mono ?_; rintro e w' ⟨rfl, hw⟩; obtain rfl := hw.symm; clear hw) | (go_at_call 23; refine (need0_ _ _ (by omega)).mono ?_; rintro e w' ⟨rfl, hw⟩; obtain rfl := hw.symm; clear hw; rw [Int.toNat_natCast]) | (go_at_call 22; refine (pieces0_ _ _ (by omega)).mono ?_; rintro e w' ⟨rfl, hw⟩; obtain rfl := hw.symm; clear hw; rw [Int.toNat_natCast]))
      refine kap.mono ?_
      rintro en w7 ⟨rfl, h7⟩
      simp only
      have kst := wt_state h7 hk5
      have z1 := h7.c1
      have n1 : ¬ (0 : Int) < (ND : Int) := by omega
      clear kap
      go_wp2_with (first | (go_at_call 21; refine (num12 _ _).mono ?_; rintro e w' ⟨rfl, hw⟩; obtain rfl := hw.symm; clear hw) | (go_at_call 22; refine (pieces0_ _ _ (by omega)).mono ?_; rintro e w' ⟨rfl, hw⟩; obtain rfl := hw.symm; clear hw; rw [Int.toNat_natCast]) | (go_at_call 23; refine (need0_ _ _ (by omega)).mono ?_; rintro e w' ⟨rfl, hw⟩; obtain rfl := hw.symm; clear hw; rw [Int.toNat_natCast, hND]))
      refine kst.mono ?_
      rintro en w10 ⟨rfl, h10⟩
      simp only
      have z0 := h10.c0
      have kdn := wt_done h10
      rw [HS5.out.c] at kdn
      have e2b : ((nx : Int) != (nx : Int)) = false := by simp
      have e3b : ((pl : Int) != (pl : Int)) = false := by simp
      clear kst h7
      go_wp2_with (first | (go_at_call 21; refine (num12 _ _).mono ?_; rintro e w' ⟨rfl, hw⟩; obtain rfl := hw.symm; clear hw) | (go_at_call 23; refine (need0_ _ _ (by omega)).mono ?_; rintro e w' ⟨rfl, hw⟩; obtain rfl := hw.symm; clear hw; rw [Int.toNat_natCast]) | (go_at_call 22; refine (pieces0_ _ _ (by omega)).mono ?_; rintro e w' ⟨rfl, hw⟩; obtain rfl := hw.symm; clear hw; rw [Int.toNat_natCast]) | (go_at_call 24; refine kdn.mono ?_; rintro e w' ⟨rfl, hw⟩; obtain rfl := hw.symm; clear hw))
      have kar := wt_arm0 h10
      have z0 := h10.c0
      clear h10 kdn
      go_wp2_with (first | (go_at_call 21; refine (num12 _ _).mono ?_; rintro e w' ⟨rfl, hw⟩; obtain rfl := hw.symm; clear hw) | (go_at_call 23; refine (need0_ _ _ (by omega)).mono ?_; rintro e w' ⟨rfl, hw⟩; obtain rfl := hw.symm; clear hw; rw [Int.toNat_natCast]) | (go_at_call 22; refine (pieces0_ _ _ (by omega)).mono ?_; rintro e w' ⟨rfl, hw⟩; obtain rfl := hw.symm; clear hw; rw [Int.toNat_natCast]))
      refine kar.mono ?_
      rintro en w11 ⟨rfl, h11⟩
      simp only
      have HS5a := hid HS5.out.arm
      have hk6 : (arS s5 []).k = T.s.k := (arS_is s5 []).2.1.trans hk5
      have hn6 : (arS s5 []).n = NN := (arS_is s5 []).1.trans hn5
      obtain ⟨s6, hs6⟩ : ∃ s6, arS s5 [] = s6 := ⟨_, rfl⟩
      rw [hs6] at h11 HS5a hk6 hn6
      have z1 := h11.c1
      have kst := wt_state h11 hk6
      clear kar hs6 HS5 hk5 hn5 h11
      go_wp2_with (first | (go_at_call 21; refine (num12 _ _).mono ?_; rintro e w' ⟨rfl, hw⟩; obtain rfl := hw.symm; clear hw) | (go_at_call 23; refine (need0_ _ _ (by omega)).mono ?_; rintro e w' ⟨rfl, hw⟩; obtain rfl := hw.symm; clear hw; rw [Int.toNat_natCast]) | (go_at_call 22; refine (pieces0_ _ _ (by omega)).mono ?_; rintro e w' ⟨rfl, hw⟩; obtain rfl := hw.symm; clear hw; rw [Int.toNat_natCast]))
      refine kst.mono ?_
      rintro en w12 ⟨rfl, h12⟩
      simp only
      have z1 := h12.c1
      have z0 := h12.c0
      clear kst
      by_cases hck : pcN sn + 11 ≤ RR
      · have hckI : (pcN sn : Int) + 11 ≤ (RR : Int) := by omega
        have kck := wt_ck h12 HS5a.out (by omega) (by omega) hk6 DS.out (by rw [hn6, hRR]; exact hck)
        have hc6 := HS5a.out.ck (by omega) DS.out.b.2.1 (st := st) (by rw [DS.out.b.1, hn6, hRR]; exact hck)
        rw [DS.out.b.1] at hc6
        obtain ⟨cn1, cn2, _⟩ := ckp_n s6 s6.n (ep) (nx) st
        obtain ⟨s8, hs8⟩ : ∃ s8, (ckp s6 s6.n (ep) (nx) st).2 = s8 := ⟨_, rfl⟩
        rw [hs8] at kck hc6 cn1 cn2
        have HS6 := hid hc6.2
        have hk8 := cn2.trans hk6
        have hn8 : s8.n = NN := cn1.trans hn6
        have hRRx : roo s8.n = RR := by rw [hn8, hRR]
        clear h12 hc6 cn1 cn2 hs8 HS5a hk6 hn6
        go_wp2_with (first | (go_at_call 21; refine (num12 _ _).mono ?_; rintro e w' ⟨rfl, hw⟩; obtain rfl := hw.symm; clear hw) | (go_at_call 23; refine (need0_ _ _ (by omega)).mono ?_; rintro e w' ⟨rfl, hw⟩; obtain rfl := hw.symm; clear hw; rw [Int.toNat_natCast]) | (go_at_call 22; refine (pieces0_ _ _ (by omega)).mono ?_; rintro e w' ⟨rfl, hw⟩; obtain rfl := hw.symm; clear hw; rw [Int.toNat_natCast]))
        refine kck.mono ?_
        rintro en w13 ⟨rfl, h13⟩
        simp only
        have z1 := h13.c1
        have z0 := h13.c0
        have kst := wt_state h13 hk8
        clear kck
        go_wp2_with (first | (go_at_call 21; refine (num12 _ _).mono ?_; rintro e w' ⟨rfl, hw⟩; obtain rfl := hw.symm; clear hw) | (go_at_call 23; refine (need0_ _ _ (by omega)).mono ?_; rintro e w' ⟨rfl, hw⟩; obtain rfl := hw.symm; clear hw; rw [Int.toNat_natCast]) | (go_at_call 22; refine (pieces0_ _ _ (by omega)).mono ?_; rintro e w' ⟨rfl, hw⟩; obtain rfl := hw.symm; clear hw; rw [Int.toNat_natCast]))
        refine kst.mono ?_
        rintro en w14 ⟨rfl, h14⟩
        simp only
        have z0 := h14.c0
        have kdn := wt_done h14
        rw [HS6.out.c] at kdn
        have e1b : (((0 + (pcN sn + 3) : Nat) : Int) != (pcN sn : Int) + 3) = false := by simp
        have e2b : ((((ep) + 1 : Nat) : Int) != (((ep) : Nat) : Int) + 1) = false := by simp
        have e3b : ((((nx) : Nat) : Int) != (((nx) : Nat) : Int)) = false := by simp
        have e4b : (((pcN sn : Nat) : Int) != ((pcN sn : Nat) : Int)) = false := by simp
        have hle6 : ([] : List (List Int)).length ≤ RR := Nat.zero_le _
        clear kst h13
        go_wp2_with (go_at_call 24; refine kdn.mono ?_; rintro e w' ⟨rfl, hw⟩; obtain rfl := hw.symm; clear hw)
        have kcr := wt_crash0 h14 HS6.out.P
        have z0 := h14.c0
        clear h14 kdn
        go_wp2_with (first | (go_at_call 21; refine (num12 _ _).mono ?_; rintro e w' ⟨rfl, hw⟩; obtain rfl := hw.symm; clear hw) | (go_at_call 23; refine (need0_ _ _ (by omega)).mono ?_; rintro e w' ⟨rfl, hw⟩; obtain rfl := hw.symm; clear hw; rw [Int.toNat_natCast]) | (go_at_call 22; refine (pieces0_ _ _ (by omega)).mono ?_; rintro e w' ⟨rfl, hw⟩; obtain rfl := hw.symm; clear hw; rw [Int.toNat_natCast]))
        refine kcr.mono ?_
        rintro en w20 ⟨rfl, h20⟩
        simp only
        have z0 := h20.c0
        have kop := wt_open h20 HS6.out
        have hkk6 := HS6.out.k
        clear kcr h20
        go_wp2_with (first | (go_at_call 21; refine (num12 _ _).mono ?_; rintro e w' ⟨rfl, hw⟩; obtain rfl := hw.symm; clear hw) | (go_at_call 23; refine (need0_ _ _ (by omega)).mono ?_; rintro e w' ⟨rfl, hw⟩; obtain rfl := hw.symm; clear hw; rw [Int.toNat_natCast]) | (go_at_call 22; refine (pieces0_ _ _ (by omega)).mono ?_; rintro e w' ⟨rfl, hw⟩; obtain rfl := hw.symm; clear hw; rw [Int.toNat_natCast]))
        refine kop.mono ?_
        rintro en w21 ⟨g2, oa1, on1, oc1, oa2, oc2, s7, e7, n7, p7, rfl, h21, r2, r3, r4, r6, r7⟩
        simp only
        rw [hRRx] at r2
        have z0 := h21.c0
        have kdn := wt_done h21
        obtain ⟨C7, hC7⟩ : ∃ C7 : Nat, s7.c = C7 := ⟨_, rfl⟩
        have ksf := wt_safe h21 r3 r4 (by omega) r6
        rw [hC7] at kdn r2 r7
        have b7 : ¬ (2 + (RR : Int)) < (C7 : Int) := by omega
        have HKS := hid ksf
        have HR7 := hid r7
        obtain ⟨L6, hL6⟩ : ∃ L6 : Nat, ([] : List (List Int)).length = L6 := ⟨_, rfl⟩
        rw [hL6] at hle6 ⊢
        clear kop h21 ksf r3 r4 r6 r7 hC7 hL6
        go_wp2_with fail
        refine kdn.mono ?_
        rintro en w' ⟨rfl, hw⟩
        obtain rfl := hw.symm
        clear hw kdn
        simp only
        go_wp2_with (first | (go_at_call 21; refine (num12 _ _).mono ?_; rintro e w' ⟨rfl, hw⟩; obtain rfl := hw.symm; clear hw) | (go_at_call 23; refine (need0_ _ _ (by omega)).mono ?_; rintro e w' ⟨rfl, hw⟩; obtain rfl := hw.symm; clear hw; rw [Int.toNat_natCast]) | (go_at_call 22; refine (pieces0_ _ _ (by omega)).mono ?_; rintro e w' ⟨rfl, hw⟩; obtain rfl := hw.symm; clear hw; rw [Int.toNat_natCast]))
        refine HKS.out.mono ?_
        rintro en w22 ⟨rfl, h22⟩
        simp only
        have z0 := h22.c0
        have kdn := wt_done h22
        rw [HR7.out] at kdn
        have hle7 : (L6 : Int) ≤ (RR : Int) := by omega
        have e7b : (((C7 + 1 : Nat) : Int) == (C7 : Int) + 1) = true := by simp
        have HF := hid (bel_bel HB1.out HB1.out.size h22.bel)
        clear HKS HR7 h22
        go_wp2_with (first | (go_at_call 21; refine (num12 _ _).mono ?_; rintro e w' ⟨rfl, hw⟩; obtain rfl := hw.symm; clear hw) | (go_at_call 23; refine (need0_ _ _ (by omega)).mono ?_; rintro e w' ⟨rfl, hw⟩; obtain rfl := hw.symm; clear hw; rw [Int.toNat_natCast]) | (go_at_call 22; refine (pieces0_ _ _ (by omega)).mono ?_; rintro e w' ⟨rfl, hw⟩; obtain rfl := hw.symm; clear hw; rw [Int.toNat_natCast]) | (go_at_call 24; refine kdn.mono ?_; rintro e w' ⟨rfl, hw⟩; obtain rfl := hw.symm; clear hw))
        go_ret
        exact ⟨rfl, HF.out⟩
      · have hckI : ¬ (pcN sn : Int) + 11 ≤ (RR : Int) := by omega
        have hkE : kE true sn (ep) (nx) (roo s6.n) = 112 := by
          have h1 := kE_is (m := sn) (R := roo s6.n) (show (nx) ≤ 1000000 by omega) (show (ep) ≤ 1000000 by omega)
          rcases h1 with h1 | h1
          · exact absurd (kE_ok h1) (by rw [hn6, hRR]; exact hck)
          · exact h1
        have kck := wt_ckno h12 hk6 sa sn sc (by omega) (by rw [hkE]; decide)
        rw [hkE] at kck
        have hRRx : roo s6.n = RR := by rw [hn6, hRR]
        have hle6 : T.A.2.length ≤ RR := by
          obtain ⟨qq, hq1, _⟩ := HS5a.out.q
          have hl6 := ends_len hq1.ld
          have hl7 := hq1.ld.room
          rw [hRRx] at hl7
          exact Nat.le_trans (Nat.le_trans (Nat.le_add_left _ _) hl6) hl7
        clear h12
        go_wp2_with (first | (go_at_call 21; refine (num12 _ _).mono ?_; rintro e w' ⟨rfl, hw⟩; obtain rfl := hw.symm; clear hw) | (go_at_call 23; refine (need0_ _ _ (by omega)).mono ?_; rintro e w' ⟨rfl, hw⟩; obtain rfl := hw.symm; clear hw; rw [Int.toNat_natCast]) | (go_at_call 22; refine (pieces0_ _ _ (by omega)).mono ?_; rintro e w' ⟨rfl, hw⟩; obtain rfl := hw.symm; clear hw; rw [Int.toNat_natCast]))
        refine kck.mono ?_
        rintro en w13 ⟨rfl, h13⟩
        simp only
        have z1 := h13.c1
        have z0 := h13.c0
        have kdn := wt_done h13
        rw [HS5a.out.c] at kdn
        clear kck
        go_wp2_with (first | (go_at_call 21; refine (num12 _ _).mono ?_; rintro e w' ⟨rfl, hw⟩; obtain rfl := hw.symm; clear hw) | (go_at_call 23; refine (need0_ _ _ (by omega)).mono ?_; rintro e w' ⟨rfl, hw⟩; obtain rfl := hw.symm; clear hw; rw [Int.toNat_natCast]) | (go_at_call 22; refine (pieces0_ _ _ (by omega)).mono ?_; rintro e w' ⟨rfl, hw⟩; obtain rfl := hw.symm; clear hw; rw [Int.toNat_natCast]) | (go_at_call 24; refine kdn.mono ?_; rintro e w' ⟨rfl, hw⟩; obtain rfl := hw.symm; clear hw))
        have kcr := wt_crash0 h13 HS5a.out.P
        have z0 := h13.c0
        clear h13 kdn
        go_wp2_with (first | (go_at_call 21; refine (num12 _ _).mono ?_; rintro e w' ⟨rfl, hw⟩; obtain rfl := hw.symm; clear hw) | (go_at_call 23; refine (need0_ _ _ (by omega)).mono ?_; rintro e w' ⟨rfl, hw⟩; obtain rfl := hw.symm; clear hw; rw [Int.toNat_natCast]) | (go_at_call 22; refine (pieces0_ _ _ (by omega)).mono ?_; rintro e w' ⟨rfl, hw⟩; obtain rfl := hw.symm; clear hw; rw [Int.toNat_natCast]))
        refine kcr.mono ?_
        rintro en w20 ⟨rfl, h20⟩
        simp only
        have z0 := h20.c0
        have kop := wt_open h20 HS5a.out
        have hkk6 := HS5a.out.k
        clear kcr h20
        go_wp2_with (first | (go_at_call 21; refine (num12 _ _).mono ?_; rintro e w' ⟨rfl, hw⟩; obtain rfl := hw.symm; clear hw) | (go_at_call 23; refine (need0_ _ _ (by omega)).mono ?_; rintro e w' ⟨rfl, hw⟩; obtain rfl := hw.symm; clear hw; rw [Int.toNat_natCast]) | (go_at_call 22; refine (pieces0_ _ _ (by omega)).mono ?_; rintro e w' ⟨rfl, hw⟩; obtain rfl := hw.symm; clear hw; rw [Int.toNat_natCast]))
        refine kop.mono ?_
        rintro en w21 ⟨g2, oa1, on1, oc1, oa2, oc2, s7, e7, n7, p7, rfl, h21, r2, r3, r4, r6, r7⟩
        simp only
        rw [hRRx] at r2
        have z0 := h21.c0
        have kdn := wt_done h21
        obtain ⟨C7, hC7⟩ : ∃ C7 : Nat, s7.c = C7 := ⟨_, rfl⟩
        have ksf := wt_safe h21 r3 r4 (by omega) r6
        rw [hC7] at kdn r2 r7
        have b7 : ¬ (2 + (RR : Int)) < (C7 : Int) := by omega
        have HKS := hid ksf
        have HR7 := hid r7
        obtain ⟨L6, hL6⟩ : ∃ L6 : Nat, T.A.2.length = L6 := ⟨_, rfl⟩
        rw [hL6] at hle6 ⊢
        clear kop h21 ksf r3 r4 r6 r7 hC7 hL6
        go_wp2_with fail
        refine kdn.mono ?_
        rintro en w' ⟨rfl, hw⟩
        obtain rfl := hw.symm
        clear hw kdn
        simp only
        go_wp2_with (first | (go_at_call 21; refine (num12 _ _).mono ?_; rintro e w' ⟨rfl, hw⟩; obtain rfl := hw.symm; clear hw) | (go_at_call 23; refine (need0_ _ _ (by omega)).mono ?_; rintro e w' ⟨rfl, hw⟩; obtain rfl := hw.symm; clear hw; rw [Int.toNat_natCast]) | (go_at_call 22; refine (pieces0_ _ _ (by omega)).mono ?_; rintro e w' ⟨rfl, hw⟩; obtain rfl := hw.symm; clear hw; rw [Int.toNat_natCast]))
        refine HKS.out.mono ?_
        rintro en w22 ⟨rfl, h22⟩
        simp only
        have z0 := h22.c0
        have kdn := wt_done h22
        rw [HR7.out] at kdn
        have hle7 : (L6 : Int) ≤ (RR : Int) := by omega
        have e7b : (((C7 + 1 : Nat) : Int) == (C7 : Int) + 1) = true := by simp
        have HF := hid (bel_bel HB1.out HB1.out.size h22.bel)
        clear HKS HR7 h22
        go_wp2_with (first | (go_at_call 21; refine (num12 _ _).mono ?_; rintro e w' ⟨rfl, hw⟩; obtain rfl := hw.symm; clear hw) | (go_at_call 23; refine (need0_ _ _ (by omega)).mono ?_; rintro e w' ⟨rfl, hw⟩; obtain rfl := hw.symm; clear hw; rw [Int.toNat_natCast]) | (go_at_call 22; refine (pieces0_ _ _ (by omega)).mono ?_; rintro e w' ⟨rfl, hw⟩; obtain rfl := hw.symm; clear hw; rw [Int.toNat_natCast]) | (go_at_call 24; refine kdn.mono ?_; rintro e w' ⟨rfl, hw⟩; obtain rfl := hw.symm; clear hw))
        go_ret
        exact ⟨rfl, HF.out⟩
    · have kap := wt_appno h6 hk3 (by omega) ta tn tc (by omega) (by rw [hR4]; exact hE)
      rw [hR4] at kap
      obtain ⟨E, hEE⟩ : ∃ E, aE true tn nx pl RR = E := ⟨_, rfl⟩
      rw [hEE] at kap hE
      have hE0 : (E == 0) = false := by simp; exact hE
      have HS5 := HS3
      obtain ⟨s5, hs5⟩ : ∃ s5, s4 = s5 := ⟨_, rfl⟩
      rw [hs5] at kap HS5 hk3 hn3
      have hk5 := hk3
      have hn5 := hn3
      clear h6 hs5 hEE hR4 HS3
      go_wp2_with (first | (go_at_call 21; refine (num12 _ _).mono ?_; rintro e w' ⟨rfl, hw⟩; obtain rfl := hw.symm; clear hw) | (go_at_call 23; refine (need0_ _ _ (by omega)).mono ?_; rintro e w' ⟨rfl, hw⟩; obtain rfl := hw.symm; clear hw; rw [Int.toNat_natCast]) | (go_at_call 22; refine (pieces0_ _ _ (by omega)).mono ?_; rintro e w' ⟨rfl, hw⟩; obtain rfl := hw.symm; clear hw; rw [Int.toNat_natCast]))
      refine kap.mono ?_
      rintro en w7 ⟨rfl, h7⟩
      simp only
      have kst := wt_state h7 hk5
      have z1 := h7.c1
      have n1 : (0 : Int) < (ND : Int) := by omega
      have n2 : ¬ (ND : Int) ≤ (LL : Int) := by omega
      clear kap
      go_wp2_with (first | (go_at_call 21; refine (num12 _ _).mono ?_; rintro e w' ⟨rfl, hw⟩; obtain rfl := hw.symm; clear hw) | (go_at_call 22; refine (pieces0_ _ _ (by omega)).mono ?_; rintro e w' ⟨rfl, hw⟩; obtain rfl := hw.symm; clear hw; rw [Int.toNat_natCast]) | (go_at_call 23; refine (need0_ _ _ (by omega)).mono ?_; rintro e w' ⟨rfl, hw⟩; obtain rfl := hw.symm; clear hw; rw [Int.toNat_natCast, hND]))
      refine kst.mono ?_
      rintro en w10 ⟨rfl, h10⟩
      simp only
      have z0 := h10.c0
      have kdn := wt_done h10
      rw [HS5.out.c] at kdn
      have e2b : ((nx : Int) != (nx : Int)) = false := by simp
      have e3b : ((pl : Int) != (pl : Int)) = false := by simp
      clear kst h7
      go_wp2_with (first | (go_at_call 21; refine (num12 _ _).mono ?_; rintro e w' ⟨rfl, hw⟩; obtain rfl := hw.symm; clear hw) | (go_at_call 23; refine (need0_ _ _ (by omega)).mono ?_; rintro e w' ⟨rfl, hw⟩; obtain rfl := hw.symm; clear hw; rw [Int.toNat_natCast]) | (go_at_call 22; refine (pieces0_ _ _ (by omega)).mono ?_; rintro e w' ⟨rfl, hw⟩; obtain rfl := hw.symm; clear hw; rw [Int.toNat_natCast]) | (go_at_call 24; refine kdn.mono ?_; rintro e w' ⟨rfl, hw⟩; obtain rfl := hw.symm; clear hw))
      have kar := wt_arm0 h10
      have z0 := h10.c0
      clear h10 kdn
      go_wp2_with (first | (go_at_call 21; refine (num12 _ _).mono ?_; rintro e w' ⟨rfl, hw⟩; obtain rfl := hw.symm; clear hw) | (go_at_call 23; refine (need0_ _ _ (by omega)).mono ?_; rintro e w' ⟨rfl, hw⟩; obtain rfl := hw.symm; clear hw; rw [Int.toNat_natCast]) | (go_at_call 22; refine (pieces0_ _ _ (by omega)).mono ?_; rintro e w' ⟨rfl, hw⟩; obtain rfl := hw.symm; clear hw; rw [Int.toNat_natCast]))
      refine kar.mono ?_
      rintro en w11 ⟨rfl, h11⟩
      simp only
      have HS5a := hid HS5.out.arm
      have hk6 : (arS s5 []).k = T.s.k := (arS_is s5 []).2.1.trans hk5
      have hn6 : (arS s5 []).n = NN := (arS_is s5 []).1.trans hn5
      obtain ⟨s6, hs6⟩ : ∃ s6, arS s5 [] = s6 := ⟨_, rfl⟩
      rw [hs6] at h11 HS5a hk6 hn6
      have z1 := h11.c1
      have kst := wt_state h11 hk6
      clear kar hs6 HS5 hk5 hn5 h11
      go_wp2_with (first | (go_at_call 21; refine (num12 _ _).mono ?_; rintro e w' ⟨rfl, hw⟩; obtain rfl := hw.symm; clear hw) | (go_at_call 23; refine (need0_ _ _ (by omega)).mono ?_; rintro e w' ⟨rfl, hw⟩; obtain rfl := hw.symm; clear hw; rw [Int.toNat_natCast]) | (go_at_call 22; refine (pieces0_ _ _ (by omega)).mono ?_; rintro e w' ⟨rfl, hw⟩; obtain rfl := hw.symm; clear hw; rw [Int.toNat_natCast]))
      refine kst.mono ?_
      rintro en w12 ⟨rfl, h12⟩
      simp only
      have z1 := h12.c1
      have z0 := h12.c0
      clear kst
      by_cases hck : pcN sn + 11 ≤ RR
      · have hckI : (pcN sn : Int) + 11 ≤ (RR : Int) := by omega
        have kck := wt_ck h12 HS5a.out (by omega) (by omega) hk6 DS.out (by rw [hn6, hRR]; exact hck)
        have hc6 := HS5a.out.ck (by omega) DS.out.b.2.1 (st := st) (by rw [DS.out.b.1, hn6, hRR]; exact hck)
        rw [DS.out.b.1] at hc6
        obtain ⟨cn1, cn2, _⟩ := ckp_n s6 s6.n (ep) (nx) st
        obtain ⟨s8, hs8⟩ : ∃ s8, (ckp s6 s6.n (ep) (nx) st).2 = s8 := ⟨_, rfl⟩
        rw [hs8] at kck hc6 cn1 cn2
        have HS6 := hid hc6.2
        have hk8 := cn2.trans hk6
        have hn8 : s8.n = NN := cn1.trans hn6
        have hRRx : roo s8.n = RR := by rw [hn8, hRR]
        clear h12 hc6 cn1 cn2 hs8 HS5a hk6 hn6
        go_wp2_with (first | (go_at_call 21; refine (num12 _ _).mono ?_; rintro e w' ⟨rfl, hw⟩; obtain rfl := hw.symm; clear hw) | (go_at_call 23; refine (need0_ _ _ (by omega)).mono ?_; rintro e w' ⟨rfl, hw⟩; obtain rfl := hw.symm; clear hw; rw [Int.toNat_natCast]) | (go_at_call 22; refine (pieces0_ _ _ (by omega)).mono ?_; rintro e w' ⟨rfl, hw⟩; obtain rfl := hw.symm; clear hw; rw [Int.toNat_natCast]))
        refine kck.mono ?_
        rintro en w13 ⟨rfl, h13⟩
        simp only
        have z1 := h13.c1
        have z0 := h13.c0
        have kst := wt_state h13 hk8
        clear kck
        go_wp2_with (first | (go_at_call 21; refine (num12 _ _).mono ?_; rintro e w' ⟨rfl, hw⟩; obtain rfl := hw.symm; clear hw) | (go_at_call 23; refine (need0_ _ _ (by omega)).mono ?_; rintro e w' ⟨rfl, hw⟩; obtain rfl := hw.symm; clear hw; rw [Int.toNat_natCast]) | (go_at_call 22; refine (pieces0_ _ _ (by omega)).mono ?_; rintro e w' ⟨rfl, hw⟩; obtain rfl := hw.symm; clear hw; rw [Int.toNat_natCast]))
        refine kst.mono ?_
        rintro en w14 ⟨rfl, h14⟩
        simp only
        have z0 := h14.c0
        have kdn := wt_done h14
        rw [HS6.out.c] at kdn
        have e1b : (((0 + (pcN sn + 3) : Nat) : Int) != (pcN sn : Int) + 3) = false := by simp
        have e2b : ((((ep) + 1 : Nat) : Int) != (((ep) : Nat) : Int) + 1) = false := by simp
        have e3b : ((((nx) : Nat) : Int) != (((nx) : Nat) : Int)) = false := by simp
        have e4b : (((pcN sn : Nat) : Int) != ((pcN sn : Nat) : Int)) = false := by simp
        have hle6 : ([] : List (List Int)).length ≤ RR := Nat.zero_le _
        clear kst h13
        go_wp2_with (go_at_call 24; refine kdn.mono ?_; rintro e w' ⟨rfl, hw⟩; obtain rfl := hw.symm; clear hw)
        have kcr := wt_crash0 h14 HS6.out.P
        have z0 := h14.c0
        clear h14 kdn
        go_wp2_with (first | (go_at_call 21; refine (num12 _ _).mono ?_; rintro e w' ⟨rfl, hw⟩; obtain rfl := hw.symm; clear hw) | (go_at_call 23; refine (need0_ _ _ (by omega)).mono ?_; rintro e w' ⟨rfl, hw⟩; obtain rfl := hw.symm; clear hw; rw [Int.toNat_natCast]) | (go_at_call 22; refine (pieces0_ _ _ (by omega)).mono ?_; rintro e w' ⟨rfl, hw⟩; obtain rfl := hw.symm; clear hw; rw [Int.toNat_natCast]))
        refine kcr.mono ?_
        rintro en w20 ⟨rfl, h20⟩
        simp only
        have z0 := h20.c0
        have kop := wt_open h20 HS6.out
        have hkk6 := HS6.out.k
        clear kcr h20
        go_wp2_with (first | (go_at_call 21; refine (num12 _ _).mono ?_; rintro e w' ⟨rfl, hw⟩; obtain rfl := hw.symm; clear hw) | (go_at_call 23; refine (need0_ _ _ (by omega)).mono ?_; rintro e w' ⟨rfl, hw⟩; obtain rfl := hw.symm; clear hw; rw [Int.toNat_natCast]) | (go_at_call 22; refine (pieces0_ _ _ (by omega)).mono ?_; rintro e w' ⟨rfl, hw⟩; obtain rfl := hw.symm; clear hw; rw [Int.toNat_natCast]))
        refine kop.mono ?_
        rintro en w21 ⟨g2, oa1, on1, oc1, oa2, oc2, s7, e7, n7, p7, rfl, h21, r2, r3, r4, r6, r7⟩
        simp only
        rw [hRRx] at r2
        have z0 := h21.c0
        have kdn := wt_done h21
        obtain ⟨C7, hC7⟩ : ∃ C7 : Nat, s7.c = C7 := ⟨_, rfl⟩
        have ksf := wt_safe h21 r3 r4 (by omega) r6
        rw [hC7] at kdn r2 r7
        have b7 : ¬ (2 + (RR : Int)) < (C7 : Int) := by omega
        have HKS := hid ksf
        have HR7 := hid r7
        obtain ⟨L6, hL6⟩ : ∃ L6 : Nat, ([] : List (List Int)).length = L6 := ⟨_, rfl⟩
        rw [hL6] at hle6 ⊢
        clear kop h21 ksf r3 r4 r6 r7 hC7 hL6
        go_wp2_with fail
        refine kdn.mono ?_
        rintro en w' ⟨rfl, hw⟩
        obtain rfl := hw.symm
        clear hw kdn
        simp only
        go_wp2_with (first | (go_at_call 21; refine (num12 _ _).mono ?_; rintro e w' ⟨rfl, hw⟩; obtain rfl := hw.symm; clear hw) | (go_at_call 23; refine (need0_ _ _ (by omega)).mono ?_; rintro e w' ⟨rfl, hw⟩; obtain rfl := hw.symm; clear hw; rw [Int.toNat_natCast]) | (go_at_call 22; refine (pieces0_ _ _ (by omega)).mono ?_; rintro e w' ⟨rfl, hw⟩; obtain rfl := hw.symm; clear hw; rw [Int.toNat_natCast]))
        refine HKS.out.mono ?_
        rintro en w22 ⟨rfl, h22⟩
        simp only
        have z0 := h22.c0
        have kdn := wt_done h22
        rw [HR7.out] at kdn
        have hle7 : (L6 : Int) ≤ (RR : Int) := by omega
        have e7b : (((C7 + 1 : Nat) : Int) == (C7 : Int) + 1) = true := by simp
        have HF := hid (bel_bel HB1.out HB1.out.size h22.bel)
        clear HKS HR7 h22
        go_wp2_with (first | (go_at_call 21; refine (num12 _ _).mono ?_; rintro e w' ⟨rfl, hw⟩; obtain rfl := hw.symm; clear hw) | (go_at_call 23; refine (need0_ _ _ (by omega)).mono ?_; rintro e w' ⟨rfl, hw⟩; obtain rfl := hw.symm; clear hw; rw [Int.toNat_natCast]) | (go_at_call 22; refine (pieces0_ _ _ (by omega)).mono ?_; rintro e w' ⟨rfl, hw⟩; obtain rfl := hw.symm; clear hw; rw [Int.toNat_natCast]) | (go_at_call 24; refine kdn.mono ?_; rintro e w' ⟨rfl, hw⟩; obtain rfl := hw.symm; clear hw))
        go_ret
        exact ⟨rfl, HF.out⟩
      · have hckI : ¬ (pcN sn : Int) + 11 ≤ (RR : Int) := by omega
        have hkE : kE true sn (ep) (nx) (roo s6.n) = 112 := by
          have h1 := kE_is (m := sn) (R := roo s6.n) (show (nx) ≤ 1000000 by omega) (show (ep) ≤ 1000000 by omega)
          rcases h1 with h1 | h1
          · exact absurd (kE_ok h1) (by rw [hn6, hRR]; exact hck)
          · exact h1
        have kck := wt_ckno h12 hk6 sa sn sc (by omega) (by rw [hkE]; decide)
        rw [hkE] at kck
        have hRRx : roo s6.n = RR := by rw [hn6, hRR]
        have hle6 : T.A.2.length ≤ RR := by
          obtain ⟨qq, hq1, _⟩ := HS5a.out.q
          have hl6 := ends_len hq1.ld
          have hl7 := hq1.ld.room
          rw [hRRx] at hl7
          exact Nat.le_trans (Nat.le_trans (Nat.le_add_left _ _) hl6) hl7
        clear h12
        go_wp2_with (first | (go_at_call 21; refine (num12 _ _).mono ?_; rintro e w' ⟨rfl, hw⟩; obtain rfl := hw.symm; clear hw) | (go_at_call 23; refine (need0_ _ _ (by omega)).mono ?_; rintro e w' ⟨rfl, hw⟩; obtain rfl := hw.symm; clear hw; rw [Int.toNat_natCast]) | (go_at_call 22; refine (pieces0_ _ _ (by omega)).mono ?_; rintro e w' ⟨rfl, hw⟩; obtain rfl := hw.symm; clear hw; rw [Int.toNat_natCast]))
        refine kck.mono ?_
        rintro en w13 ⟨rfl, h13⟩
        simp only
        have z1 := h13.c1
        have z0 := h13.c0
        have kdn := wt_done h13
        rw [HS5a.out.c] at kdn
        clear kck
        go_wp2_with (first | (go_at_call 21; refine (num12 _ _).mono ?_; rintro e w' ⟨rfl, hw⟩; obtain rfl := hw.symm; clear hw) | (go_at_call 23; refine (need0_ _ _ (by omega)).mono ?_; rintro e w' ⟨rfl, hw⟩; obtain rfl := hw.symm; clear hw; rw [Int.toNat_natCast]) | (go_at_call 22; refine (pieces0_ _ _ (by omega)).mono ?_; rintro e w' ⟨rfl, hw⟩; obtain rfl := hw.symm; clear hw; rw [Int.toNat_natCast]) | (go_at_call 24; refine kdn.mono ?_; rintro e w' ⟨rfl, hw⟩; obtain rfl := hw.symm; clear hw))
        have kcr := wt_crash0 h13 HS5a.out.P
        have z0 := h13.c0
        clear h13 kdn
        go_wp2_with (first | (go_at_call 21; refine (num12 _ _).mono ?_; rintro e w' ⟨rfl, hw⟩; obtain rfl := hw.symm; clear hw) | (go_at_call 23; refine (need0_ _ _ (by omega)).mono ?_; rintro e w' ⟨rfl, hw⟩; obtain rfl := hw.symm; clear hw; rw [Int.toNat_natCast]) | (go_at_call 22; refine (pieces0_ _ _ (by omega)).mono ?_; rintro e w' ⟨rfl, hw⟩; obtain rfl := hw.symm; clear hw; rw [Int.toNat_natCast]))
        refine kcr.mono ?_
        rintro en w20 ⟨rfl, h20⟩
        simp only
        have z0 := h20.c0
        have kop := wt_open h20 HS5a.out
        have hkk6 := HS5a.out.k
        clear kcr h20
        go_wp2_with (first | (go_at_call 21; refine (num12 _ _).mono ?_; rintro e w' ⟨rfl, hw⟩; obtain rfl := hw.symm; clear hw) | (go_at_call 23; refine (need0_ _ _ (by omega)).mono ?_; rintro e w' ⟨rfl, hw⟩; obtain rfl := hw.symm; clear hw; rw [Int.toNat_natCast]) | (go_at_call 22; refine (pieces0_ _ _ (by omega)).mono ?_; rintro e w' ⟨rfl, hw⟩; obtain rfl := hw.symm; clear hw; rw [Int.toNat_natCast]))
        refine kop.mono ?_
        rintro en w21 ⟨g2, oa1, on1, oc1, oa2, oc2, s7, e7, n7, p7, rfl, h21, r2, r3, r4, r6, r7⟩
        simp only
        rw [hRRx] at r2
        have z0 := h21.c0
        have kdn := wt_done h21
        obtain ⟨C7, hC7⟩ : ∃ C7 : Nat, s7.c = C7 := ⟨_, rfl⟩
        have ksf := wt_safe h21 r3 r4 (by omega) r6
        rw [hC7] at kdn r2 r7
        have b7 : ¬ (2 + (RR : Int)) < (C7 : Int) := by omega
        have HKS := hid ksf
        have HR7 := hid r7
        obtain ⟨L6, hL6⟩ : ∃ L6 : Nat, T.A.2.length = L6 := ⟨_, rfl⟩
        rw [hL6] at hle6 ⊢
        clear kop h21 ksf r3 r4 r6 r7 hC7 hL6
        go_wp2_with fail
        refine kdn.mono ?_
        rintro en w' ⟨rfl, hw⟩
        obtain rfl := hw.symm
        clear hw kdn
        simp only
        go_wp2_with (first | (go_at_call 21; refine (num12 _ _).mono ?_; rintro e w' ⟨rfl, hw⟩; obtain rfl := hw.symm; clear hw) | (go_at_call 23; refine (need0_ _ _ (by omega)).mono ?_; rintro e w' ⟨rfl, hw⟩; obtain rfl := hw.symm; clear hw; rw [Int.toNat_natCast]) | (go_at_call 22; refine (pieces0_ _ _ (by omega)).mono ?_; rintro e w' ⟨rfl, hw⟩; obtain rfl := hw.symm; clear hw; rw [Int.toNat_natCast]))
        refine HKS.out.mono ?_
        rintro en w22 ⟨rfl, h22⟩
        simp only
        have z0 := h22.c0
        have kdn := wt_done h22
        rw [HR7.out] at kdn
        have hle7 : (L6 : Int) ≤ (RR : Int) := by omega
        have e7b : (((C7 + 1 : Nat) : Int) == (C7 : Int) + 1) = true := by simp
        have HF := hid (bel_bel HB1.out HB1.out.size h22.bel)
        clear HKS HR7 h22
        go_wp2_with (first | (go_at_call 21; refine (num12 _ _).mono ?_; rintro e w' ⟨rfl, hw⟩; obtain rfl := hw.symm; clear hw) | (go_at_call 23; refine (need0_ _ _ (by omega)).mono ?_; rintro e w' ⟨rfl, hw⟩; obtain rfl := hw.symm; clear hw; rw [Int.toNat_natCast]) | (go_at_call 22; refine (pieces0_ _ _ (by omega)).mono ?_; rintro e w' ⟨rfl, hw⟩; obtain rfl := hw.symm; clear hw; rw [Int.toNat_natCast]) | (go_at_call 24; refine kdn.mono ?_; rintro e w' ⟨rfl, hw⟩; obtain rfl := hw.symm; clear hw))
        go_ret
        exact ⟨rfl, HF.out⟩
end Go.Proofs.YtblcpdffiafgnaaGreatDoor
