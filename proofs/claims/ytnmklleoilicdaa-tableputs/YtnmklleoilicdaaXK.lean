import Derived.Test.YtnmklleoilicdaaXJ
namespace Go.Proofs.Ytnmklleoilicdaa
set_option maxRecDepth 100000
open Go.RowKit Go.Shelf Go.Maps
set_option linter.unusedVariables false

set_option maxHeartbeats 2000000 in
theorem tablePuts_ (U : Nat → Prop) (a : Option Addr) (n c : Nat) (l : List Sx) (t : Int) (w : World) (s : Sl w U a n l) (hU : ∀ x, U x → x < w.heap.size) (hn : n ≤ 140737488355328) (ht : -9223372036854775808 ≤ t ∧ t ≤ 9223372036854775807) :
    Calls Try.prog 3 #[.slice a n c, .int .i64 t] w fun e w' => e = .returned (.bool true) ∧ Below w.heap.size w w' := by
  have k1 := first_ w
  have kn := fun x wx => num_ x wx
  have HS := hid s
  have HU := hid hU
  have HLN : Hid (l.length = n) := s.len
  clear s hU
  cases hsho : shortS l with
  | false =>
    go_enter Try.func3, Try.ntmps3
    go_wp2_with fail
    refine k1.mono ?_
    rintro e w1 ⟨rfl, g1⟩
    have HS := hid (HS.out.below g1)
    go_wp2_with fail
    refine (short_ U a n c l w1 HS.out (by omega)).mono ?_
    rintro e w2 ⟨rfl, bb⟩
    rw [hsho]
    go_wp2_with fail
    go_ret
    exact ⟨rfl, bel_bel g1 g1.size bb⟩
  | true =>
    have HSL := hid (short_all hsho)
    by_cases hn0 : n = 0
    · have e0 : decide ((n : Int) > 0) = false := decide_eq_false (by omega)
      have e1 : decide (0 < n) = false := decide_eq_false (by omega)
      have HN0 := hid hn0
      clear hn0
      go_enter Try.func3, Try.ntmps3
      go_wp2_with fail
      refine k1.mono ?_
      rintro e w1 ⟨rfl, g1⟩
      have G := hid g1
      have HS := hid (HS.out.below g1)
      clear g1 k1
      go_wp2_with fail
      refine (short_ U a n c l w1 HS.out (by omega)).mono ?_
      rintro e w2 ⟨rfl, bb⟩
      rw [hsho]
      have G := hid (bel_bel G.out G.out.size bb)
      have G2 := G
      have HW2 := hid G.out.size
      have HS := hid (HS.out.below bb)
      clear bb
      go_wp2_with fail
      refine (lend_ U a n c l w2 HS.out (by have := HSL.out.1; have := HLN.out; omega) HSL.out.2).mono ?_
      rintro e w3 ⟨m, vs, vk, vv, es, rfl, ln, hes⟩
      have HEN : Hid (es.length = n) := by have h := congrArg List.length hes; rw [List.length_map, HLN.out] at h; exact h
      have hnn : n ≤ 2000 := by have := HSL.out.1; have := HLN.out; omega
      have HES := hid hes
      have HLn := hid ln
      have HS := hid (HS.out.step fun x hx hu _ => ln.bel.block x hx)
      have G := hid (bel_bel G.out G.out.size ln.bel)
      have HB3 := hid ln.bel.size
      rw [endS_eq] at ln
      obtain ⟨gs, cs, hvs, hcs, hcm, hsl⟩ := ln.sl
      rw [HEN.out] at hvs hcs hsl
      have HVS := hid hvs
      have HSM := hid (hsl.cut (k := n) (by omega))
      have hcut : (es.map (·.s) ++ [(⟨[], [], true⟩ : Sx)]).take n = l := by rw [hes, ← HLN.out]; simp
      rw [hcut] at HSM
      have cm0 : w3.cell? ⟨m, 0, none⟩ = some (.slice (some ⟨gs, 0, none⟩) (n + 1) cs) := by
        rw [cell_of_row w3 m 0 _ 41 (0, 0) ln.var, hvs]; rfl
      have ko := of_ w3 m gs n cs cm0 hcs hcm
      clear ln hes hvs hsl hcut cm0
      go_wp2_with fail
      refine ko.mono ?_
      rintro e wy ⟨rfl, hw⟩
      rw [hw]
      clear hw wy ko
      obtain ⟨zs, HZ⟩ : ∃ zs, Hid (okB l = zs) := ⟨_, rfl⟩
      obtain ⟨p, HP⟩ : ∃ p, Hid (zs.length = p) := ⟨_, rfl⟩
      obtain ⟨E, HE⟩ : ∃ E, Hid (okE l = E) := ⟨_, rfl⟩
      have HPL : Hid (p ≤ 1048000) := by have h := okB_len l 2000 HSL.out.1; rw [HZ.out, HP.out] at h; show _ ≤ _; omega
      go_wp2_with fail
      refine (s_putA (some ⟨gs, 0, none⟩) n (n + 1) p l zs E G.out HSM.out (by omega) HZ.out HP.out HE.out).mono ?_
      rintro e w4 ⟨pa, pc, rfl, v, g, bb⟩
      have G := hid g
      have HS := hid (HS.out.below bb)
      have HLn := hid (HLn.out.below bb)
      have VP := hid v
      have HB3 : Hid (w2.heap.size ≤ w4.heap.size) := Nat.le_trans HB3.out bb.size
      clear g bb v HSM
      go_wp2_with fail
      refine (s_rputA a n c p l zs E G.out HS.out hnn HSL.out.2 HZ.out HP.out HE.out).mono ?_
      rintro e w5 ⟨qa, qc, rfl, v, g, bb⟩
      have G := hid g
      have HS := hid (HS.out.below bb)
      have HLn := hid (HLn.out.below bb)
      have VP := hid (VP.out.lift bb (fun _ _ h => h))
      have VQ := hid v
      have HB3 : Hid (w2.heap.size ≤ w5.heap.size) := Nat.le_trans HB3.out bb.size
      clear g bb v
      go_wp2_with fail
      refine (s_sameB pc qc true G.out VP.out.bs VQ.out.bs (by have := HPL.out; omega) (by have := HPL.out; omega) (by simp)).mono ?_
      rintro e w6 ⟨rfl, g, bb⟩
      have G := hid g
      have HS := hid (HS.out.below bb)
      have HLn := hid (HLn.out.below bb)
      have HB3 : Hid (w2.heap.size ≤ w6.heap.size) := Nat.le_trans HB3.out bb.size
      clear g bb VP VQ
      have hEE : (E != E) = false := by simp
      have hEQ : (E == E) = true := by simp
      go_wp2_with fail
      refine (kn _ _).mono ?_
      rintro e wy ⟨rfl, hw⟩
      rw [hw]
      clear hw wy
      go_wp2_with fail
      have hln' := HLn.out
      rw [endS_eq] at hln'
      refine (held_ w2 w6 m vs vk vv es U a n c l hln' HS.out HES.out (fun x _ hu => ⟨fun e he => ⟨by have := HU.out x hu; have := (HLn.out.y e he).bk; have := HW2.out; omega, by have := HU.out x hu; have := (HLn.out.y e he).bv; have := HW2.out; omega⟩, fun f => by have := (HLn.out.os.lt x f).1; have := HU.out x hu; have := HW2.out; omega⟩) hnn HSL.out.2).mono ?_
      rintro e w7 ⟨rfl, b7, -, -⟩
      have G7 := hid (G2.out.trans ⟨b7.os, b7.tape, b7.output, b7.size, fun x hx => b7.block x (by have := HW2.out; omega)⟩)
      clear b7 hln'
      go_wp2_with fail
      refine (kn _ _).mono ?_
      rintro e wy ⟨rfl, hw⟩
      rw [hw]
      clear hw wy
      go_wp2_with fail
      go_ret
      exact ⟨by first | rfl | simp, G7.out⟩
    · have e0 : (n : Int) > 0 := by omega
      have e1 : 0 < n := by omega
      have e2 : decide (0 < n) = true := decide_eq_true e1
      have e3 : ¬ (n : Int) = 0 := by omega
      have e4 : ((n : Int) == 0) = false := beq_eq_false_iff_ne.2 e3
      obtain ⟨rr, k, hr, hr1, hr2, hkn, hk1, hk2⟩ := place13 t n e1 (by omega)
      have hkL : k < l.length := by rw [HLN.out]; exact hkn
      have hkI : (k : Int) < n := by omega
      obtain ⟨sv, HSV⟩ : ∃ s, Hid (l.getD k default = s) := ⟨_, rfl⟩
      obtain ⟨q, HQ⟩ : ∃ q, Hid (sv.v.length = q) := ⟨_, rfl⟩
      clear hn0
      by_cases hq0 : q = 0
      · have f0 : decide ((q : Int) > 0) = false := decide_eq_false (by omega)
        have f1 : decide (0 < q) = false := decide_eq_false (by omega)
        have HQ0 := hid hq0
        clear hq0
        go_enter Try.func3, Try.ntmps3
        go_wp2_with fail
        refine k1.mono ?_
        rintro e w1 ⟨rfl, g1⟩
        have G := hid g1
        have HS := hid (HS.out.below g1)
        clear g1 k1
        go_wp2_with fail
        refine (short_ U a n c l w1 HS.out (by omega)).mono ?_
        rintro e w2 ⟨rfl, bb⟩
        rw [hsho]
        have G := hid (bel_bel G.out G.out.size bb)
        have G2 := G
        have HW2 := hid G.out.size
        have HS := hid (HS.out.below bb)
        clear bb
        go_wp2_with fail
        refine (lend_ U a n c l w2 HS.out (by have := HSL.out.1; have := HLN.out; omega) HSL.out.2).mono ?_
        rintro e w3 ⟨m, vs, vk, vv, es, rfl, ln, hes⟩
        have HEN : Hid (es.length = n) := by have h := congrArg List.length hes; rw [List.length_map, HLN.out] at h; exact h
        have hnn : n ≤ 2000 := by have := HSL.out.1; have := HLN.out; omega
        have HES := hid hes
        have HLn := hid ln
        have HS := hid (HS.out.step fun x hx hu _ => ln.bel.block x hx)
        have G := hid (bel_bel G.out G.out.size ln.bel)
        have HB3 := hid ln.bel.size
        rw [endS_eq] at ln
        obtain ⟨gs, cs, hvs, hcs, hcm, hsl⟩ := ln.sl
        rw [HEN.out] at hvs hcs hsl
        have HVS := hid hvs
        have HSM := hid (hsl.cut (k := n) (by omega))
        have hcut : (es.map (·.s) ++ [(⟨[], [], true⟩ : Sx)]).take n = l := by rw [hes, ← HLN.out]; simp
        rw [hcut] at HSM
        have cm0 : w3.cell? ⟨m, 0, none⟩ = some (.slice (some ⟨gs, 0, none⟩) (n + 1) cs) := by
          rw [cell_of_row w3 m 0 _ 41 (0, 0) ln.var, hvs]; rfl
        have ko := of_ w3 m gs n cs cm0 hcs hcm
        clear ln hes hvs hsl hcut cm0
        go_wp2_with fail
        refine ko.mono ?_
        rintro e wy ⟨rfl, hw⟩
        rw [hw]
        clear hw wy ko
        obtain ⟨zs, HZ⟩ : ∃ zs, Hid (okB l = zs) := ⟨_, rfl⟩
        obtain ⟨p, HP⟩ : ∃ p, Hid (zs.length = p) := ⟨_, rfl⟩
        obtain ⟨E, HE⟩ : ∃ E, Hid (okE l = E) := ⟨_, rfl⟩
        have HPL : Hid (p ≤ 1048000) := by have h := okB_len l 2000 HSL.out.1; rw [HZ.out, HP.out] at h; show _ ≤ _; omega
        go_wp2_with fail
        refine (s_putA (some ⟨gs, 0, none⟩) n (n + 1) p l zs E G.out HSM.out (by omega) HZ.out HP.out HE.out).mono ?_
        rintro e w4 ⟨pa, pc, rfl, v, g, bb⟩
        have G := hid g
        have HS := hid (HS.out.below bb)
        have HLn := hid (HLn.out.below bb)
        have VP := hid v
        have HB3 : Hid (w2.heap.size ≤ w4.heap.size) := Nat.le_trans HB3.out bb.size
        clear g bb v HSM
        go_wp2_with fail
        refine (s_rputA a n c p l zs E G.out HS.out hnn HSL.out.2 HZ.out HP.out HE.out).mono ?_
        rintro e w5 ⟨qa, qc, rfl, v, g, bb⟩
        have G := hid g
        have HS := hid (HS.out.below bb)
        have HLn := hid (HLn.out.below bb)
        have VP := hid (VP.out.lift bb (fun _ _ h => h))
        have VQ := hid v
        have HB3 : Hid (w2.heap.size ≤ w5.heap.size) := Nat.le_trans HB3.out bb.size
        clear g bb v
        go_wp2_with fail
        refine (s_sameB pc qc true G.out VP.out.bs VQ.out.bs (by have := HPL.out; omega) (by have := HPL.out; omega) (by simp)).mono ?_
        rintro e w6 ⟨rfl, g, bb⟩
        have G := hid g
        have HS := hid (HS.out.below bb)
        have HLn := hid (HLn.out.below bb)
        have HB3 : Hid (w2.heap.size ≤ w6.heap.size) := Nat.le_trans HB3.out bb.size
        clear g bb VP VQ
        have hEE : (E != E) = false := by simp
        have hEQ : (E == E) = true := by simp
        go_wp2_with fail
        refine (kn _ _).mono ?_
        rintro e wy ⟨rfl, hw⟩
        rw [hw]
        clear hw wy
        obtain ⟨bl, off, ka, kc, va, vc, kn', vn, hab, hkn', hvn, c0, c1, c2, v1, v2⟩ := HS.out.at hkn
        rw [HSV.out, HQ.out] at hvn
        subst hvn
        obtain ⟨a', Ha⟩ : ∃ a', Hid (a = a') := ⟨_, rfl⟩
        rw [hab]
        clear c0 c2 v1 v2 hkn'
        have HAB := hid hab
        clear hab
        go_upto_region 19 with fail
        clear c1
        rw [← HAB.out]
        go_wp2_with fail
        have hln' := HLn.out
        rw [endS_eq] at hln'
        refine (held_ w2 w6 m vs vk vv es U a n c l hln' HS.out HES.out (fun x _ hu => ⟨fun e he => ⟨by have := HU.out x hu; have := (HLn.out.y e he).bk; have := HW2.out; omega, by have := HU.out x hu; have := (HLn.out.y e he).bv; have := HW2.out; omega⟩, fun f => by have := (HLn.out.os.lt x f).1; have := HU.out x hu; have := HW2.out; omega⟩) hnn HSL.out.2).mono ?_
        rintro e w7 ⟨rfl, b7, -, -⟩
        have G7 := hid (G2.out.trans ⟨b7.os, b7.tape, b7.output, b7.size, fun x hx => b7.block x (by have := HW2.out; omega)⟩)
        clear b7 hln'
        go_wp2_with fail
        refine (kn _ _).mono ?_
        rintro e wy ⟨rfl, hw⟩
        rw [hw]
        clear hw wy
        go_wp2_with fail
        go_ret
        exact ⟨by first | rfl | simp, G7.out⟩
      · have f0 : (q : Int) > 0 := by omega
        have f1 : 0 < q := by omega
        have f2 : decide (0 < q) = true := decide_eq_true f1
        clear hq0
        go_enter Try.func3, Try.ntmps3
        go_wp2_with fail
        refine k1.mono ?_
        rintro e w1 ⟨rfl, g1⟩
        have G := hid g1
        have HS := hid (HS.out.below g1)
        clear g1 k1
        go_wp2_with fail
        refine (short_ U a n c l w1 HS.out (by omega)).mono ?_
        rintro e w2 ⟨rfl, bb⟩
        rw [hsho]
        have G := hid (bel_bel G.out G.out.size bb)
        have G2 := G
        have HW2 := hid G.out.size
        have HS := hid (HS.out.below bb)
        clear bb
        go_wp2_with fail
        refine (lend_ U a n c l w2 HS.out (by have := HSL.out.1; have := HLN.out; omega) HSL.out.2).mono ?_
        rintro e w3 ⟨m, vs, vk, vv, es, rfl, ln, hes⟩
        have HEN : Hid (es.length = n) := by have h := congrArg List.length hes; rw [List.length_map, HLN.out] at h; exact h
        have hnn : n ≤ 2000 := by have := HSL.out.1; have := HLN.out; omega
        have HES := hid hes
        have HLn := hid ln
        have HS := hid (HS.out.step fun x hx hu _ => ln.bel.block x hx)
        have G := hid (bel_bel G.out G.out.size ln.bel)
        have HB3 := hid ln.bel.size
        rw [endS_eq] at ln
        obtain ⟨gs, cs, hvs, hcs, hcm, hsl⟩ := ln.sl
        rw [HEN.out] at hvs hcs hsl
        have HVS := hid hvs
        have HSM := hid (hsl.cut (k := n) (by omega))
        have hcut : (es.map (·.s) ++ [(⟨[], [], true⟩ : Sx)]).take n = l := by rw [hes, ← HLN.out]; simp
        rw [hcut] at HSM
        have cm0 : w3.cell? ⟨m, 0, none⟩ = some (.slice (some ⟨gs, 0, none⟩) (n + 1) cs) := by
          rw [cell_of_row w3 m 0 _ 41 (0, 0) ln.var, hvs]; rfl
        have ko := of_ w3 m gs n cs cm0 hcs hcm
        clear ln hes hvs hsl hcut cm0
        go_wp2_with fail
        refine ko.mono ?_
        rintro e wy ⟨rfl, hw⟩
        rw [hw]
        clear hw wy ko
        obtain ⟨zs, HZ⟩ : ∃ zs, Hid (okB l = zs) := ⟨_, rfl⟩
        obtain ⟨p, HP⟩ : ∃ p, Hid (zs.length = p) := ⟨_, rfl⟩
        obtain ⟨E, HE⟩ : ∃ E, Hid (okE l = E) := ⟨_, rfl⟩
        have HPL : Hid (p ≤ 1048000) := by have h := okB_len l 2000 HSL.out.1; rw [HZ.out, HP.out] at h; show _ ≤ _; omega
        go_wp2_with fail
        refine (s_putA (some ⟨gs, 0, none⟩) n (n + 1) p l zs E G.out HSM.out (by omega) HZ.out HP.out HE.out).mono ?_
        rintro e w4 ⟨pa, pc, rfl, v, g, bb⟩
        have G := hid g
        have HS := hid (HS.out.below bb)
        have HLn := hid (HLn.out.below bb)
        have VP := hid v
        have HB3 : Hid (w2.heap.size ≤ w4.heap.size) := Nat.le_trans HB3.out bb.size
        clear g bb v HSM
        go_wp2_with fail
        refine (s_rputA a n c p l zs E G.out HS.out hnn HSL.out.2 HZ.out HP.out HE.out).mono ?_
        rintro e w5 ⟨qa, qc, rfl, v, g, bb⟩
        have G := hid g
        have HS := hid (HS.out.below bb)
        have HLn := hid (HLn.out.below bb)
        have VP := hid (VP.out.lift bb (fun _ _ h => h))
        have VQ := hid v
        have HB3 : Hid (w2.heap.size ≤ w5.heap.size) := Nat.le_trans HB3.out bb.size
        clear g bb v
        go_wp2_with fail
        refine (s_sameB pc qc true G.out VP.out.bs VQ.out.bs (by have := HPL.out; omega) (by have := HPL.out; omega) (by simp)).mono ?_
        rintro e w6 ⟨rfl, g, bb⟩
        have G := hid g
        have HS := hid (HS.out.below bb)
        have HLn := hid (HLn.out.below bb)
        have HB3 : Hid (w2.heap.size ≤ w6.heap.size) := Nat.le_trans HB3.out bb.size
        clear g bb VP VQ
        have hEE : (E != E) = false := by simp
        have hEQ : (E == E) = true := by simp
        go_wp2_with fail
        refine (kn _ _).mono ?_
        rintro e wy ⟨rfl, hw⟩
        rw [hw]
        clear hw wy
        obtain ⟨bl, off, ka, kc, va, vc, kn', vn, hab, hkn', hvn, c0, c1, c2, v1, v2⟩ := HS.out.at hkn
        rw [HSV.out, HQ.out] at hvn
        obtain rfl : q = vn := hvn.symm
        clear c0 c2 v1 v2 hkn'
        have HAB := hid hab
        rw [hab]
        clear hab
        have kset := rsets2_ k U (some ⟨bl, off, none⟩) n c l w6 (by rw [← HAB.out]; exact HS.out) (by omega) (fun s hs => by have := HSL.out.2 s hs; omega) hkn (by rw [HSV.out, HQ.out]; omega)
        go_wp2_with fail
        clear c1
        refine kset.mono ?_
        rintro e w7 ⟨v7, ds, g, rfl, s2, hds⟩
        have HS2 := hid s2
        have HDS := hid hds
        have HDN : Hid (ds.length = n) := by have h := congrArg List.length hds; rw [List.length_map, HLN.out] at h; exact h
        obtain ⟨d, hd, hva, hyr⟩ := s2.y
        have hdsv : d.s = sv := by rw [← HSV.out, ← hds]; simp [List.getD, hd]
        have HD := hid hd
        rw [hdsv, HQ.out] at hyr
        obtain ⟨a7, c7, e7, -, -, -, hh⟩ := own_addr s2.sw.own
        rw [HDN.out] at e7 hh
        subst e7
        obtain ⟨gl, hgl, hcells⟩ : ∃ gl, a7 = some ⟨gl, 0, none⟩ ∧ ∀ j u, (sds ds)[j]? = some u → w7.cell? ⟨gl, j, none⟩ = some u := by
          rcases hh with ⟨_, h0⟩ | ⟨gl, h1, _, _, h2⟩
          · omega
          · exact ⟨gl, h1, h2⟩
        subst hgl
        have y1 : w7.cell? ⟨gl, k * 3 + 1, none⟩ = some (.slice (some ⟨g, 0, none⟩) q d.vc) := by
          refine hcells _ _ ?_
          rw [sds_get ds k (by rw [HDN.out]; exact hkn) 1 (by omega)]
          have : ds[k]'(by rw [HDN.out]; exact hkn) = d := by have := List.getElem?_eq_some_iff.1 hd; exact this.2
          rw [this]
          simp [sdc, hva, hdsv, HQ.out]
        obtain ⟨x, HX⟩ : ∃ x, Hid (sv.v.getD 0 0 = x) := ⟨_, rfl⟩
        obtain ⟨z, HZZ⟩ : ∃ z, Hid (bits BinOp.xor IntKind.u8 x 85 = z) := ⟨_, rfl⟩
        have hzz : 0 ≤ z ∧ z ≤ 255 := by rw [← HZZ.out]; exact xor_byte _ _
        have y2 := hyr.cell (i := 0) (by omega)
        rw [HX.out] at y2
        have y3 := hyr.fz 0
        have HB7 := hid s2.sw.bel
        have HB8 : Hid (Below w6.heap.size w6 (w7.setCell ⟨g, 0, none⟩ (.int .u8 z))) := s2.sw.bel.setCell (by show _ ≤ g; exact s2.lo) _
        have HSC := hid (s2.turn (z := z) hd (by rw [hdsv, HQ.out]; omega) hzz)
        have HMT := hid (map_turn (z := z) hds hd)
        clear hcells hh s2 hds hdsv hva hyr hd
        go_upto_region 15 with fail
        rw [HZZ.out]
        clear y1 y2 y3
        generalize w7.setCell ⟨g, 0, none⟩ (.int .u8 z) = w8 at *
        have HLn8 := hid (HLn.out.below HB8.out)
        obtain ⟨a8, c8, e8, hsl8⟩ := HSC.out
        rw [HDN.out, HMT.out, HSV.out] at hsl8
        rw [HDN.out] at e8
        simp only [Value.slice.injEq, true_and] at e8
        obtain ⟨rfl, rfl⟩ := e8
        have HSL8 := hid hsl8
        clear hsl8 HSC HMT
        have hkE : k < es.length := by rw [HEN.out]; exact hkn
        obtain ⟨e, HEE⟩ : ∃ e, Hid (es[k]? = some e) := ⟨es[k], List.getElem?_eq_getElem hkE⟩
        have hesv : e.s = sv := by rw [← HSV.out, ← HES.out]; have := HEE.out; simp [List.getD, this]
        obtain ⟨qv, cV, hvv, -, hcv⟩ := own_cell HLn8.out.ov (by omega)
        have y4 : w8.cell? ⟨m, 2, none⟩ = some (.slice (some ⟨qv, 0, none⟩) n cV) := by
          rw [cell_of_row w8 m 2 _ 41 (0, 0) HLn8.out.var, hvv, HEN.out]; rfl
        have y5 : w8.cell? ⟨qv, k, none⟩ = some (.slice (some ⟨e.gv, 0, none⟩) (q + 2) e.vc) := hcv k _ (by rw [List.getElem?_map, HEE.out, ← HQ.out, ← hesv]; rfl)
        have hly := HLn8.out.y e (List.mem_of_getElem? HEE.out)
        have y6 := hly.v.cell (i := 0) (by omega)
        have hxx : (e.s.v ++ [163, 164]).getD 0 0 = x := by
          rw [hesv, ← HX.out]
          cases hvl : sv.v with
          | nil => have := HQ.out; rw [hvl] at this; simp at this; omega
          | cons a b => rfl
        rw [hxx] at y6
        have y7 := hly.v.fz 0
        have HLn9 := hid (HLn8.out.turn (z := z) HEE.out (by rw [hesv, HQ.out]; omega) hzz)
        have HGV : Hid (e.gv < w6.heap.size) := (HLn.out.y e (List.mem_of_getElem? HEE.out)).v.lt
        have HSL9 := hid (HSL8.out.step (w' := w8.setCell ⟨e.gv, 0, none⟩ (.int .u8 z)) fun y _ hy _ => Below.heap_setCell _ _ _ _ (by show y ≠ e.gv; have := HGV.out; omega))
        have HG9 : Hid (Below w.heap.size w (w8.setCell ⟨e.gv, 0, none⟩ (.int .u8 z))) := (bel_bel G.out G.out.size HB8.out).setCell (by show _ ≤ e.gv; have := hly.bv; have := HW2.out; omega) _
        have HMS := hid (mapE_turn (z := z) HES.out HEE.out)
        rw [HSV.out] at HMS
        have HBK : Hid (∀ f ∈ es.set k (turnE e z), f.gk < w6.heap.size ∧ f.gv < w6.heap.size) := fun f hf => by
          rcases List.mem_or_eq_of_mem_set hf with h1 | rfl
          · exact ⟨(HLn.out.y f h1).k.lt, (HLn.out.y f h1).v.lt⟩
          · have := HLn.out.y e (List.mem_of_getElem? HEE.out)
            exact ⟨this.k.lt, this.v.lt⟩
        have HOL : Hid (∀ y, vs.ownBlock = some y → y < w6.heap.size) := fun y hy => (HLn.out.os.lt y hy).2
        obtain ⟨gv, Hgv⟩ : ∃ g, Hid (e.gv = g) := ⟨_, rfl⟩
        obtain ⟨ev, Hev⟩ : ∃ g, Hid (e.vc = g) := ⟨_, rfl⟩
        rw [Hgv.out] at y5 y6 y7 HLn9 HSL9 HG9
        rw [Hev.out] at y5
        have hq2 : (0 : Int) < (q : Int) + 2 := by omega
        clear hly hcv hvv hxx hesv
        go_upto_region 16 with fail
        rw [HZZ.out]
        clear y4 y5 y6 y7
        generalize w8.setCell ⟨gv, 0, none⟩ (.int .u8 z) = w9 at *
        obtain ⟨es', HES'⟩ : ∃ x, Hid (es.set k (turnE e z) = x) := ⟨_, rfl⟩
        obtain ⟨l', HL'⟩ : ∃ x, Hid (l.set k (turnS sv z) = x) := ⟨_, rfl⟩
        have HSH' : Hid (∀ s ∈ l', s.k.length ≤ 2000 ∧ s.v.length ≤ 2000) := by rw [← HL'.out, ← HSV.out]; exact short_turn hkL HSL.out.2
        have HLN' : Hid (l'.length = n) := by rw [← HL'.out]; show _ = _; rw [List.length_set]; exact HLN.out
        rw [HES'.out] at HLn9 HMS HBK
        rw [HL'.out] at HMS HSL9
        have HEN' : Hid (es'.length = n) := by have h := congrArg List.length HMS.out; rw [List.length_map, HLN'.out] at h; exact h
        have ln := HLn9.out
        rw [endS_eq] at ln
        obtain ⟨gs', cs', hvs, hcs, hcm, hsl⟩ := ln.sl
        rw [HEN'.out] at hvs hcs hsl
        rw [HVS.out] at hvs
        simp only [Value.slice.injEq, Option.some.injEq, Addr.mk.injEq, true_and, and_true] at hvs
        obtain ⟨rfl, rfl⟩ := hvs
        have HSM := hid (hsl.cut (k := n) (by omega))
        have hcut : (es'.map (·.s) ++ [(⟨[], [], true⟩ : Sx)]).take n = l' := by rw [HMS.out, ← HLN'.out]; simp
        rw [hcut] at HSM
        have cm0 : w9.cell? ⟨m, 0, none⟩ = some (.slice (some ⟨gs, 0, none⟩) (n + 1) cs) := by
          rw [cell_of_row w9 m 0 _ 41 (0, 0) ln.var, HVS.out]; rfl
        have ko := of_ w9 m gs n cs cm0 hcs hcm
        clear ln hsl hcut cm0
        go_wp2_with fail
        refine ko.mono ?_
        rintro e' wy ⟨rfl, hw⟩
        rw [hw]
        clear hw wy ko
        obtain ⟨zs', HZ'⟩ : ∃ zs, Hid (okB l' = zs) := ⟨_, rfl⟩
        obtain ⟨p', HP'⟩ : ∃ p, Hid (zs'.length = p) := ⟨_, rfl⟩
        obtain ⟨E', HE'⟩ : ∃ E, Hid (okE l' = E) := ⟨_, rfl⟩
        have HPL' : Hid (p' ≤ 1048000) := by have h := okB_len l' 2000 (by rw [HLN'.out]; exact hnn); rw [HZ'.out, HP'.out] at h; show _ ≤ _; omega
        go_wp2_with fail
        refine (s_putA (some ⟨gs, 0, none⟩) n (n + 1) p' l' zs' E' HG9.out HSM.out (by omega) HZ'.out HP'.out HE'.out).mono ?_
        rintro e' wA ⟨pa', pc', rfl, v, g', bb⟩
        have G := hid g'
        have HSL9 := hid (HSL9.out.below bb)
        have HLn9 := hid (HLn9.out.below bb)
        have VP := hid v
        clear g' bb v HSM
        go_wp2_with fail
        refine (s_rputA (some ⟨gl, 0, none⟩) n c7 p' l' zs' E' G.out HSL9.out hnn HSH'.out HZ'.out HP'.out HE'.out).mono ?_
        rintro e' wB ⟨qa', qc', rfl, v, g', bb⟩
        have G := hid g'
        have HSL9 := hid (HSL9.out.below bb)
        have HLn9 := hid (HLn9.out.below bb)
        have VP := hid (VP.out.lift bb (fun _ _ h => h))
        have VQ := hid v
        clear g' bb v
        go_wp2_with fail
        refine (s_sameB pc' qc' true G.out VP.out.bs VQ.out.bs (by have := HPL'.out; omega) (by have := HPL'.out; omega) (by simp)).mono ?_
        rintro e' wC ⟨rfl, g', bb⟩
        have G := hid g'
        have HSL9 := hid (HSL9.out.below bb)
        have HLn9 := hid (HLn9.out.below bb)
        clear g' bb VP VQ
        have hEQ' : (E' == E') = true := by simp
        have hln' := HLn9.out
        rw [endS_eq] at hln'
        go_wp2_with fail
        refine (held_ w2 wC m vs vk vv es' _ (some ⟨gl, 0, none⟩) n c7 l' hln' HSL9.out HMS.out (fun y _ hu => ⟨fun f hf => ⟨by have := (HBK.out f hf).1; omega, by have := (HBK.out f hf).2; omega⟩, fun f => by have := HOL.out y f; omega⟩) hnn HSH'.out).mono ?_
        rintro e' wD ⟨rfl, b7, -, -⟩
        have G7 := hid (G2.out.trans ⟨b7.os, b7.tape, b7.output, b7.size, fun y hy => b7.block y (by have := HW2.out; omega)⟩)
        clear b7 hln'
        go_wp2_with fail
        refine (kn _ _).mono ?_
        rintro e' wy ⟨rfl, hw⟩
        rw [hw]
        clear hw wy
        go_wp2_with fail
        go_ret
        exact ⟨by first | rfl | simp, G7.out⟩
end Go.Proofs.Ytnmklleoilicdaa
