import Derived.Test.YtnmklleoilicdaaVI
namespace Go.Proofs.Ytnmklleoilicdaa
set_option maxRecDepth 100000
open Go.RowKit Go.Shelf Go.Maps
set_option linter.unusedVariables false

set_option maxHeartbeats 1000000 in
theorem tableGets_ (V : Nat → Prop) (a : Option Addr) (n c : Nat) (zs : List Int) (t x : Int) (w : World) (h : Vs w V a n c zs) (ht : -9223372036854775808 ≤ t ∧ t ≤ 9223372036854775807) (hx : 0 ≤ x ∧ x ≤ 255) :
    Calls Try.prog 4 #[.slice a n c, .int .i64 t, .int .u8 x] w fun e w' => e = .returned (.bool true) ∧ Below w.heap.size w w' := by
  have k1 := first_ w
  have HV := hid h
  have HOK := hid h.bs.2.1
  have hnc := h.nc
  have hcm := h.cm
  unfold maxLen at hcm
  clear h
  by_cases hb : 65536 < n
  · have hI : (n : Int) > 65536 := by omega
    go_enter Try.func4, Try.ntmps4
    go_wp2_with fail
    refine k1.mono ?_
    rintro e w1 ⟨rfl, g1⟩
    go_wp2_with fail
    go_ret
    exact ⟨rfl, g1⟩
  have hI : ¬ (n : Int) > 65536 := by omega
  have hb' : n ≤ 65536 := by omega
  clear hb
  by_cases hn0 : n = 0
  · have e0 : ((n : Int) == 0) = true := by rw [hn0]; rfl
    have e1 : (n : Int) = 0 := by omega
    have e2 : decide (n = 0) = true := decide_eq_true hn0
    clear hn0 e1
    go_enter Try.func4, Try.ntmps4
    go_wp2_with fail
    refine k1.mono ?_
    rintro e w1 ⟨rfl, g1⟩
    have hs1 := g1.size
    have G := hid g1
    have HV := hid (HV.out.lift g1 (fun _ _ h => h))
    clear g1 k1
    go_wp2_with fail
    refine (refBytes a n c zs w1 HV.out.bs (by omega)).mono ?_
    rintro e w2 ⟨v2, rfl, ow2, g2⟩
    have HOA := hid (ow2.alloc (.cells #[.int .u8 161, .int .u8 162] 5))
    have HBS : Hid (Bs (w2.alloc (.cells #[.int .u8 161, .int .u8 162] 5)) (some ⟨w2.heap.size, 0, none⟩) 2 [161, 162]) := bs_lit w2 [161, 162] (0, 0) (by intro z hz; simp at hz; omega)
    have HSZ : Hid (w1.heap.size ≤ (w2.alloc (.cells #[.int .u8 161, .int .u8 162] 5)).heap.size) := by have := g2.size; show _ ≤ _; simp; omega
    have HG2 := hid g2
    have HO2 := hid ow2
    clear g2 ow2
    go_wp2_with (at_builtin; refine wpList_appT rfl _ _ rfl w1.heap.size _ n zs rfl (by exact HOA.out) (some ⟨w2.heap.size, 0, none⟩) 2 2 [161, 162] rfl (by exact HBS.out) (by omega) (by exact HSZ.out) ?_; intro v3 w3 o3 g3; have HO3 := hid o3; have HG3 := hid g3; clear o3 g3; refine Hid.out ?_)
    refine hid ?_
    have HB3 : Hid (Below w1.heap.size w1 w3) := (HG2.out.alloc HG2.out.size (.cells #[.int .u8 161, .int .u8 162] 5)).grown HG3.out (by exact HSZ.out) (fun p hp => (HO2.out.lt p hp).1)
    obtain ⟨gy, cy, rfl, yr, hgy, -, hyc, hycm⟩ := Yr.ofOwn HO3.out (by intro z hz; rcases List.mem_append.1 hz with h | h; exact HOK.out z h; simp at h; omega) (by omega)
    have HCM := hid hycm
    unfold maxLen at hycm
    have G := hid (bel_bel G.out G.out.size HB3.out)
    have HV := hid (HV.out.lift HB3.out (fun _ _ h => h))
    have HYS : Hid ((zs ++ [161, 162]).take n = zs) := by show _ = _; rw [← HV.out.bs.1]; simp
    obtain ⟨ys, HYE⟩ : ∃ ys, Hid (zs ++ [161, 162] = ys) := ⟨zs ++ [161, 162], rfl⟩
    rw [HYE.out] at HYS yr
    obtain ⟨N, HN⟩ : ∃ N, Hid (N = n + 2) := ⟨_, rfl⟩
    have hN := HN.out
    rw [← hN] at yr hyc
    rw [← hN]
    have HY := hid yr
    have HGY : Hid (w.heap.size ≤ gy) := Nat.le_trans hs1 hgy
    clear HOA HBS HSZ HG2 HO2 HO3 HG3 HB3 yr hN
    have d1 : (n : Int) ≤ N := by have := HN.out; omega
    have d2 : (N : Int) ≤ cy := by omega
    have d3 : ¬ N = 0 := by have := HN.out; omega
    have d4 : n ≤ N := by omega
    have kg := fun wx ys' (h : Yr wx gy N ys') zs' (hz : ys'.take n = zs') => got_ (fun x => x = gy) gy 0 n N cy ys' zs' wx (h.vs hyc HCM.out) hz HN.out (by omega)
    go_wp2_with fail
    refine (kg _ ys HY.out zs HYS.out).mono ?_
    rintro e w4 ⟨rfl, g⟩
    have G := hid (bel_bel G.out G.out.size g)
    have HV := hid (HV.out.lift g (fun _ _ h => h))
    have HY := hid (HY.out.below g)
    clear g
    go_wp2_with fail
    go_ret
    exact ⟨rfl, G.out⟩
  have e0 : ((n : Int) == 0) = false := beq_eq_false_iff_ne.2 (by omega)
  have e1 : ¬ (n : Int) = 0 := by omega
  have e2 : decide (n = 0) = false := decide_eq_false hn0
  have hnp : 0 < n := by omega
  clear hn0
  cases hfb : fb zs with
  | none =>
    go_enter Try.func4, Try.ntmps4
    go_wp2_with fail
    refine k1.mono ?_
    rintro e w1 ⟨rfl, g1⟩
    have hs1 := g1.size
    have G := hid g1
    have HV := hid (HV.out.lift g1 (fun _ _ h => h))
    clear g1 k1
    go_wp2_with fail
    refine (refBytes a n c zs w1 HV.out.bs (by omega)).mono ?_
    rintro e w2 ⟨v2, rfl, ow2, g2⟩
    have HOA := hid (ow2.alloc (.cells #[.int .u8 161, .int .u8 162] 5))
    have HBS : Hid (Bs (w2.alloc (.cells #[.int .u8 161, .int .u8 162] 5)) (some ⟨w2.heap.size, 0, none⟩) 2 [161, 162]) := bs_lit w2 [161, 162] (0, 0) (by intro z hz; simp at hz; omega)
    have HSZ : Hid (w1.heap.size ≤ (w2.alloc (.cells #[.int .u8 161, .int .u8 162] 5)).heap.size) := by have := g2.size; show _ ≤ _; simp; omega
    have HG2 := hid g2
    have HO2 := hid ow2
    clear g2 ow2
    go_wp2_with (at_builtin; refine wpList_appT rfl _ _ rfl w1.heap.size _ n zs rfl (by exact HOA.out) (some ⟨w2.heap.size, 0, none⟩) 2 2 [161, 162] rfl (by exact HBS.out) (by omega) (by exact HSZ.out) ?_; intro v3 w3 o3 g3; have HO3 := hid o3; have HG3 := hid g3; clear o3 g3; refine Hid.out ?_)
    refine hid ?_
    have HB3 : Hid (Below w1.heap.size w1 w3) := (HG2.out.alloc HG2.out.size (.cells #[.int .u8 161, .int .u8 162] 5)).grown HG3.out (by exact HSZ.out) (fun p hp => (HO2.out.lt p hp).1)
    obtain ⟨gy, cy, rfl, yr, hgy, -, hyc, hycm⟩ := Yr.ofOwn HO3.out (by intro z hz; rcases List.mem_append.1 hz with h | h; exact HOK.out z h; simp at h; omega) (by omega)
    have HCM := hid hycm
    unfold maxLen at hycm
    have G := hid (bel_bel G.out G.out.size HB3.out)
    have HV := hid (HV.out.lift HB3.out (fun _ _ h => h))
    have HYS : Hid ((zs ++ [161, 162]).take n = zs) := by show _ = _; rw [← HV.out.bs.1]; simp
    obtain ⟨ys, HYE⟩ : ∃ ys, Hid (zs ++ [161, 162] = ys) := ⟨zs ++ [161, 162], rfl⟩
    rw [HYE.out] at HYS yr
    obtain ⟨N, HN⟩ : ∃ N, Hid (N = n + 2) := ⟨_, rfl⟩
    have hN := HN.out
    rw [← hN] at yr hyc
    rw [← hN]
    have HY := hid yr
    have HGY : Hid (w.heap.size ≤ gy) := Nat.le_trans hs1 hgy
    clear HOA HBS HSZ HG2 HO2 HO3 HG3 HB3 yr hN
    have d1 : (n : Int) ≤ N := by have := HN.out; omega
    have d2 : (N : Int) ≤ cy := by omega
    have d3 : ¬ N = 0 := by have := HN.out; omega
    have d4 : n ≤ N := by omega
    have kg := fun wx ys' (h : Yr wx gy N ys') zs' (hz : ys'.take n = zs') => got_ (fun x => x = gy) gy 0 n N cy ys' zs' wx (h.vs hyc HCM.out) hz HN.out (by omega)
    go_wp2_with fail
    refine (kg _ ys HY.out zs HYS.out).mono ?_
    rintro e w4 ⟨rfl, g⟩
    have G := hid (bel_bel G.out G.out.size g)
    have HV := hid (HV.out.lift g (fun _ _ h => h))
    have HY := hid (HY.out.below g)
    clear g
    go_wp2_with fail
    refine (s_fromNo G.out ((HY.out.vs hyc HCM.out).cut (d := N) d4 d4 hyc) (by omega) (by rw [HYS.out]; exact hfb)).mono ?_
    rintro e w5 ⟨rfl, g, bb⟩
    have G := hid g
    have HV := hid (HV.out.lift bb (fun _ _ h => h))
    have HY := hid (HY.out.below bb)
    clear g bb
    go_wp2_with fail
    refine (s_rfromNo G.out HV.out (by omega) hfb).mono ?_
    rintro e w6 ⟨rfl, g, bb⟩
    have G := hid g
    have HY := hid (HY.out.below bb)
    clear g bb HV
    obtain ⟨rr, kk, hr, hr1, hr2, hkn, hk1, hk2⟩ := place13 t n (by omega) (by omega)
    have hkN : kk < N := by omega
    have hkI : (kk : Int) < N := by omega
    have hk0 : (0 : Int) ≤ (kk : Int) := by omega
    have cy1 := HY.out.cell hkN
    have fy1 := HY.out.fz kk
    obtain ⟨yk, HYK⟩ : ∃ x, Hid (ys.getD kk 0 = x) := ⟨_, rfl⟩
    rw [HYK.out] at cy1
    obtain ⟨z, HZZ⟩ : ∃ z, Hid (bits BinOp.xor IntKind.u8 yk x = z) := ⟨_, rfl⟩
    have hzz : 0 ≤ z ∧ z ≤ 255 := by rw [← HZZ.out]; exact xor_byte _ _
    have HY7 := hid (HY.out.set hkN hzz)
    have HG7 := hid (set_by w6 gy kk (.int .u8 z))
    go_wp2_with fail
    clear cy1 fy1
    rw [HZZ.out]
    generalize w6.setCell ⟨gy, kk, none⟩ (.int .u8 z) = w7 at *
    have G := hid (bel_by G.out HG7.out HGY.out)
    clear HG7
    refine (kg _ (ys.set kk z) HY7.out _ rfl).mono ?_
    rintro e w8 ⟨rfl, g⟩
    have G := hid (bel_bel G.out G.out.size g)
    have HY := hid (HY7.out.below g)
    clear g
    go_wp2_with fail
    go_loopw [14] (fun i wr => ∃ (j : Nat) (us : List Int), j ≤ n ∧ i = .int .i64 j ∧ Hid (Yr wr gy N us) ∧ Hid (w8.grownBy wr (some gy))) (fun i _ => n - (intOf i).toNat)
    case atStart => exact ⟨0, _, by omega, rfl, HY, ⟨rfl, rfl, rfl, Nat.le_refl _, fun _ _ _ => rfl⟩⟩
    case round =>
      obtain ⟨j, us, hj, rfl, HU, HGR⟩ := hrel
      by_cases hlt : j < n
      · have hjI : (j : Int) < n := by omega
        have hjN : (j : Int) < N := by omega
        have cj := HU.out.cell (i := j) (by omega)
        have fj := HU.out.fz j
        have HU2 := hid (HU.out.set (i := j) (z := 35) (by omega) (by omega))
        have HG2 := hid (by_trans HGR.out (set_by wr gy j (.int .u8 35)))
        go_wp2_with fail
        go_roundw
        case rel => exact ⟨j + 1, _, by omega, by go_num, HU2, HG2⟩
        case measure => simp [intOf]; omega
      · have hjI : ¬ (j : Int) < n := by omega
        have G := hid (bel_by G.out HGR.out HGY.out)
        clear hlt
        go_wp2_with fail
        go_ret
        exact ⟨rfl, G.out⟩
  | some M =>
    have HFB := hid hfb
    obtain ⟨mm, HMM⟩ : ∃ x, Hid (M.length = x) := ⟨_, rfl⟩
    clear hfb
    go_enter Try.func4, Try.ntmps4
    go_wp2_with fail
    refine k1.mono ?_
    rintro e w1 ⟨rfl, g1⟩
    have hs1 := g1.size
    have G := hid g1
    have HV := hid (HV.out.lift g1 (fun _ _ h => h))
    clear g1 k1
    go_wp2_with fail
    refine (refBytes a n c zs w1 HV.out.bs (by omega)).mono ?_
    rintro e w2 ⟨v2, rfl, ow2, g2⟩
    have HOA := hid (ow2.alloc (.cells #[.int .u8 161, .int .u8 162] 5))
    have HBS : Hid (Bs (w2.alloc (.cells #[.int .u8 161, .int .u8 162] 5)) (some ⟨w2.heap.size, 0, none⟩) 2 [161, 162]) := bs_lit w2 [161, 162] (0, 0) (by intro z hz; simp at hz; omega)
    have HSZ : Hid (w1.heap.size ≤ (w2.alloc (.cells #[.int .u8 161, .int .u8 162] 5)).heap.size) := by have := g2.size; show _ ≤ _; simp; omega
    have HG2 := hid g2
    have HO2 := hid ow2
    clear g2 ow2
    go_wp2_with (at_builtin; refine wpList_appT rfl _ _ rfl w1.heap.size _ n zs rfl (by exact HOA.out) (some ⟨w2.heap.size, 0, none⟩) 2 2 [161, 162] rfl (by exact HBS.out) (by omega) (by exact HSZ.out) ?_; intro v3 w3 o3 g3; have HO3 := hid o3; have HG3 := hid g3; clear o3 g3; refine Hid.out ?_)
    refine hid ?_
    have HB3 : Hid (Below w1.heap.size w1 w3) := (HG2.out.alloc HG2.out.size (.cells #[.int .u8 161, .int .u8 162] 5)).grown HG3.out (by exact HSZ.out) (fun p hp => (HO2.out.lt p hp).1)
    obtain ⟨gy, cy, rfl, yr, hgy, -, hyc, hycm⟩ := Yr.ofOwn HO3.out (by intro z hz; rcases List.mem_append.1 hz with h | h; exact HOK.out z h; simp at h; omega) (by omega)
    have HCM := hid hycm
    unfold maxLen at hycm
    have G := hid (bel_bel G.out G.out.size HB3.out)
    have HV := hid (HV.out.lift HB3.out (fun _ _ h => h))
    have HYS : Hid ((zs ++ [161, 162]).take n = zs) := by show _ = _; rw [← HV.out.bs.1]; simp
    obtain ⟨ys, HYE⟩ : ∃ ys, Hid (zs ++ [161, 162] = ys) := ⟨zs ++ [161, 162], rfl⟩
    rw [HYE.out] at HYS yr
    obtain ⟨N, HN⟩ : ∃ N, Hid (N = n + 2) := ⟨_, rfl⟩
    have hN := HN.out
    rw [← hN] at yr hyc
    rw [← hN]
    have HY := hid yr
    have HGY : Hid (w.heap.size ≤ gy) := Nat.le_trans hs1 hgy
    clear HOA HBS HSZ HG2 HO2 HO3 HG3 HB3 yr hN
    have d1 : (n : Int) ≤ N := by have := HN.out; omega
    have d2 : (N : Int) ≤ cy := by omega
    have d3 : ¬ N = 0 := by have := HN.out; omega
    have d4 : n ≤ N := by omega
    have kg := fun wx ys' (h : Yr wx gy N ys') zs' (hz : ys'.take n = zs') => got_ (fun x => x = gy) gy 0 n N cy ys' zs' wx (h.vs hyc HCM.out) hz HN.out (by omega)
    go_wp2_with fail
    refine (kg _ ys HY.out zs HYS.out).mono ?_
    rintro e w4 ⟨rfl, g⟩
    have G := hid (bel_bel G.out G.out.size g)
    have HV := hid (HV.out.lift g (fun _ _ h => h))
    have HY := hid (HY.out.below g)
    clear g
    have HGW : Hid (gy < w4.heap.size) := HY.out.lt
    go_wp2_with fail
    refine (fromBytes_ (some ⟨gy, 0, none⟩) n N zs w4 (by have h := ((HY.out.vs hyc HCM.out).cut (d := N) d4 d4 hyc).bs; rw [HYS.out] at h; exact h) (fun e => by cases e) d4 (by omega)).mono ?_
    rintro e w5 (⟨M', tt, tb, hf, rfl, tw, hb5, ht5, g⟩ | ⟨hf, -⟩)
    rotate_left
    · have := HFB.out; rw [hf] at this; cases this
    obtain rfl : M' = M := Option.some.inj (hf.symm.trans HFB.out)
    have G := hid (bel_bel G.out G.out.size g)
    have HV := hid (HV.out.lift g (fun _ _ h => h))
    have HY := hid (HY.out.below g)
    have HT := hid tw
    have hs5 := g.size
    clear g tw hf
    go_wp2_with fail
    refine (rfrom_ a n c zs w5 (HV.out.wide fun x hx _ => hx) (by omega)).mono ?_
    rintro e w6 (⟨M2, rt, ra, rm, rc, hf, rfl, dr, hrt, hrm, g⟩ | ⟨hf, -⟩)
    rotate_left
    · have := HFB.out; rw [hf] at this; cases this
    obtain rfl : M2 = M' := Option.some.inj (hf.symm.trans HFB.out)
    obtain rfl : mm = rm := by rw [← HMM.out]; exact dr.rl.len
    have G := hid (bel_bel G.out G.out.size g)
    have HY := hid (HY.out.below g)
    have HT := hid (HT.out.below g)
    have HD := hid dr
    clear g dr hf HV
    obtain ⟨rr, kk, hr, hr1, hr2, hkn, hk1, hk2⟩ := place13 t n (by omega) (by omega)
    have hkN : kk < N := by omega
    have hkI : (kk : Int) < N := by omega
    have hk0 : (0 : Int) ≤ (kk : Int) := by omega
    have cy1 := HY.out.cell hkN
    have fy1 := HY.out.fz kk
    obtain ⟨yk, HYK⟩ : ∃ x, Hid (ys.getD kk 0 = x) := ⟨_, rfl⟩
    rw [HYK.out] at cy1
    obtain ⟨z, HZZ⟩ : ∃ z, Hid (bits BinOp.xor IntKind.u8 yk x = z) := ⟨_, rfl⟩
    have hzz : 0 ≤ z ∧ z ≤ 255 := by rw [← HZZ.out]; exact xor_byte _ _
    have HY7 := hid (HY.out.set hkN hzz)
    have HG7 := hid (set_by w6 gy kk (.int .u8 z))
    go_wp2_with fail
    clear cy1 fy1
    rw [HZZ.out]
    have HT7 := hid (HT.out.by HG7.out (by have := HGW.out; omega) (by have := HGW.out; omega) (fun x hx => by have := HGW.out; omega))
    have HD7 := hid (HD.out.by HG7.out (by have := HGW.out; omega) (fun x hx => by have := HGW.out; omega))
    generalize w6.setCell ⟨gy, kk, none⟩ (.int .u8 z) = w7 at *
    have G := hid (bel_by G.out HG7.out HGY.out)
    clear HG7
    refine (kg _ (ys.set kk z) HY7.out _ rfl).mono ?_
    rintro e w8 ⟨rfl, g⟩
    have G := hid (bel_bel G.out G.out.size g)
    have HY := hid (HY7.out.below g)
    have HT := hid (HT7.out.below g)
    have HD := hid (HD7.out.below g)
    clear HT7 HD7
    clear g
    go_wp2_with fail
    go_loopw [14] (fun i wr => ∃ (j : Nat) (us : List Int), j ≤ n ∧ i = .int .i64 j ∧ Hid (Yr wr gy N us) ∧ Hid (w8.grownBy wr (some gy))) (fun i _ => n - (intOf i).toNat)
    case atStart => exact ⟨0, _, by omega, rfl, HY, ⟨rfl, rfl, rfl, Nat.le_refl _, fun _ _ _ => rfl⟩⟩
    case round =>
      obtain ⟨j, us, hj, rfl, HU, HGR⟩ := hrel
      by_cases hlt : j < n
      · have hjI : (j : Int) < n := by omega
        have hjN : (j : Int) < N := by omega
        have cj := HU.out.cell (i := j) (by omega)
        have fj := HU.out.fz j
        have HU2 := hid (HU.out.set (i := j) (z := 35) (by omega) (by omega))
        have HG2 := hid (by_trans HGR.out (set_by wr gy j (.int .u8 35)))
        go_wp2_with fail
        go_roundw
        case rel => exact ⟨j + 1, _, by omega, by go_num, HU2, HG2⟩
        case measure => simp [intOf]; omega
      · have hjI : ¬ (j : Int) < n := by omega
        have G := hid (bel_by G.out HGR.out HGY.out)
        clear hlt
        have HT := hid (HT.out.by HGR.out (by have := HGW.out; omega) (by have := HGW.out; omega) (fun x hx => by have := HGW.out; omega))
        have HD := hid (HD.out.by HGR.out (by have := HGW.out; omega) (fun x hx => by have := HGW.out; omega))
        have cD := HD.out.cell
        go_wp2_with fail
        clear cD
        refine (s_rows mm mm G.out HT.out HMM.out (by omega) (by omega)).mono ?_
        rintro e w9 ⟨xa, xc, rfl, r, g, bb⟩
        have G := hid g
        have HD := hid (HD.out.below bb)
        have R := hid r
        clear g bb r HT
        have cD := HD.out.cell
        go_wp2_with fail
        clear cD
        refine (s_sameRows xc rc true G.out R.out HD.out.rl (by omega) (by omega) (sameT_self' _)).mono ?_
        rintro e w10 ⟨rfl, g, bb⟩
        have G := hid g
        clear g bb R HD
        go_wp2_with fail
        go_ret
        exact ⟨rfl, G.out⟩
end Go.Proofs.Ytnmklleoilicdaa
