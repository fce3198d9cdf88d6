import Derived.Test.YtohfdkhlpghbcaaSP
import Derived.Test.YtohfdkhlpghbcaaSG
namespace Go.Proofs.Ytohfdkhlpghbcaa
set_option maxRecDepth 100000
open Go.RowKit
set_option linter.unusedVariables false

/-! Get of what Put answered: peers. -/
def Vx (ps : List Px) : Prop := ∀ x ∈ ps, vp x.F x.H x.L x.B = true ∧ x.ok
theorem peB_cons (x : Px) (l : List Px) : peB (x :: l) = pp x.F x.H x.L x.B ++ peB l := by simp [peB]
theorem crs_peB (ps : List Px) (h : Vx ps) : ∀ i, i ≤ ps.length → crs (peB ps) i = peB (ps.drop i)
  | 0, _ => rfl
  | i + 1, hi => by
    have hlt : i < ps.length := by omega
    rw [crs, crs_peB ps h i (by omega), List.drop_eq_getElem_cons hlt, peB_cons]
    obtain ⟨h1, h2⟩ := h ps[i] (List.getElem_mem _)
    obtain ⟨-, -, -, -, -, h6, -⟩ := gk_pp (peB (ps.drop (i + 1))) h1 h2.H h2.L
    rw [h6, Int.toNat_natCast, List.drop_left]
theorem cpl_peB (ps : List Px) (h : Vx ps) : cpl (peB ps) ps.length = ps := by
  apply List.ext_getElem
  · rw [cpl_length]
  · intro i h1 h2
    have e0 : (cpl (peB ps) ps.length)[i] = gx (crs (peB ps) i) := by simp [cpl]
    rw [e0, crs_peB ps h i (by omega), List.drop_eq_getElem_cons h2, peB_cons]
    obtain ⟨g1, g2⟩ := h ps[i] (List.getElem_mem _)
    obtain ⟨-, e1, e2, e3, e4, -, -⟩ := gk_pp (peB (ps.drop (i + 1))) g1 g2.H g2.L
    unfold gx
    rw [e1, e2, e3, e4]
theorem Pk.vx {K : Int} {m : Nat} {ps : List Px} (h : Pk K m ps) (hok : ∀ x ∈ ps, x.ok) : Vx ps := by
  intro x hx
  obtain ⟨i, hi, rfl⟩ := List.mem_iff_getElem.1 hx
  refine ⟨?_, hok _ hx⟩
  have := (h.2.2.2.2 i hi).1
  rw [show ps.getD i px0 = ps[i] from by simp [List.getD, hi]] at this
  exact this
theorem gp_put {K : Int} {k : List Int} {ps : List Px} (h : Pk K k.length ps) (hok : ∀ x ∈ ps, x.ok) : Gp (peK K) (peV k ps) ∧ xK (peK K) = K ∧ (peV k ps).take 32 = k ∧ xP (peV k ps) = ps := by
  have h32 : k.length = 32 := h.2.2.1
  have e1 : xK (peK K) = K := by
    unfold xK peK
    have := rdN_at (p := 1) (n := 4) (l := [80]) (b := be 4 K) (r := []) rfl (be_length _ _)
    rw [List.append_nil] at this
    rw [this, val_be_in (by have := h.1; omega) (by have := h.2.1; omega)]
  have e2 : (peV k ps).take 32 = k := by
    unfold peV
    rw [List.append_assoc, List.take_left' h32]
  have e3 : (peV k ps).drop 33 = peB ps := by
    unfold peV
    rw [List.drop_left' (by rw [List.length_append, h32]; rfl)]
  have e4 : (peV k ps).getD 32 0 = ps.length := by
    unfold peV
    rw [List.append_assoc]
    simp [List.getD, h32]
  have e5 : xP (peV k ps) = ps := by
    unfold xP xn
    rw [e3, e4, Int.toNat_natCast, cpl_peB ps (h.vx hok)]
  refine ⟨⟨peK_length K, ?_, ?_, ?_, ?_⟩, e1, e2, e5⟩
  · have := peV_length k ps
    omega
  · rw [e1, e5, ← h32]
    exact h
  · rw [e1]
  · rw [e2, e5]
end Go.Proofs.Ytohfdkhlpghbcaa
namespace Go.Proofs.Ytohfdkhlpghbcaa
set_option maxRecDepth 100000
open Go.RowKit
set_option linter.unusedVariables false

theorem gb_get {k v : List Int} (hb : Okb v) : (gbE k v = 0 ∧ bK (gbN k v) = k ∧ bV (gbN k v) = v ∧ bE (gbN k v) = 0) ∨ gbE k v = 114 := by
  unfold gbE gbN
  cases h : gbOk k v with
  | false => exact .inr rfl
  | true =>
    obtain ⟨h1, h2, h3⟩ := of_decide_eq_true (show decide _ = true from h)
    have hv := val_bound v hb
    have hok : bOk (val v) = true := decide_eq_true ⟨hv.1, h2⟩
    refine .inl ⟨rfl, ?_, ?_, ?_⟩
    · simp only [if_true]; unfold bK; rw [hok, h3]; rfl
    · simp only [if_true]; unfold bV; rw [hok]; exact be_val8 hb h1
    · simp only [if_true]; unfold bE; rw [hok]; rfl
theorem gb_in {k v : List Int} (hb : Okb v) : -9223372036854775808 ≤ gbN k v ∧ gbN k v ≤ 9223372036854775807 := by
  unfold gbN
  cases h : gbOk k v with
  | false => simp
  | true =>
    obtain ⟨h1, h2, h3⟩ := of_decide_eq_true (show decide _ = true from h)
    have hv := val_bound v hb
    simp only [if_true]
    omega
set_option maxHeartbeats 20000000 in
/-- The laws' again. -/
theorem lagain_ (ka va : Option Addr) (kn kc vn vc : Nat) (k v : List Int) (w : World) (hr : (Vs w (fun x => x < w.heap.size) ka kn kc k ∧ kn ≤ 140737488351232) ∧ (Vs w (fun x => x < w.heap.size) va vn vc v ∧ vn ≤ 140737488351232)) :
    Calls Try.prog 27 #[.agg #[.slice ka kn kc, .slice va vn vc]] w fun e w' => e = .returned (.bool true) ∧ Below w.heap.size w w' := by
  obtain ⟨⟨hk, h1⟩, hv, h2⟩ := hr
  have B0 := bel_al w (.cells #[.slice ka kn kc, .slice va vn vc] 27)
  have M0 := heap_alloc_new w (.cells #[.slice ka kn kc, .slice va vn vc] 27)
  have HB0 := hid B0
  have HK := hid (hk.bs.below B0)
  have HV := hid (hv.bs.below B0)
  have HKl : Hid (k.length = kn) := hk.bs.1
  have HVl : Hid (v.length = vn) := hv.bs.1
  have HLk := hid hk.len
  have HLv := hid hv.len
  have hokv := hv.bs.2.1
  have Hy : Hid ((w.alloc (.cells #[.slice ka kn kc, .slice va vn vc] 27)).cell? ⟨w.heap.size, 0, none⟩ = some (.slice ka kn kc) ∧ (w.alloc (.cells #[.slice ka kn kc, .slice va vn vc] 27)).cell? ⟨w.heap.size, 1, none⟩ = some (.slice va vn vc)) := two_cell M0
  obtain ⟨qP, hqP⟩ := gp_bool k v
  have HqP := hid hqP
  have y0 := Hy.out.1
  have y1 := Hy.out.2
  obtain ⟨W, HW⟩ : ∃ W, Hid (w.alloc (.cells #[.slice ka kn kc, .slice va vn vc] 27) = W) := ⟨_, rfl⟩
  rw [HW.out] at HB0 HK HV Hy
  have kgP := fun wx (h : Bw W wx) => getPeer_ ka va kn kc vn vc k v wx (HK.out.below h) (HV.out.below h) hk.nil hv.nil hk.nc hv.nc h1 h2 qP hqP
  have kgL := fun wx (h : Bw W wx) => getLane_ ka va kn kc vn vc k v wx (HK.out.below h) (HV.out.below h) hk.nil hv.nil hk.nc hv.nc h1 h2
  have kgB := fun wx (h : Bw W wx) => getBoots_ ka va kn kc vn vc k v wx (HK.out.below h) (HV.out.below h) hk.nil hv.nil hk.nc hv.nc h1 h2
  unfold Gq at kgP
  have HPo : Hid (((if qP then (0 : Int) else 114) = 0 ∧ Pk (if qP then xK k else 0) (if qP then v.take 32 else []).length (if qP then xP v else []) ∧ peK (if qP then xK k else 0) = k ∧ peV (if qP then v.take 32 else []) (if qP then xP v else []) = v) ∨ (if qP then (0 : Int) else 114) = 114) := by
    cases qP with
    | false => exact .inr rfl
    | true =>
      obtain ⟨g1, g2, g3, g4, g5⟩ := hqP.1 rfl
      refine .inl ⟨rfl, ?_, g4, g5⟩
      simp only [if_true]
      rw [show (v.take 32).length = 32 from by rw [List.length_take]; omega]
      exact g3
  obtain ⟨ZKp, hZKp⟩ : ∃ x, (if qP then xK k else 0) = x := ⟨_, rfl⟩
  obtain ⟨ZBp, hZBp⟩ : ∃ x, (if qP then v.take 32 else []) = x := ⟨_, rfl⟩
  obtain ⟨ZPp, hZPp⟩ : ∃ x, (if qP then xP v else []) = x := ⟨_, rfl⟩
  obtain ⟨ZOp, hZOp⟩ : ∃ x, (if qP then (0 : Int) else 114) = x := ⟨_, rfl⟩
  obtain ⟨zb, HZB⟩ : ∃ x : Nat, Hid (ZBp.length = x) := ⟨_, rfl⟩
  obtain ⟨zp, HZP⟩ : ∃ x : Nat, Hid (ZPp.length = x) := ⟨_, rfl⟩
  simp only [hZKp, hZBp, hZPp, hZOp, HZB.out, HZP.out] at kgP HPo
  clear hZKp hZBp hZPp hZOp HqP
  unfold Gb at kgL
  have HZI := hid (zIn k v hokv)
  have HLo : Hid ((yok k v = true ∧ zO k v = 0 ∧ lK (zK k v) = k ∧ lV (zS k v) (zC k v) (zN k v) (zD k v) (zE k v) (zs k v) (zn k v) = v) ∨ (yok k v = false ∧ zO k v = 114)) := by
    unfold zO zK zS zC zN zD zE zs zn
    cases hy : yok k v with
    | false => exact .inr ⟨rfl, rfl⟩
    | true =>
      obtain ⟨-, -, -, g4, g5⟩ := yok_get hy
      exact .inl ⟨rfl, rfl, g4, g5⟩
  have HLok : Hid (yok k v = true → lok (zK k v).length (zS k v) (zC k v) (zN k v) (zs k v) (zn k v) = true) := fun hy => by
    unfold zK zS zC zN zs zn
    rw [hy]
    simp only [if_true]
    obtain ⟨g1, -, g3, -, -⟩ := yok_get hy
    rw [show (yK k).length = 32 from by unfold yK; rw [List.length_drop]; omega]
    exact g3
  obtain ⟨ZK, hZK⟩ : ∃ x, zK k v = x := ⟨_, rfl⟩
  obtain ⟨ZS, hZS⟩ : ∃ x, zS k v = x := ⟨_, rfl⟩
  obtain ⟨ZC, hZC⟩ : ∃ x, zC k v = x := ⟨_, rfl⟩
  obtain ⟨ZN, hZN⟩ : ∃ x, zN k v = x := ⟨_, rfl⟩
  obtain ⟨ZD, hZD⟩ : ∃ x, zD k v = x := ⟨_, rfl⟩
  obtain ⟨ZE, hZE⟩ : ∃ x, zE k v = x := ⟨_, rfl⟩
  obtain ⟨Zs, hZs⟩ : ∃ x, zs k v = x := ⟨_, rfl⟩
  obtain ⟨Zn, hZn⟩ : ∃ x, zn k v = x := ⟨_, rfl⟩
  obtain ⟨ZO, hZO⟩ : ∃ x, zO k v = x := ⟨_, rfl⟩
  obtain ⟨zl, HZL⟩ : ∃ x : Nat, Hid (ZK.length = x) := ⟨_, rfl⟩
  simp only [hZK, hZS, hZC, hZN, hZD, hZE, hZs, hZn, hZO, HZL.out] at kgL HLo HZI
  simp only [hZK, hZS, hZC, hZN, hZs, hZn] at HLok
  have HBo := hid (gb_get (k := k) hokv)
  have HgI := hid (gb_in (k := k) hokv)
  obtain ⟨gN, hgN⟩ : ∃ x, gbN k v = x := ⟨_, rfl⟩
  obtain ⟨gE, hgE⟩ : ∃ x, gbE k v = x := ⟨_, rfl⟩
  simp only [hgN, hgE] at kgB HBo HgI
  have HB1x : Hid (Bw W W) := Below.refl _ _
  clear B0 M0 hk hv hqP hokv hZK hZS hZC hZN hZD hZE hZs hZn hZO hgN hgE
  go_enter Try.func27, Try.ntmps27
  go_wp2_with fail
  rw [HW.out]
  clear HW y0 y1
  refine (kgP _ HB1x.out).mono ?_
  rintro e u1 ⟨a1, d1, p1, e1, rfl, vs1, pv1, g1⟩
  have B1 := bel_al u1 (.cells #[.int .i64 ZKp, .slice a1 zb d1, .slice p1 zp e1] 25)
  have HB1 := hid ((HB1x.out.on g1).on B1)
  have L1 := Pe.new u1 ZKp a1 zb d1 p1 zp e1
  rcases HPo.out with ⟨hZO, hPk, hpK, hpV⟩ | hZO
  · rw [hZO]
    have kp := putPeer_ ZKp a1 p1 zb d1 zp e1 ZBp ZPp _ (by have := hPk.1; have := hPk.2.1; unfold InI; omega) (vs1.bs.below B1) (pv1.ps.on B1) vs1.len (Nat.le_trans pv1.nc pv1.cm) true ⟨fun _ => hPk, fun _ => rfl⟩
    unfold Rp at kp
    simp only [if_true] at kp
    rw [hpK, hpV, HKl.out, HVl.out] at kp
    have c0 := L1.c0
    have c1 := L1.c1
    have c2 := L1.c2
    clear vs1 pv1 g1 B1 L1 HB1x hPk hpK hpV
    go_wp2_with (go_at_call 15; refine (lnum_ _ _).mono ?_; rintro e w' ⟨rfl, hw⟩; obtain rfl := hw.symm; clear hw)
    clear c0 c1 c2
    refine kp.mono ?_
    rintro e u2 ⟨ra2, rc2, sa2, sc2, rfl, vk2, vv2, g2⟩
    have B2 := bel_al u2 (.cells #[.slice ra2 kn rc2, .slice sa2 vn sc2] 27)
    have M2 := heap_alloc_new u2 (.cells #[.slice ra2 kn rc2, .slice sa2 vn sc2] 27)
    have HB2 := hid ((HB1.out.on g2).on B2)
    have ks := sameRow_ ra2 sa2 ka va kn rc2 vn sc2 kn kc vn vc k v k v _ (vk2.bs.below B2) (vv2.bs.below B2) (HK.out.below HB2.out) (HV.out.below HB2.out) vk2.len vv2.len HLk.out HLv.out
    rw [sameB_self, sameB_self] at ks
    have x0 := (two_cell M2).1
    have x1 := (two_cell M2).2
    have y0 := Bw.cell HB2.out Hy.out.1
    have y1 := Bw.cell HB2.out Hy.out.2
    clear kp vk2 vv2 g2 B2 M2 HB1
    go_wp2_with fail
    clear x0 x1 y0 y1
    refine ks.mono ?_
    rintro e t2 ⟨rfl, g2⟩
    have HC2 := hid (HB2.out.on g2)
    clear ks g2 HB2
    have HB2 := HC2
    clear HC2
    have y0 := Bw.cell HB2.out Hy.out.1
    have y1 := Bw.cell HB2.out Hy.out.2
    go_wp2_with (go_at_call 15; refine (lnum_ _ _).mono ?_; rintro e w' ⟨rfl, hw⟩; obtain rfl := hw.symm; clear hw)
    clear y0 y1
    refine (kgL _ HB2.out).mono ?_
    rintro e u3 ⟨a3, d3, rfl, vs3, g3⟩
    have B3 := lnew u3 a3 zl d3 ZS ZC ZN ZD ZE Zs Zn
    have HB3 := hid ((HB2.out.on g3).on B3)
    have L3 := Lm.new u3 a3 zl d3 ZS ZC ZN ZD ZE Zs Zn
    rcases HLo.out with ⟨hy, hZO, h4, h5⟩ | ⟨hy, hZO⟩
    · rw [hZO]
      have kp := putLane_ a3 zl d3 ZK ZS ZC ZN ZD ZE Zs Zn _ (vs3.bs.below B3) vs3.len HZI.out.1 HZI.out.2.1 HZI.out.2.2.1 HZI.out.2.2.2.1 HZI.out.2.2.2.2.1 HZI.out.2.2.2.2.2.1 HZI.out.2.2.2.2.2.2
      have hlk := HLok.out hy
      unfold Rp at kp
      have e1 : lRK ZK ZS ZC ZN Zs Zn = k := by unfold lRK; rw [hlk]; exact h4
      have e2 : lRV ZK ZS ZC ZN ZD ZE Zs Zn = v := by unfold lRV; rw [hlk]; exact h5
      have e3 : lRE ZK ZS ZC ZN Zs Zn = 0 := by unfold lRE; rw [hlk]; rfl
      rw [e1, e2, e3, HKl.out, HVl.out] at kp
      obtain ⟨c0, c1, c2, c3, c4, c5, c6, c7⟩ := L3.cells
      clear vs3 g3 B3 L3 HB2 hlk h4 h5 e1 e2 e3
      go_wp2_with (go_at_call 15; refine (lnum_ _ _).mono ?_; rintro e w' ⟨rfl, hw⟩; obtain rfl := hw.symm; clear hw)
      clear c0 c1 c2 c3 c4 c5 c6 c7
      refine kp.mono ?_
      rintro e u4 ⟨ra4, rc4, sa4, sc4, rfl, vk4, vv4, g4⟩
      have B4 := bel_al u4 (.cells #[.slice ra4 kn rc4, .slice sa4 vn sc4] 27)
      have M4 := heap_alloc_new u4 (.cells #[.slice ra4 kn rc4, .slice sa4 vn sc4] 27)
      have HB4 := hid ((HB3.out.on g4).on B4)
      have ks := sameRow_ ra4 sa4 ka va kn rc4 vn sc4 kn kc vn vc k v k v _ (vk4.bs.below B4) (vv4.bs.below B4) (HK.out.below HB4.out) (HV.out.below HB4.out) vk4.len vv4.len HLk.out HLv.out
      rw [sameB_self, sameB_self] at ks
      have x0 := (two_cell M4).1
      have x1 := (two_cell M4).2
      have y0 := Bw.cell HB4.out Hy.out.1
      have y1 := Bw.cell HB4.out Hy.out.2
      clear kp vk4 vv4 g4 B4 M4 HB3
      go_wp2_with fail
      clear x0 x1 y0 y1
      refine ks.mono ?_
      rintro e t4 ⟨rfl, g4⟩
      have HC4 := hid (HB4.out.on g4)
      clear ks g4 HB4
      have HB4 := HC4
      clear HC4
      have y0 := Bw.cell HB4.out Hy.out.1
      have y1 := Bw.cell HB4.out Hy.out.2
      go_wp2_with (go_at_call 15; refine (lnum_ _ _).mono ?_; rintro e w' ⟨rfl, hw⟩; obtain rfl := hw.symm; clear hw)
      clear y0 y1
      refine (kgB _ HB4.out).mono ?_
      rintro e u5 ⟨rfl, g5⟩
      have HB5 := hid (HB4.out.on g5)
      clear HB4 g5
      rcases HBo.out with ⟨hgE, h4, h5, h6⟩ | hgE
      · rw [hgE]
        have kp := putBoots_ gN u5 HgI.out
        unfold Rp at kp
        rw [h4, h5, h6, HKl.out, HVl.out] at kp
        clear h4 h5 h6
        go_wp2_with (go_at_call 15; refine (lnum_ _ _).mono ?_; rintro e w' ⟨rfl, hw⟩; obtain rfl := hw.symm; clear hw)
        refine kp.mono ?_
        rintro e u6 ⟨ra6, rc6, sa6, sc6, rfl, vk6, vv6, g6⟩
        have B6 := bel_al u6 (.cells #[.slice ra6 kn rc6, .slice sa6 vn sc6] 27)
        have M6 := heap_alloc_new u6 (.cells #[.slice ra6 kn rc6, .slice sa6 vn sc6] 27)
        have HB6 := hid ((HB5.out.on g6).on B6)
        have ks := sameRow_ ra6 sa6 ka va kn rc6 vn sc6 kn kc vn vc k v k v _ (vk6.bs.below B6) (vv6.bs.below B6) (HK.out.below HB6.out) (HV.out.below HB6.out) vk6.len vv6.len HLk.out HLv.out
        rw [sameB_self, sameB_self] at ks
        have x0 := (two_cell M6).1
        have x1 := (two_cell M6).2
        have y0 := Bw.cell HB6.out Hy.out.1
        have y1 := Bw.cell HB6.out Hy.out.2
        clear kp vk6 vv6 g6 B6 M6 HB5
        go_wp2_with fail
        clear x0 x1 y0 y1
        refine ks.mono ?_
        rintro e t6 ⟨rfl, g6⟩
        have HC6 := hid (HB6.out.on g6)
        clear ks g6 HB6
        have HB6 := HC6
        clear HC6
        have y0 := Bw.cell HB6.out Hy.out.1
        have y1 := Bw.cell HB6.out Hy.out.2
        go_wp2_with (go_at_call 15; refine (lnum_ _ _).mono ?_; rintro e w' ⟨rfl, hw⟩; obtain rfl := hw.symm; clear hw)
        clear y0 y1
        go_ret
        exact ⟨rfl, bel_bel HB0.out HB0.out.size HB6.out⟩
      · rw [hgE]
        go_wp2_with (go_at_call 15; refine (lnum_ _ _).mono ?_; rintro e w' ⟨rfl, hw⟩; obtain rfl := hw.symm; clear hw)
        go_ret
        exact ⟨rfl, bel_bel HB0.out HB0.out.size HB5.out⟩
    · rw [hZO]
      clear vs3 g3 B3 L3 HB2
      have y0 := Bw.cell HB3.out Hy.out.1
      have y1 := Bw.cell HB3.out Hy.out.2
      go_wp2_with (go_at_call 15; refine (lnum_ _ _).mono ?_; rintro e w' ⟨rfl, hw⟩; obtain rfl := hw.symm; clear hw)
      clear y0 y1
      refine (kgB _ HB3.out).mono ?_
      rintro e u7 ⟨rfl, g7⟩
      have HB7 := hid (HB3.out.on g7)
      clear HB3 g7
      rcases HBo.out with ⟨hgE, h4, h5, h6⟩ | hgE
      · rw [hgE]
        have kp := putBoots_ gN u7 HgI.out
        unfold Rp at kp
        rw [h4, h5, h6, HKl.out, HVl.out] at kp
        clear h4 h5 h6
        go_wp2_with (go_at_call 15; refine (lnum_ _ _).mono ?_; rintro e w' ⟨rfl, hw⟩; obtain rfl := hw.symm; clear hw)
        refine kp.mono ?_
        rintro e u8 ⟨ra8, rc8, sa8, sc8, rfl, vk8, vv8, g8⟩
        have B8 := bel_al u8 (.cells #[.slice ra8 kn rc8, .slice sa8 vn sc8] 27)
        have M8 := heap_alloc_new u8 (.cells #[.slice ra8 kn rc8, .slice sa8 vn sc8] 27)
        have HB8 := hid ((HB7.out.on g8).on B8)
        have ks := sameRow_ ra8 sa8 ka va kn rc8 vn sc8 kn kc vn vc k v k v _ (vk8.bs.below B8) (vv8.bs.below B8) (HK.out.below HB8.out) (HV.out.below HB8.out) vk8.len vv8.len HLk.out HLv.out
        rw [sameB_self, sameB_self] at ks
        have x0 := (two_cell M8).1
        have x1 := (two_cell M8).2
        have y0 := Bw.cell HB8.out Hy.out.1
        have y1 := Bw.cell HB8.out Hy.out.2
        clear kp vk8 vv8 g8 B8 M8 HB7
        go_wp2_with fail
        clear x0 x1 y0 y1
        refine ks.mono ?_
        rintro e t8 ⟨rfl, g8⟩
        have HC8 := hid (HB8.out.on g8)
        clear ks g8 HB8
        have HB8 := HC8
        clear HC8
        have y0 := Bw.cell HB8.out Hy.out.1
        have y1 := Bw.cell HB8.out Hy.out.2
        go_wp2_with (go_at_call 15; refine (lnum_ _ _).mono ?_; rintro e w' ⟨rfl, hw⟩; obtain rfl := hw.symm; clear hw)
        clear y0 y1
        go_ret
        exact ⟨rfl, bel_bel HB0.out HB0.out.size HB8.out⟩
      · rw [hgE]
        go_wp2_with (go_at_call 15; refine (lnum_ _ _).mono ?_; rintro e w' ⟨rfl, hw⟩; obtain rfl := hw.symm; clear hw)
        go_ret
        exact ⟨rfl, bel_bel HB0.out HB0.out.size HB7.out⟩
  · rw [hZO]
    clear vs1 pv1 g1 B1 L1 HB1x
    have y0 := Bw.cell HB1.out Hy.out.1
    have y1 := Bw.cell HB1.out Hy.out.2
    go_wp2_with (go_at_call 15; refine (lnum_ _ _).mono ?_; rintro e w' ⟨rfl, hw⟩; obtain rfl := hw.symm; clear hw)
    clear y0 y1
    refine (kgL _ HB1.out).mono ?_
    rintro e u9 ⟨a9, d9, rfl, vs9, g9⟩
    have B9 := lnew u9 a9 zl d9 ZS ZC ZN ZD ZE Zs Zn
    have HB9 := hid ((HB1.out.on g9).on B9)
    have L9 := Lm.new u9 a9 zl d9 ZS ZC ZN ZD ZE Zs Zn
    rcases HLo.out with ⟨hy, hZO, h4, h5⟩ | ⟨hy, hZO⟩
    · rw [hZO]
      have kp := putLane_ a9 zl d9 ZK ZS ZC ZN ZD ZE Zs Zn _ (vs9.bs.below B9) vs9.len HZI.out.1 HZI.out.2.1 HZI.out.2.2.1 HZI.out.2.2.2.1 HZI.out.2.2.2.2.1 HZI.out.2.2.2.2.2.1 HZI.out.2.2.2.2.2.2
      have hlk := HLok.out hy
      unfold Rp at kp
      have e1 : lRK ZK ZS ZC ZN Zs Zn = k := by unfold lRK; rw [hlk]; exact h4
      have e2 : lRV ZK ZS ZC ZN ZD ZE Zs Zn = v := by unfold lRV; rw [hlk]; exact h5
      have e3 : lRE ZK ZS ZC ZN Zs Zn = 0 := by unfold lRE; rw [hlk]; rfl
      rw [e1, e2, e3, HKl.out, HVl.out] at kp
      obtain ⟨c0, c1, c2, c3, c4, c5, c6, c7⟩ := L9.cells
      clear vs9 g9 B9 L9 HB1 hlk h4 h5 e1 e2 e3
      go_wp2_with (go_at_call 15; refine (lnum_ _ _).mono ?_; rintro e w' ⟨rfl, hw⟩; obtain rfl := hw.symm; clear hw)
      clear c0 c1 c2 c3 c4 c5 c6 c7
      refine kp.mono ?_
      rintro e u10 ⟨ra10, rc10, sa10, sc10, rfl, vk10, vv10, g10⟩
      have B10 := bel_al u10 (.cells #[.slice ra10 kn rc10, .slice sa10 vn sc10] 27)
      have M10 := heap_alloc_new u10 (.cells #[.slice ra10 kn rc10, .slice sa10 vn sc10] 27)
      have HB10 := hid ((HB9.out.on g10).on B10)
      have ks := sameRow_ ra10 sa10 ka va kn rc10 vn sc10 kn kc vn vc k v k v _ (vk10.bs.below B10) (vv10.bs.below B10) (HK.out.below HB10.out) (HV.out.below HB10.out) vk10.len vv10.len HLk.out HLv.out
      rw [sameB_self, sameB_self] at ks
      have x0 := (two_cell M10).1
      have x1 := (two_cell M10).2
      have y0 := Bw.cell HB10.out Hy.out.1
      have y1 := Bw.cell HB10.out Hy.out.2
      clear kp vk10 vv10 g10 B10 M10 HB9
      go_wp2_with fail
      clear x0 x1 y0 y1
      refine ks.mono ?_
      rintro e t10 ⟨rfl, g10⟩
      have HC10 := hid (HB10.out.on g10)
      clear ks g10 HB10
      have HB10 := HC10
      clear HC10
      have y0 := Bw.cell HB10.out Hy.out.1
      have y1 := Bw.cell HB10.out Hy.out.2
      go_wp2_with (go_at_call 15; refine (lnum_ _ _).mono ?_; rintro e w' ⟨rfl, hw⟩; obtain rfl := hw.symm; clear hw)
      clear y0 y1
      refine (kgB _ HB10.out).mono ?_
      rintro e u11 ⟨rfl, g11⟩
      have HB11 := hid (HB10.out.on g11)
      clear HB10 g11
      rcases HBo.out with ⟨hgE, h4, h5, h6⟩ | hgE
      · rw [hgE]
        have kp := putBoots_ gN u11 HgI.out
        unfold Rp at kp
        rw [h4, h5, h6, HKl.out, HVl.out] at kp
        clear h4 h5 h6
        go_wp2_with (go_at_call 15; refine (lnum_ _ _).mono ?_; rintro e w' ⟨rfl, hw⟩; obtain rfl := hw.symm; clear hw)
        refine kp.mono ?_
        rintro e u12 ⟨ra12, rc12, sa12, sc12, rfl, vk12, vv12, g12⟩
        have B12 := bel_al u12 (.cells #[.slice ra12 kn rc12, .slice sa12 vn sc12] 27)
        have M12 := heap_alloc_new u12 (.cells #[.slice ra12 kn rc12, .slice sa12 vn sc12] 27)
        have HB12 := hid ((HB11.out.on g12).on B12)
        have ks := sameRow_ ra12 sa12 ka va kn rc12 vn sc12 kn kc vn vc k v k v _ (vk12.bs.below B12) (vv12.bs.below B12) (HK.out.below HB12.out) (HV.out.below HB12.out) vk12.len vv12.len HLk.out HLv.out
        rw [sameB_self, sameB_self] at ks
        have x0 := (two_cell M12).1
        have x1 := (two_cell M12).2
        have y0 := Bw.cell HB12.out Hy.out.1
        have y1 := Bw.cell HB12.out Hy.out.2
        clear kp vk12 vv12 g12 B12 M12 HB11
        go_wp2_with fail
        clear x0 x1 y0 y1
        refine ks.mono ?_
        rintro e t12 ⟨rfl, g12⟩
        have HC12 := hid (HB12.out.on g12)
        clear ks g12 HB12
        have HB12 := HC12
        clear HC12
        have y0 := Bw.cell HB12.out Hy.out.1
        have y1 := Bw.cell HB12.out Hy.out.2
        go_wp2_with (go_at_call 15; refine (lnum_ _ _).mono ?_; rintro e w' ⟨rfl, hw⟩; obtain rfl := hw.symm; clear hw)
        clear y0 y1
        go_ret
        exact ⟨rfl, bel_bel HB0.out HB0.out.size HB12.out⟩
      · rw [hgE]
        go_wp2_with (go_at_call 15; refine (lnum_ _ _).mono ?_; rintro e w' ⟨rfl, hw⟩; obtain rfl := hw.symm; clear hw)
        go_ret
        exact ⟨rfl, bel_bel HB0.out HB0.out.size HB11.out⟩
    · rw [hZO]
      clear vs9 g9 B9 L9 HB1
      have y0 := Bw.cell HB9.out Hy.out.1
      have y1 := Bw.cell HB9.out Hy.out.2
      go_wp2_with (go_at_call 15; refine (lnum_ _ _).mono ?_; rintro e w' ⟨rfl, hw⟩; obtain rfl := hw.symm; clear hw)
      clear y0 y1
      refine (kgB _ HB9.out).mono ?_
      rintro e u13 ⟨rfl, g13⟩
      have HB13 := hid (HB9.out.on g13)
      clear HB9 g13
      rcases HBo.out with ⟨hgE, h4, h5, h6⟩ | hgE
      · rw [hgE]
        have kp := putBoots_ gN u13 HgI.out
        unfold Rp at kp
        rw [h4, h5, h6, HKl.out, HVl.out] at kp
        clear h4 h5 h6
        go_wp2_with (go_at_call 15; refine (lnum_ _ _).mono ?_; rintro e w' ⟨rfl, hw⟩; obtain rfl := hw.symm; clear hw)
        refine kp.mono ?_
        rintro e u14 ⟨ra14, rc14, sa14, sc14, rfl, vk14, vv14, g14⟩
        have B14 := bel_al u14 (.cells #[.slice ra14 kn rc14, .slice sa14 vn sc14] 27)
        have M14 := heap_alloc_new u14 (.cells #[.slice ra14 kn rc14, .slice sa14 vn sc14] 27)
        have HB14 := hid ((HB13.out.on g14).on B14)
        have ks := sameRow_ ra14 sa14 ka va kn rc14 vn sc14 kn kc vn vc k v k v _ (vk14.bs.below B14) (vv14.bs.below B14) (HK.out.below HB14.out) (HV.out.below HB14.out) vk14.len vv14.len HLk.out HLv.out
        rw [sameB_self, sameB_self] at ks
        have x0 := (two_cell M14).1
        have x1 := (two_cell M14).2
        have y0 := Bw.cell HB14.out Hy.out.1
        have y1 := Bw.cell HB14.out Hy.out.2
        clear kp vk14 vv14 g14 B14 M14 HB13
        go_wp2_with fail
        clear x0 x1 y0 y1
        refine ks.mono ?_
        rintro e t14 ⟨rfl, g14⟩
        have HC14 := hid (HB14.out.on g14)
        clear ks g14 HB14
        have HB14 := HC14
        clear HC14
        have y0 := Bw.cell HB14.out Hy.out.1
        have y1 := Bw.cell HB14.out Hy.out.2
        go_wp2_with (go_at_call 15; refine (lnum_ _ _).mono ?_; rintro e w' ⟨rfl, hw⟩; obtain rfl := hw.symm; clear hw)
        clear y0 y1
        go_ret
        exact ⟨rfl, bel_bel HB0.out HB0.out.size HB14.out⟩
      · rw [hgE]
        go_wp2_with (go_at_call 15; refine (lnum_ _ _).mono ?_; rintro e w' ⟨rfl, hw⟩; obtain rfl := hw.symm; clear hw)
        go_ret
        exact ⟨rfl, bel_bel HB0.out HB0.out.size HB13.out⟩
end Go.Proofs.Ytohfdkhlpghbcaa
