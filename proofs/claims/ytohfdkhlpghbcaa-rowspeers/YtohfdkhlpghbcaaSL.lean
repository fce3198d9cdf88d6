import Derived.Test.YtohfdkhlpghbcaaSK
import Derived.Test.YtohfdkhlpghbcaaSD
namespace Go.Proofs.Ytohfdkhlpghbcaa
set_option maxRecDepth 100000
open Go.RowKit
set_option linter.unusedVariables false

/-- The peer of a row, as it is answered. -/
def Gq (w : World) (k v : List Int) (q : Bool) (e : Ending) (w' : World) : Prop := ∃ ka kc pa pc, e = .returned (.tuple #[.agg #[.int .i64 (if q then xK k else 0), .slice ka (if q then v.take 32 else []).length kc, .slice pa (if q then xP v else []).length pc], .int .i64 (if q then 0 else 114)]) ∧ Vs w' (fun x => w.heap.size ≤ x) ka (if q then v.take 32 else []).length kc (if q then v.take 32 else []) ∧ Pv w' (fun x => w.heap.size ≤ x) pa (if q then xP v else []).length pc (if q then xP v else []) ∧ Below w.heap.size w w'
/-- A peer that was read: its block, made since W, the bytes of its key and its prefixes beside it. -/
structure Lh (W X : World) (G : Nat) (K : Int) (a : Option Addr) (m : Nat) (k : List Int) (pa : Option Addr) (n d : Nat) (ps : List Px) : Prop where
  pe : Pe X G K a m m pa n d
  bw : Bw W X
  vs : Vs X (fun x => W.heap.size ≤ x ∧ x ≠ G) a m m k
  pv : Pv X (fun x => W.heap.size ≤ x ∧ x ≠ G) pa n d ps
  ge : W.heap.size ≤ G
theorem Lh.on {W X X' : World} {G : Nat} {K : Int} {a : Option Addr} {m : Nat} {k : List Int} {pa : Option Addr} {n d : Nat} {ps : List Px} (h : Lh W X G K a m k pa n d ps) (hb : Below X.heap.size X X') : Lh W X' G K a m k pa n d ps := ⟨h.pe.kept hb, Bw.on h.bw hb, h.vs.step fun x hx _ _ => hb.block x hx, h.pv.on hb, h.ge⟩
theorem wk_long {v : List Int} (h : 0 < (wk v).length) : 0 < v.length := by
  unfold wk bz at h
  split at h
  · rw [List.length_take] at h; omega
  · simp at h
theorem set3_cell {w : World} {g : Nat} {p : Addr} (h : p.block ≠ g) (v0 v1 v2 : Value) : (((w.setCell ⟨g, 0, none⟩ v0).setCell ⟨g, 1, none⟩ v1).setCell ⟨g, 2, none⟩ v2).cell? p = w.cell? p := World.cell?_of_block (three_other h)
theorem set3_bel {B g : Nat} {a w : World} (h : Below B a w) (hg : B ≤ g) (v0 v1 v2 : Value) : Below B a (((w.setCell ⟨g, 0, none⟩ v0).setCell ⟨g, 1, none⟩ v1).setCell ⟨g, 2, none⟩ v2) :=
  ((h.setCell (p := ⟨g, 0, none⟩) hg v0).setCell (p := ⟨g, 1, none⟩) hg v1).setCell (p := ⟨g, 2, none⟩) hg v2
set_option maxHeartbeats 40000000 in
/-- The landed get, of a peer. -/
theorem getP_ (ka va : Option Addr) (kn kc vn vc : Nat) (k v : List Int) (w : World) (hk : Bs w ka kn k) (hv : Bs w va vn v) (hka : ka = none → kc = 0) (hva : va = none → vc = 0) (hkc : kn ≤ kc) (hvc : vn ≤ vc) (h1 : kn ≤ 140737488351232) (h2 : vn ≤ 140737488351232) (q : Bool) (hq : (q = true) ↔ Gp k v) :
    Calls Try.prog 38 #[.agg #[.slice ka kn kc, .slice va vn vc], .func (.func 39) #[] #[], .func (.func 7) #[] #[]] w fun e w' => Gq w k v q e w' := by
  have BA : Below w.heap.size w ((w.alloc (.cells #[.slice ka kn kc, .slice va vn vc] 27)).alloc (.cells #[.int .i64 0, .slice none 0 0, .slice none 0 0] 25)) := (bel_al w _).alloc (by simp) _
  have m1 : ((w.alloc (.cells #[.slice ka kn kc, .slice va vn vc] 27)).alloc (.cells #[.int .i64 0, .slice none 0 0, .slice none 0 0] 25)).heap[w.heap.size]? = some (.cells #[.slice ka kn kc, .slice va vn vc] 27 (0, 0)) := (Below.heap_alloc _ _ _ (by simp)).trans (heap_alloc_new w _)
  have m2 := Pe.new (w.alloc (.cells #[.slice ka kn kc, .slice va vn vc] 27)) 0 none 0 0 none 0 0
  rw [World.size_alloc] at m2
  have HBA := hid BA
  have HM1 := hid m1
  have HM2 := hid m2
  have HK := hid hk
  have HV := hid hv
  have HWS : Hid (((w.alloc (.cells #[.slice ka kn kc, .slice va vn vc] 27)).alloc (.cells #[.int .i64 0, .slice none 0 0, .slice none 0 0] 25)).heap.size = w.heap.size + 2) := by show _ = _; simp
  clear BA m1 m2 hk hv
  have y0 := (two_cell HM1.out).1
  have y1 := (two_cell HM1.out).2
  generalize HW : ((w.alloc (.cells #[.slice ka kn kc, .slice va vn vc] 27)).alloc (.cells #[.int .i64 0, .slice none 0 0, .slice none 0 0] 25)) = W at *
  have k1 := fun wx (h : Bw W wx) => newReader15 ka kn kc k wx ((HK.out.below HBA.out).below h) hka h1 hkc (by have := Below.size h; have := HWS.out; omega)
  have k2 := fun wx (h : Bw W wx) => newReader15 va vn vc v wx ((HV.out.below HBA.out).below h) hva h2 hvc (by have := Below.size h; have := HWS.out; omega)
  have BW0 : Bw W { W with drawn := W.drawn + 1 } := Bw.drew W
  have BW1 : ∀ o, Bw W (({ W with drawn := W.drawn + 1 } : World).alloc o) := fun o => Bw.al BW0 o
  have k3 := fun rk gk rv gg wx hk hv a1 a2 a3 a4 => readPeer_ rk gk rv gg k v wx hk hv (by rw [HK.out.1]; exact h1) (by rw [HV.out.1]; exact h2) HK.out.2.1 HV.out.2.1 a1 a2 a3 a4
  have HTL : Hid (0 < (wk v).length → 0 < vn) := fun h => by rw [← HV.out.1]; exact wk_long h
  have hb1 := gvIn32 (e := ge 1 k 0) (gl_sub (W := 1) (e := 0) HK.out.2.1).1
  have HKI : Hid (InI (wK k)) := by show -9223372036854775808 ≤ wK k ∧ wK k ≤ 9223372036854775807; unfold wK; omega
  have hb2 := gvIn8 (e := ge 32 v 0) (gl_sub (W := 32) (e := 0) HV.out.2.1).1
  have HPN : Hid ((wP v).length ≤ 255) := by show _ ≤ _; unfold wP; rw [cpl_length]; unfold wn; omega
  clear hb1 hb2
  have HPQ : Hid ((Pk (wK k) (wk v).length (wP v) ∧ peK (wK k) = k ∧ peV (wk v) (wP v) = v) ↔ q = true) := gp_code.trans hq.symm
  have HQT : Hid (q = true → wK k = xK k ∧ wk v = v.take 32 ∧ wP v = xP v) := fun h => by
    obtain ⟨g1, g2, -⟩ := hq.1 h
    obtain ⟨e1, e2, e3, e4⟩ := w_whole g1 g2
    exact ⟨e1, e2, by unfold wP xP xn; rw [e3, e4]⟩
  clear hq
  obtain ⟨KB, hKB⟩ : ∃ x, wk v = x := ⟨_, rfl⟩
  obtain ⟨K, hK⟩ : ∃ x, wK k = x := ⟨_, rfl⟩
  obtain ⟨PS, hPS⟩ : ∃ x, wP v = x := ⟨_, rfl⟩
  obtain ⟨kl, HKL⟩ : ∃ x : Nat, Hid (KB.length = x) := ⟨_, rfl⟩
  obtain ⟨pn, HPNL⟩ : ∃ x : Nat, Hid (PS.length = x) := ⟨_, rfl⟩
  simp only [hKB, hK, hPS, HKL.out, HPNL.out] at HTL HKI HPN HPQ HQT k3
  clear hKB hK hPS hka hva hkc hvc
  go_enter Try.func38, Try.ntmps38
  go_wp2_with fail
  clear HW
  go_region_held (fun wx => wx.cell? ⟨w.heap.size, 0, none⟩ = some (.slice ka kn kc) ∧ wx.cell? ⟨w.heap.size, 1, none⟩ = some (.slice va vn vc)) (go_keep) (first | (go_at_call 39; refine (k3 r1 g1 r2 g2 _ (by first | exact R1.out | exact R1.out.kept (bel_al _ _)) (by first | exact R2.out | exact R2.out.kept (bel_al _ _)) HJ1.out HRR.out HJ2.out HNE.out).mono ?_; rintro en w4 ⟨a4, p4, d4, rfl, l4, pv4, b4, fr4⟩; have HNW : Hid (w.heap.size < W.heap.size ∧ w.heap.size < w2.heap.size ∧ w.heap.size < w3.heap.size) := (by have h0 := HWS.out; have h1 := Below.size G2; have h2 := Below.size G3; show _ ∧ _ ∧ _; omega); have HBX := hid (Bw.to4 (by first | exact G3 | exact Bw.al G3 _) b4 HR1.out); have u4 := Bw.cell HBX.out y0; have u5 := Bw.cell HBX.out y1; have HLI := hid l4; have HPI := hid pv4; (first | (have L4 : Pe w4 w3.heap.size 0 none 0 0 none 0 0 := (Pe.new w3 0 none 0 0 none 0 0).at (fr4 w3.heap.size (by simp) (by have := HLT3.out; omega) (by have := HLT3.out; omega)); have z0 := L4.c0; have f0 := L4.fz 0; have z1 := L4.c1; have f1 := L4.fz 1; have z2 := L4.c2; have f2 := L4.fz 2; have hN := HNW.out; have e0 := (set3_cell (g := w3.heap.size) (p := ⟨w.heap.size, 0, none⟩) (by show w.heap.size ≠ w3.heap.size; omega) (.int .i64 K) (.slice a4 kl kl) (.slice p4 pn d4)).trans u4; have e1 := (set3_cell (g := w3.heap.size) (p := ⟨w.heap.size, 1, none⟩) (by show w.heap.size ≠ w3.heap.size; omega) (.int .i64 K) (.slice a4 kl kl) (.slice p4 pn d4)).trans u5; clear hN; have HL4 := hid L4; clear L4) | (have L4 : Pe w4 w2.heap.size 0 none 0 0 none 0 0 := ((Pe.new w2 0 none 0 0 none 0 0).kept HB3.out).at (fr4 w2.heap.size (Nat.lt_of_lt_of_le (by simp) HB3.out.size) (by have := HLT2.out; omega) (by have h := HI2.out; simp at h; omega)); have z0 := L4.c0; have f0 := L4.fz 0; have z1 := L4.c1; have f1 := L4.fz 1; have z2 := L4.c2; have f2 := L4.fz 2; have hN := HNW.out; have e0 := (set3_cell (g := w2.heap.size) (p := ⟨w.heap.size, 0, none⟩) (by show w.heap.size ≠ w2.heap.size; omega) (.int .i64 K) (.slice a4 kl kl) (.slice p4 pn d4)).trans u4; have e1 := (set3_cell (g := w2.heap.size) (p := ⟨w.heap.size, 1, none⟩) (by show w.heap.size ≠ w2.heap.size; omega) (.int .i64 K) (.slice a4 kl kl) (.slice p4 pn d4)).trans u5; clear hN; have HL4 := hid L4; clear L4) | (have L4 : Pe w4 W.heap.size 0 none 0 0 none 0 0 := (((Pe.new { W with drawn := W.drawn + 1 } 0 none 0 0 none 0 0).kept HB2.out).kept HB3.out).at (fr4 W.heap.size (Nat.lt_of_lt_of_le (by simp) (Nat.le_trans HB2.out.size HB3.out.size)) (by have h := HI1.out; simp at h; omega) (by have h := HI1.out; have h2 := HRR.out; simp at h; omega)); have z0 := L4.c0; have f0 := L4.fz 0; have z1 := L4.c1; have f1 := L4.fz 1; have z2 := L4.c2; have f2 := L4.fz 2; have hN := HNW.out; have e0 := (set3_cell (g := W.heap.size) (p := ⟨w.heap.size, 0, none⟩) (by show w.heap.size ≠ W.heap.size; omega) (.int .i64 K) (.slice a4 kl kl) (.slice p4 pn d4)).trans u4; have e1 := (set3_cell (g := W.heap.size) (p := ⟨w.heap.size, 1, none⟩) (by show w.heap.size ≠ W.heap.size; omega) (.int .i64 K) (.slice a4 kl kl) (.slice p4 pn d4)).trans u5; clear hN; have HL4 := hid L4; clear L4) | skip); have HLT4 : Hid (g2 < w4.heap.size) := (by have h3 := HLT3.out; have h4 := b4.size; first | (show g2 < w4.heap.size; have h5 := HJ2.out; omega) | (simp at h4; show g2 < w4.heap.size; have h5 := HJ2.out; omega)); clear l4 b4 fr4 pv4) | (have hh := G2; clear hh; go_at_call 65; refine (k2 _ (by first | exact G2 | exact Bw.al G2 _)).mono ?_; rintro en w3 ⟨r2, g2, rfl, s2, i2, j2, y2, b3⟩; have G3 := Bw.on (by first | exact G2 | exact Bw.al G2 _) b3; have u2 := Bw.cell G3 y0; have u3 := Bw.cell G3 y1; have HB3 := hid b3; have B23 : Below w2.heap.size w2 w3 := (by first | exact b3 | exact bel_bel (bel_al w2 _) (by simp) b3); have R1 := hid (HS1.out.kept B23); have R2 := hid s2; have HI2 := hid i2; have HY2 := hid y2; have HGE2 : Hid (w2.heap.size ≤ r2) := (by have h := i2; first | exact h | (simp at h; show w2.heap.size ≤ r2; omega)); have HG2L : Hid (0 < vn → w2.heap.size ≤ g2) := (by intro hvn; have h := y2; first | exact h.elim id (fun h' => absurd h'.2 (by omega)) | (simp at h; omega)); have HRR : Hid (r1 < r2) := (by have h0 := HLT2.out; have h := HGE2.out; show r1 < r2; omega); have HJ2 := hid j2; have HNE : Hid (g2 ≠ r1) := (by have h0 := HLT2.out; have h1 := HR1.out; have h2 := HWS.out; have h := y2; show g2 ≠ r1; first | omega | (simp at h; omega)); have HLT3 : Hid (r1 < w3.heap.size ∧ r2 < w3.heap.size) := ⟨R1.out.lt, s2.lt⟩; clear s2 i2 j2 y2 b3 B23) | (go_at_call 65; refine (k1 _ (by first | exact BW0 | exact BW1 _)).mono ?_; rintro en w2 ⟨r1, g1, rfl, s1, i1, j1, y1', b2⟩; have G2 := Bw.on (by first | exact BW0 | exact BW1 _) b2; have u0 := Bw.cell G2 y0; have u1 := Bw.cell G2 y1; have HB2 := hid b2; have HS1 := hid s1; have HJ1 := hid j1; have HI1 := hid i1; have HR1 : Hid (W.heap.size ≤ r1) := (by have h := i1; first | exact h | (simp at h; show W.heap.size ≤ r1; omega)); have HLT2 : Hid (r1 < w2.heap.size) := s1.lt; clear s1 i1 j1 y1' b2))
  · have L : Lh W (w4.alloc (.cells #[.int .i64 K, .slice a4 kl kl, .slice p4 pn d4] 25)) w4.heap.size K a4 kl KB p4 pn d4 PS := by
      refine ⟨Pe.new w4 K a4 kl kl p4 pn d4, HBX.out.al _, ?_, ?_, Below.size HBX.out⟩
      · exact (HLI.out.vs (V := fun x => W.heap.size ≤ x ∧ x ≠ w4.heap.size) fun h => ⟨Nat.le_trans (Below.size G2) (HG2L.out (HTL.out h)), by have := HLT4.out; omega⟩).step fun x hx _ _ => Below.heap_alloc _ _ _ hx
      · exact (HPI.out.wide (V' := fun x => W.heap.size ≤ x ∧ x ≠ w4.heap.size) fun x hx h => ⟨by have := Below.size G3; omega, by omega⟩).step (fun x hx _ => Below.heap_alloc _ _ _ hx) (by simp)
    have HL := hid L
    generalize (w4.alloc (.cells #[.int .i64 K, .slice a4 kl kl, .slice p4 pn d4] 25)) = X at HL ⊢
    generalize w4.heap.size = G at HL ⊢
    clear L u0 u1 u2 u3 u4 u5 G2 G3 BW0 BW1 k1 k2 k3 R1 R2 HI1 HJ1 HB2 HS1 HR1 HLT2 HI2 HB3 HGE2 HG2L HY2 HRR HJ2 HNE HLT3 HBX HLI HPI HLT4 HNW HM1
    obtain ⟨b1, hb1⟩ : ∃ b : Bool, (b = true) ↔ Pk K kl PS := by
      by_cases h : Pk K kl PS
      · exact ⟨true, ⟨fun _ => h, fun _ => rfl⟩⟩
      · exact ⟨false, ⟨fun e => (by cases e), fun e => absurd e h⟩⟩
    have kp := putPeer_ K a4 p4 kl kl pn d4 KB PS X HKI.out HL.out.vs.bs HL.out.pv.ps (Nat.le_trans HL.out.vs.nc HL.out.vs.cm) (Nat.le_trans HL.out.pv.nc HL.out.pv.cm) b1 hb1
    have HB1 := hid hb1
    clear hb1
    unfold Rp at kp
    obtain ⟨RK, HRK⟩ : ∃ x, Hid ((if b1 then peK K else []) = x) := ⟨_, rfl⟩
    obtain ⟨RV, HRV⟩ : ∃ x, Hid ((if b1 then peV KB PS else []) = x) := ⟨_, rfl⟩
    obtain ⟨RE, HRE⟩ : ∃ x, Hid ((if b1 then (0 : Int) else 114) = x) := ⟨_, rfl⟩
    obtain ⟨pk, Hpk⟩ : ∃ x : Nat, Hid (RK.length = x) := ⟨_, rfl⟩
    obtain ⟨pv, Hpv⟩ : ∃ x : Nat, Hid (RV.length = x) := ⟨_, rfl⟩
    rw [HRK.out, HRV.out, HRE.out, Hpk.out, Hpv.out] at kp
    have d0 := HL.out.pe.c0
    have d1 := HL.out.pe.c1
    have d2 := HL.out.pe.c2
    go_wp2_with fail
    clear d0 d1 d2
    refine kp.mono ?_
    rintro e w9 ⟨pa, pc, qa, qc, rfl, vk, vv, g9⟩
    have B9 := bel_al w9 (.cells #[.slice pa pk pc, .slice qa pv qc] 27)
    have m9 := heap_alloc_new w9 (.cells #[.slice pa pk pc, .slice qa pv qc] 27)
    have HL9 := hid ((HL.out.on g9).on B9)
    have z0 := Bw.cell HL9.out.bw y0
    have z1 := Bw.cell HL9.out.bw y1
    have x0 := (two_cell m9).1
    have x1 := (two_cell m9).2
    have ke := fun wx (hx : wx = w9.alloc (.cells #[.slice pa pk pc, .slice qa pv qc] 27)) => beq_ pa ka pk pc kn kc RK k wx (by rw [hx]; exact vk.bs.below B9) (by rw [hx]; exact (HK.out.below HBA.out).below HL9.out.bw)
    have kf := fun wx (hx : wx = w9.alloc (.cells #[.slice pa pk pc, .slice qa pv qc] 27)) => beq_ qa va pv qc vn vc RV v wx (by rw [hx]; exact vv.bs.below B9) (by rw [hx]; exact (HV.out.below HBA.out).below HL9.out.bw)
    have HZ := hid (HM2.out.kept HL9.out.bw)
    have HBX9 := hid (bel_bel HBA.out HBA.out.size HL9.out.bw)
    have HZA := hid (HZ.out.kept (bel_al _ (.cells #[.int .i64 0, .slice none 0 0, .slice none 0 0] 25)))
    have HBXA := hid (bel_bel HBX9.out HBX9.out.size (bel_al _ (.cells #[.int .i64 0, .slice none 0 0, .slice none 0 0] 25)))
    clear vk vv g9 B9 m9 HL kp
    have e1 := HRE.out
    clear HRE
    cases b1
    · simp only [if_false, Bool.false_eq_true] at e1
      subst e1
      clear ke kf
      go_wp2_with (refine wpList_spe rfl rfl _ _ rfl (w.heap.size + 1) 0 none 0 0 none 0 0 rfl rfl (by with_reducible exact HZA.out) ?_)
      refine bodyPost_ret (v := .tuple #[.agg #[.int .i64 0, .slice none 0 0, .slice none 0 0], .int .i64 114]) ?_ rfl ?_
      · exact results_pe rfl _ _ (w.heap.size + 1) 0 none 0 0 none 0 0 _ rfl rfl (HZA.out.row 0 none 0 0 none 0 0)
      · have hy : q = false := (by
          cases hqq : q with
          | false => rfl
          | true =>
            have := HB1.out.2 (HPQ.out.2 hqq).1
            cases this)
        rw [hy]
        exact ⟨none, 0, none, 0, rfl, vs_none _ _, pv_none _ _, bel_row HBXA.out (Nat.le_succ _) _⟩
    · simp only [if_true] at e1
      subst e1
      have hRK : RK = peK K := HRK.out.symm
      have hRV : RV = peV KB PS := HRV.out.symm
      have HRK2 := hid hRK
      have HRV2 := hid hRV
      have HPKt : Hid (Pk K kl PS) := HB1.out.1 rfl
      clear hRK hRV HRK HRV HB1
      obtain ⟨q1, Hq1⟩ : ∃ x, Hid (sameB RK k = x) := ⟨_, rfl⟩
      obtain ⟨q2, Hq2⟩ : ∃ x, Hid (sameB RV v = x) := ⟨_, rfl⟩
      rw [Hq1.out] at ke
      rw [Hq2.out] at kf
      cases q1
      · go_wp2_with fail
        refine (ke _ rfl).mono ?_
        rintro e w10 ⟨rfl, hw⟩
        rw [hw]
        clear hw w10 ke kf
        go_wp2_with (refine wpList_spe rfl rfl _ _ rfl (w.heap.size + 1) 0 none 0 0 none 0 0 rfl rfl (by with_reducible exact HZA.out) ?_)
        refine bodyPost_ret (v := .tuple #[.agg #[.int .i64 0, .slice none 0 0, .slice none 0 0], .int .i64 114]) ?_ rfl ?_
        · exact results_pe rfl _ _ (w.heap.size + 1) 0 none 0 0 none 0 0 _ rfl rfl (HZA.out.row 0 none 0 0 none 0 0)
        · have hy : q = false := (by
            cases hqq : q with
            | false => rfl
            | true =>
              exfalso
              have h := (HPQ.out.2 hqq).2.1
              rw [← HRK2.out] at h
              have h2 := Hq1.out
              rw [h, sameB_self] at h2
              cases h2)
          rw [hy]
          exact ⟨none, 0, none, 0, rfl, vs_none _ _, pv_none _ _, bel_row HBXA.out (Nat.le_succ _) _⟩
      · cases q2
        · go_wp2_with fail
          refine (ke _ rfl).mono ?_
          rintro e w10 ⟨rfl, hw⟩
          rw [hw]
          clear hw w10 ke
          go_wp2_with fail
          refine (kf _ rfl).mono ?_
          rintro e w10 ⟨rfl, hw⟩
          rw [hw]
          clear hw w10 kf
          go_wp2_with (refine wpList_spe rfl rfl _ _ rfl (w.heap.size + 1) 0 none 0 0 none 0 0 rfl rfl (by with_reducible exact HZA.out) ?_)
          refine bodyPost_ret (v := .tuple #[.agg #[.int .i64 0, .slice none 0 0, .slice none 0 0], .int .i64 114]) ?_ rfl ?_
          · exact results_pe rfl _ _ (w.heap.size + 1) 0 none 0 0 none 0 0 _ rfl rfl (HZA.out.row 0 none 0 0 none 0 0)
          · have hy : q = false := (by
              cases hqq : q with
              | false => rfl
              | true =>
                exfalso
                have h := (HPQ.out.2 hqq).2.2
                rw [← HRV2.out] at h
                have h2 := Hq2.out
                rw [h, sameB_self] at h2
                cases h2)
            rw [hy]
            exact ⟨none, 0, none, 0, rfl, vs_none _ _, pv_none _ _, bel_row HBXA.out (Nat.le_succ _) _⟩
        · go_wp2_with fail
          refine (ke _ rfl).mono ?_
          rintro e w10 ⟨rfl, hw⟩
          rw [hw]
          clear hw w10 ke
          go_wp2_with fail
          refine (kf _ rfl).mono ?_
          rintro e w10 ⟨rfl, hw⟩
          rw [hw]
          clear hw w10 kf
          have d0 := HL9.out.pe.c0
          have d1 := HL9.out.pe.c1
          have d2 := HL9.out.pe.c2
          go_wp2_with (refine wpList_spe rfl rfl _ _ rfl (w.heap.size + 1) K a4 kl kl p4 pn d4 rfl rfl (by with_reducible exact HZ.out) ?_)
          have hy : q = true := HPQ.out.1 ⟨HPKt.out, by rw [← HRK2.out]; exact of_decide_eq_true Hq1.out, by rw [← HRV2.out]; exact of_decide_eq_true Hq2.out⟩
          obtain ⟨t1, t2, t3⟩ := HQT.out hy
          refine bodyPost_ret (v := .tuple #[.agg #[.int .i64 K, .slice a4 kl kl, .slice p4 pn d4], .int .i64 0]) ?_ rfl ?_
          · exact results_pe rfl _ _ (w.heap.size + 1) K a4 kl kl p4 pn d4 _ rfl rfl (HZ.out.row K a4 kl kl p4 pn d4)
          · unfold Gq
            rw [hy]
            simp only [if_true]
            rw [← t1, ← t2, ← t3, HKL.out, HPNL.out]
            refine ⟨a4, kl, p4, d4, rfl, ?_, ?_, bel_row HBX9.out (Nat.le_succ _) _⟩
            · exact (HL9.out.vs.step fun x _ hV _ => setRow_other _ _ _ _ (by have := HWS.out; omega)).wide fun x _ hx => by have := HWS.out; omega
            · exact (HL9.out.pv.step (fun x _ hV => setRow_other _ _ _ _ (by have := HWS.out; omega)) (by simp [World.setRow])).wide fun x _ hx => by have := HWS.out; omega
  · have L : Lh W (((w4.setCell ⟨w3.heap.size, 0, none⟩ (.int .i64 K)).setCell ⟨w3.heap.size, 1, none⟩ (.slice a4 kl kl)).setCell ⟨w3.heap.size, 2, none⟩ (.slice p4 pn d4)) w3.heap.size K a4 kl KB p4 pn d4 PS := by
      refine ⟨three_set HL4.out, set3_bel HBX.out (Below.size G3) _ _ _, ?_, ?_, (Below.size G3)⟩
      · exact (HLI.out.vs (V := fun x => W.heap.size ≤ x ∧ x ≠ w3.heap.size) fun h => ⟨Nat.le_trans (Below.size G2) (HG2L.out (HTL.out h)), by have h1 := HLT3.out; have h2 := HJ2.out; omega⟩).step fun x hx hV _ => three_other hV.2
      · exact (HPI.out.wide (V' := fun x => W.heap.size ≤ x ∧ x ≠ w3.heap.size) fun x hx h => (by have h1 := Below.size G3; have h2 : w3.heap.size + 1 + 2 ≤ x := (by simpa using h); exact ⟨by omega, by omega⟩)).step (fun x hx hV => three_other hV.2) (by simp [World.setCell])
    have HL := hid L
    generalize (((w4.setCell ⟨w3.heap.size, 0, none⟩ (.int .i64 K)).setCell ⟨w3.heap.size, 1, none⟩ (.slice a4 kl kl)).setCell ⟨w3.heap.size, 2, none⟩ (.slice p4 pn d4)) = X at HL ⊢
    generalize w3.heap.size = G at HL ⊢
    clear L HL4 e0 e1 z0 f0 z1 f1 z2 f2 u0 u1 u2 u3 u4 u5 G2 G3 BW0 BW1 k1 k2 k3 R1 R2 HI1 HJ1 HB2 HS1 HR1 HLT2 HI2 HB3 HGE2 HG2L HY2 HRR HJ2 HNE HLT3 HBX HLI HPI HLT4 HNW HM1
    obtain ⟨b1, hb1⟩ : ∃ b : Bool, (b = true) ↔ Pk K kl PS := by
      by_cases h : Pk K kl PS
      · exact ⟨true, ⟨fun _ => h, fun _ => rfl⟩⟩
      · exact ⟨false, ⟨fun e => (by cases e), fun e => absurd e h⟩⟩
    have kp := putPeer_ K a4 p4 kl kl pn d4 KB PS X HKI.out HL.out.vs.bs HL.out.pv.ps (Nat.le_trans HL.out.vs.nc HL.out.vs.cm) (Nat.le_trans HL.out.pv.nc HL.out.pv.cm) b1 hb1
    have HB1 := hid hb1
    clear hb1
    unfold Rp at kp
    obtain ⟨RK, HRK⟩ : ∃ x, Hid ((if b1 then peK K else []) = x) := ⟨_, rfl⟩
    obtain ⟨RV, HRV⟩ : ∃ x, Hid ((if b1 then peV KB PS else []) = x) := ⟨_, rfl⟩
    obtain ⟨RE, HRE⟩ : ∃ x, Hid ((if b1 then (0 : Int) else 114) = x) := ⟨_, rfl⟩
    obtain ⟨pk, Hpk⟩ : ∃ x : Nat, Hid (RK.length = x) := ⟨_, rfl⟩
    obtain ⟨pv, Hpv⟩ : ∃ x : Nat, Hid (RV.length = x) := ⟨_, rfl⟩
    rw [HRK.out, HRV.out, HRE.out, Hpk.out, Hpv.out] at kp
    have d0 := HL.out.pe.c0
    have d1 := HL.out.pe.c1
    have d2 := HL.out.pe.c2
    go_wp2_with fail
    clear d0 d1 d2
    refine kp.mono ?_
    rintro e w9 ⟨pa, pc, qa, qc, rfl, vk, vv, g9⟩
    have B9 := bel_al w9 (.cells #[.slice pa pk pc, .slice qa pv qc] 27)
    have m9 := heap_alloc_new w9 (.cells #[.slice pa pk pc, .slice qa pv qc] 27)
    have HL9 := hid ((HL.out.on g9).on B9)
    have z0 := Bw.cell HL9.out.bw y0
    have z1 := Bw.cell HL9.out.bw y1
    have x0 := (two_cell m9).1
    have x1 := (two_cell m9).2
    have ke := fun wx (hx : wx = w9.alloc (.cells #[.slice pa pk pc, .slice qa pv qc] 27)) => beq_ pa ka pk pc kn kc RK k wx (by rw [hx]; exact vk.bs.below B9) (by rw [hx]; exact (HK.out.below HBA.out).below HL9.out.bw)
    have kf := fun wx (hx : wx = w9.alloc (.cells #[.slice pa pk pc, .slice qa pv qc] 27)) => beq_ qa va pv qc vn vc RV v wx (by rw [hx]; exact vv.bs.below B9) (by rw [hx]; exact (HV.out.below HBA.out).below HL9.out.bw)
    have HZ := hid (HM2.out.kept HL9.out.bw)
    have HBX9 := hid (bel_bel HBA.out HBA.out.size HL9.out.bw)
    have HZA := hid (HZ.out.kept (bel_al _ (.cells #[.int .i64 0, .slice none 0 0, .slice none 0 0] 25)))
    have HBXA := hid (bel_bel HBX9.out HBX9.out.size (bel_al _ (.cells #[.int .i64 0, .slice none 0 0, .slice none 0 0] 25)))
    clear vk vv g9 B9 m9 HL kp
    have e1 := HRE.out
    clear HRE
    cases b1
    · simp only [if_false, Bool.false_eq_true] at e1
      subst e1
      clear ke kf
      go_wp2_with (refine wpList_spe rfl rfl _ _ rfl (w.heap.size + 1) 0 none 0 0 none 0 0 rfl rfl (by with_reducible exact HZA.out) ?_)
      refine bodyPost_ret (v := .tuple #[.agg #[.int .i64 0, .slice none 0 0, .slice none 0 0], .int .i64 114]) ?_ rfl ?_
      · exact results_pe rfl _ _ (w.heap.size + 1) 0 none 0 0 none 0 0 _ rfl rfl (HZA.out.row 0 none 0 0 none 0 0)
      · have hy : q = false := (by
          cases hqq : q with
          | false => rfl
          | true =>
            have := HB1.out.2 (HPQ.out.2 hqq).1
            cases this)
        rw [hy]
        exact ⟨none, 0, none, 0, rfl, vs_none _ _, pv_none _ _, bel_row HBXA.out (Nat.le_succ _) _⟩
    · simp only [if_true] at e1
      subst e1
      have hRK : RK = peK K := HRK.out.symm
      have hRV : RV = peV KB PS := HRV.out.symm
      have HRK2 := hid hRK
      have HRV2 := hid hRV
      have HPKt : Hid (Pk K kl PS) := HB1.out.1 rfl
      clear hRK hRV HRK HRV HB1
      obtain ⟨q1, Hq1⟩ : ∃ x, Hid (sameB RK k = x) := ⟨_, rfl⟩
      obtain ⟨q2, Hq2⟩ : ∃ x, Hid (sameB RV v = x) := ⟨_, rfl⟩
      rw [Hq1.out] at ke
      rw [Hq2.out] at kf
      cases q1
      · go_wp2_with fail
        refine (ke _ rfl).mono ?_
        rintro e w10 ⟨rfl, hw⟩
        rw [hw]
        clear hw w10 ke kf
        go_wp2_with (refine wpList_spe rfl rfl _ _ rfl (w.heap.size + 1) 0 none 0 0 none 0 0 rfl rfl (by with_reducible exact HZA.out) ?_)
        refine bodyPost_ret (v := .tuple #[.agg #[.int .i64 0, .slice none 0 0, .slice none 0 0], .int .i64 114]) ?_ rfl ?_
        · exact results_pe rfl _ _ (w.heap.size + 1) 0 none 0 0 none 0 0 _ rfl rfl (HZA.out.row 0 none 0 0 none 0 0)
        · have hy : q = false := (by
            cases hqq : q with
            | false => rfl
            | true =>
              exfalso
              have h := (HPQ.out.2 hqq).2.1
              rw [← HRK2.out] at h
              have h2 := Hq1.out
              rw [h, sameB_self] at h2
              cases h2)
          rw [hy]
          exact ⟨none, 0, none, 0, rfl, vs_none _ _, pv_none _ _, bel_row HBXA.out (Nat.le_succ _) _⟩
      · cases q2
        · go_wp2_with fail
          refine (ke _ rfl).mono ?_
          rintro e w10 ⟨rfl, hw⟩
          rw [hw]
          clear hw w10 ke
          go_wp2_with fail
          refine (kf _ rfl).mono ?_
          rintro e w10 ⟨rfl, hw⟩
          rw [hw]
          clear hw w10 kf
          go_wp2_with (refine wpList_spe rfl rfl _ _ rfl (w.heap.size + 1) 0 none 0 0 none 0 0 rfl rfl (by with_reducible exact HZA.out) ?_)
          refine bodyPost_ret (v := .tuple #[.agg #[.int .i64 0, .slice none 0 0, .slice none 0 0], .int .i64 114]) ?_ rfl ?_
          · exact results_pe rfl _ _ (w.heap.size + 1) 0 none 0 0 none 0 0 _ rfl rfl (HZA.out.row 0 none 0 0 none 0 0)
          · have hy : q = false := (by
              cases hqq : q with
              | false => rfl
              | true =>
                exfalso
                have h := (HPQ.out.2 hqq).2.2
                rw [← HRV2.out] at h
                have h2 := Hq2.out
                rw [h, sameB_self] at h2
                cases h2)
            rw [hy]
            exact ⟨none, 0, none, 0, rfl, vs_none _ _, pv_none _ _, bel_row HBXA.out (Nat.le_succ _) _⟩
        · go_wp2_with fail
          refine (ke _ rfl).mono ?_
          rintro e w10 ⟨rfl, hw⟩
          rw [hw]
          clear hw w10 ke
          go_wp2_with fail
          refine (kf _ rfl).mono ?_
          rintro e w10 ⟨rfl, hw⟩
          rw [hw]
          clear hw w10 kf
          have d0 := HL9.out.pe.c0
          have d1 := HL9.out.pe.c1
          have d2 := HL9.out.pe.c2
          go_wp2_with (refine wpList_spe rfl rfl _ _ rfl (w.heap.size + 1) K a4 kl kl p4 pn d4 rfl rfl (by with_reducible exact HZ.out) ?_)
          have hy : q = true := HPQ.out.1 ⟨HPKt.out, by rw [← HRK2.out]; exact of_decide_eq_true Hq1.out, by rw [← HRV2.out]; exact of_decide_eq_true Hq2.out⟩
          obtain ⟨t1, t2, t3⟩ := HQT.out hy
          refine bodyPost_ret (v := .tuple #[.agg #[.int .i64 K, .slice a4 kl kl, .slice p4 pn d4], .int .i64 0]) ?_ rfl ?_
          · exact results_pe rfl _ _ (w.heap.size + 1) K a4 kl kl p4 pn d4 _ rfl rfl (HZ.out.row K a4 kl kl p4 pn d4)
          · unfold Gq
            rw [hy]
            simp only [if_true]
            rw [← t1, ← t2, ← t3, HKL.out, HPNL.out]
            refine ⟨a4, kl, p4, d4, rfl, ?_, ?_, bel_row HBX9.out (Nat.le_succ _) _⟩
            · exact (HL9.out.vs.step fun x _ hV _ => setRow_other _ _ _ _ (by have := HWS.out; omega)).wide fun x _ hx => by have := HWS.out; omega
            · exact (HL9.out.pv.step (fun x _ hV => setRow_other _ _ _ _ (by have := HWS.out; omega)) (by simp [World.setRow])).wide fun x _ hx => by have := HWS.out; omega
  · have L : Lh W (((w4.setCell ⟨w2.heap.size, 0, none⟩ (.int .i64 K)).setCell ⟨w2.heap.size, 1, none⟩ (.slice a4 kl kl)).setCell ⟨w2.heap.size, 2, none⟩ (.slice p4 pn d4)) w2.heap.size K a4 kl KB p4 pn d4 PS := by
      refine ⟨three_set HL4.out, set3_bel HBX.out (Below.size G2) _ _ _, ?_, ?_, (Below.size G2)⟩
      · exact (HLI.out.vs (V := fun x => W.heap.size ≤ x ∧ x ≠ w2.heap.size) fun h => ⟨Nat.le_trans (Below.size G2) (HG2L.out (HTL.out h)), by have h0 := HTL.out h; have h1 := HY2.out; simp at h1; omega⟩).step fun x hx hV _ => three_other hV.2
      · exact (HPI.out.wide (V' := fun x => W.heap.size ≤ x ∧ x ≠ w2.heap.size) fun x hx h => (by have h1 := Below.size G3; have h2 := HB3.out.size; have h3 := Below.size G2; simp at h2; exact ⟨by omega, by omega⟩)).step (fun x hx hV => three_other hV.2) (by simp [World.setCell])
    have HL := hid L
    generalize (((w4.setCell ⟨w2.heap.size, 0, none⟩ (.int .i64 K)).setCell ⟨w2.heap.size, 1, none⟩ (.slice a4 kl kl)).setCell ⟨w2.heap.size, 2, none⟩ (.slice p4 pn d4)) = X at HL ⊢
    generalize w2.heap.size = G at HL ⊢
    clear L HL4 e0 e1 z0 f0 z1 f1 z2 f2 u0 u1 u2 u3 u4 u5 G2 G3 BW0 BW1 k1 k2 k3 R1 R2 HI1 HJ1 HB2 HS1 HR1 HLT2 HI2 HB3 HGE2 HG2L HY2 HRR HJ2 HNE HLT3 HBX HLI HPI HLT4 HNW HM1
    obtain ⟨b1, hb1⟩ : ∃ b : Bool, (b = true) ↔ Pk K kl PS := by
      by_cases h : Pk K kl PS
      · exact ⟨true, ⟨fun _ => h, fun _ => rfl⟩⟩
      · exact ⟨false, ⟨fun e => (by cases e), fun e => absurd e h⟩⟩
    have kp := putPeer_ K a4 p4 kl kl pn d4 KB PS X HKI.out HL.out.vs.bs HL.out.pv.ps (Nat.le_trans HL.out.vs.nc HL.out.vs.cm) (Nat.le_trans HL.out.pv.nc HL.out.pv.cm) b1 hb1
    have HB1 := hid hb1
    clear hb1
    unfold Rp at kp
    obtain ⟨RK, HRK⟩ : ∃ x, Hid ((if b1 then peK K else []) = x) := ⟨_, rfl⟩
    obtain ⟨RV, HRV⟩ : ∃ x, Hid ((if b1 then peV KB PS else []) = x) := ⟨_, rfl⟩
    obtain ⟨RE, HRE⟩ : ∃ x, Hid ((if b1 then (0 : Int) else 114) = x) := ⟨_, rfl⟩
    obtain ⟨pk, Hpk⟩ : ∃ x : Nat, Hid (RK.length = x) := ⟨_, rfl⟩
    obtain ⟨pv, Hpv⟩ : ∃ x : Nat, Hid (RV.length = x) := ⟨_, rfl⟩
    rw [HRK.out, HRV.out, HRE.out, Hpk.out, Hpv.out] at kp
    have d0 := HL.out.pe.c0
    have d1 := HL.out.pe.c1
    have d2 := HL.out.pe.c2
    go_wp2_with fail
    clear d0 d1 d2
    refine kp.mono ?_
    rintro e w9 ⟨pa, pc, qa, qc, rfl, vk, vv, g9⟩
    have B9 := bel_al w9 (.cells #[.slice pa pk pc, .slice qa pv qc] 27)
    have m9 := heap_alloc_new w9 (.cells #[.slice pa pk pc, .slice qa pv qc] 27)
    have HL9 := hid ((HL.out.on g9).on B9)
    have z0 := Bw.cell HL9.out.bw y0
    have z1 := Bw.cell HL9.out.bw y1
    have x0 := (two_cell m9).1
    have x1 := (two_cell m9).2
    have ke := fun wx (hx : wx = w9.alloc (.cells #[.slice pa pk pc, .slice qa pv qc] 27)) => beq_ pa ka pk pc kn kc RK k wx (by rw [hx]; exact vk.bs.below B9) (by rw [hx]; exact (HK.out.below HBA.out).below HL9.out.bw)
    have kf := fun wx (hx : wx = w9.alloc (.cells #[.slice pa pk pc, .slice qa pv qc] 27)) => beq_ qa va pv qc vn vc RV v wx (by rw [hx]; exact vv.bs.below B9) (by rw [hx]; exact (HV.out.below HBA.out).below HL9.out.bw)
    have HZ := hid (HM2.out.kept HL9.out.bw)
    have HBX9 := hid (bel_bel HBA.out HBA.out.size HL9.out.bw)
    have HZA := hid (HZ.out.kept (bel_al _ (.cells #[.int .i64 0, .slice none 0 0, .slice none 0 0] 25)))
    have HBXA := hid (bel_bel HBX9.out HBX9.out.size (bel_al _ (.cells #[.int .i64 0, .slice none 0 0, .slice none 0 0] 25)))
    clear vk vv g9 B9 m9 HL kp
    have e1 := HRE.out
    clear HRE
    cases b1
    · simp only [if_false, Bool.false_eq_true] at e1
      subst e1
      clear ke kf
      go_wp2_with (refine wpList_spe rfl rfl _ _ rfl (w.heap.size + 1) 0 none 0 0 none 0 0 rfl rfl (by with_reducible exact HZA.out) ?_)
      refine bodyPost_ret (v := .tuple #[.agg #[.int .i64 0, .slice none 0 0, .slice none 0 0], .int .i64 114]) ?_ rfl ?_
      · exact results_pe rfl _ _ (w.heap.size + 1) 0 none 0 0 none 0 0 _ rfl rfl (HZA.out.row 0 none 0 0 none 0 0)
      · have hy : q = false := (by
          cases hqq : q with
          | false => rfl
          | true =>
            have := HB1.out.2 (HPQ.out.2 hqq).1
            cases this)
        rw [hy]
        exact ⟨none, 0, none, 0, rfl, vs_none _ _, pv_none _ _, bel_row HBXA.out (Nat.le_succ _) _⟩
    · simp only [if_true] at e1
      subst e1
      have hRK : RK = peK K := HRK.out.symm
      have hRV : RV = peV KB PS := HRV.out.symm
      have HRK2 := hid hRK
      have HRV2 := hid hRV
      have HPKt : Hid (Pk K kl PS) := HB1.out.1 rfl
      clear hRK hRV HRK HRV HB1
      obtain ⟨q1, Hq1⟩ : ∃ x, Hid (sameB RK k = x) := ⟨_, rfl⟩
      obtain ⟨q2, Hq2⟩ : ∃ x, Hid (sameB RV v = x) := ⟨_, rfl⟩
      rw [Hq1.out] at ke
      rw [Hq2.out] at kf
      cases q1
      · go_wp2_with fail
        refine (ke _ rfl).mono ?_
        rintro e w10 ⟨rfl, hw⟩
        rw [hw]
        clear hw w10 ke kf
        go_wp2_with (refine wpList_spe rfl rfl _ _ rfl (w.heap.size + 1) 0 none 0 0 none 0 0 rfl rfl (by with_reducible exact HZA.out) ?_)
        refine bodyPost_ret (v := .tuple #[.agg #[.int .i64 0, .slice none 0 0, .slice none 0 0], .int .i64 114]) ?_ rfl ?_
        · exact results_pe rfl _ _ (w.heap.size + 1) 0 none 0 0 none 0 0 _ rfl rfl (HZA.out.row 0 none 0 0 none 0 0)
        · have hy : q = false := (by
            cases hqq : q with
            | false => rfl
            | true =>
              exfalso
              have h := (HPQ.out.2 hqq).2.1
              rw [← HRK2.out] at h
              have h2 := Hq1.out
              rw [h, sameB_self] at h2
              cases h2)
          rw [hy]
          exact ⟨none, 0, none, 0, rfl, vs_none _ _, pv_none _ _, bel_row HBXA.out (Nat.le_succ _) _⟩
      · cases q2
        · go_wp2_with fail
          refine (ke _ rfl).mono ?_
          rintro e w10 ⟨rfl, hw⟩
          rw [hw]
          clear hw w10 ke
          go_wp2_with fail
          refine (kf _ rfl).mono ?_
          rintro e w10 ⟨rfl, hw⟩
          rw [hw]
          clear hw w10 kf
          go_wp2_with (refine wpList_spe rfl rfl _ _ rfl (w.heap.size + 1) 0 none 0 0 none 0 0 rfl rfl (by with_reducible exact HZA.out) ?_)
          refine bodyPost_ret (v := .tuple #[.agg #[.int .i64 0, .slice none 0 0, .slice none 0 0], .int .i64 114]) ?_ rfl ?_
          · exact results_pe rfl _ _ (w.heap.size + 1) 0 none 0 0 none 0 0 _ rfl rfl (HZA.out.row 0 none 0 0 none 0 0)
          · have hy : q = false := (by
              cases hqq : q with
              | false => rfl
              | true =>
                exfalso
                have h := (HPQ.out.2 hqq).2.2
                rw [← HRV2.out] at h
                have h2 := Hq2.out
                rw [h, sameB_self] at h2
                cases h2)
            rw [hy]
            exact ⟨none, 0, none, 0, rfl, vs_none _ _, pv_none _ _, bel_row HBXA.out (Nat.le_succ _) _⟩
        · go_wp2_with fail
          refine (ke _ rfl).mono ?_
          rintro e w10 ⟨rfl, hw⟩
          rw [hw]
          clear hw w10 ke
          go_wp2_with fail
          refine (kf _ rfl).mono ?_
          rintro e w10 ⟨rfl, hw⟩
          rw [hw]
          clear hw w10 kf
          have d0 := HL9.out.pe.c0
          have d1 := HL9.out.pe.c1
          have d2 := HL9.out.pe.c2
          go_wp2_with (refine wpList_spe rfl rfl _ _ rfl (w.heap.size + 1) K a4 kl kl p4 pn d4 rfl rfl (by with_reducible exact HZ.out) ?_)
          have hy : q = true := HPQ.out.1 ⟨HPKt.out, by rw [← HRK2.out]; exact of_decide_eq_true Hq1.out, by rw [← HRV2.out]; exact of_decide_eq_true Hq2.out⟩
          obtain ⟨t1, t2, t3⟩ := HQT.out hy
          refine bodyPost_ret (v := .tuple #[.agg #[.int .i64 K, .slice a4 kl kl, .slice p4 pn d4], .int .i64 0]) ?_ rfl ?_
          · exact results_pe rfl _ _ (w.heap.size + 1) K a4 kl kl p4 pn d4 _ rfl rfl (HZ.out.row K a4 kl kl p4 pn d4)
          · unfold Gq
            rw [hy]
            simp only [if_true]
            rw [← t1, ← t2, ← t3, HKL.out, HPNL.out]
            refine ⟨a4, kl, p4, d4, rfl, ?_, ?_, bel_row HBX9.out (Nat.le_succ _) _⟩
            · exact (HL9.out.vs.step fun x _ hV _ => setRow_other _ _ _ _ (by have := HWS.out; omega)).wide fun x _ hx => by have := HWS.out; omega
            · exact (HL9.out.pv.step (fun x _ hV => setRow_other _ _ _ _ (by have := HWS.out; omega)) (by simp [World.setRow])).wide fun x _ hx => by have := HWS.out; omega
  · have L : Lh W (((w4.setCell ⟨W.heap.size, 0, none⟩ (.int .i64 K)).setCell ⟨W.heap.size, 1, none⟩ (.slice a4 kl kl)).setCell ⟨W.heap.size, 2, none⟩ (.slice p4 pn d4)) W.heap.size K a4 kl KB p4 pn d4 PS := by
      refine ⟨three_set HL4.out, set3_bel HBX.out (Nat.le_refl _) _ _ _, ?_, ?_, (Nat.le_refl _)⟩
      · exact (HLI.out.vs (V := fun x => W.heap.size ≤ x ∧ x ≠ W.heap.size) fun h => ⟨Nat.le_trans (Below.size G2) (HG2L.out (HTL.out h)), by have h0 := HG2L.out (HTL.out h); have h1 := HLT2.out; have h2 := HI1.out; simp at h2; omega⟩).step fun x hx hV _ => three_other hV.2
      · exact (HPI.out.wide (V' := fun x => W.heap.size ≤ x ∧ x ≠ W.heap.size) fun x hx h => (by have h1 := Below.size G3; exact ⟨by omega, by omega⟩)).step (fun x hx hV => three_other hV.2) (by simp [World.setCell])
    have HL := hid L
    generalize (((w4.setCell ⟨W.heap.size, 0, none⟩ (.int .i64 K)).setCell ⟨W.heap.size, 1, none⟩ (.slice a4 kl kl)).setCell ⟨W.heap.size, 2, none⟩ (.slice p4 pn d4)) = X at HL ⊢
    obtain ⟨G, HGe⟩ : ∃ G, Hid (W.heap.size = G) := ⟨_, rfl⟩
    replace HL : Hid (Lh W X G K a4 kl KB p4 pn d4 PS) := by rw [← HGe.out]; exact HL
    rw [HGe.out]
    clear L HL4 e0 e1 z0 f0 z1 f1 z2 f2 u0 u1 u2 u3 u4 u5 G2 G3 BW0 BW1 k1 k2 k3 R1 R2 HI1 HJ1 HB2 HS1 HR1 HLT2 HI2 HB3 HGE2 HG2L HY2 HRR HJ2 HNE HLT3 HBX HLI HPI HLT4 HNW HM1
    obtain ⟨b1, hb1⟩ : ∃ b : Bool, (b = true) ↔ Pk K kl PS := by
      by_cases h : Pk K kl PS
      · exact ⟨true, ⟨fun _ => h, fun _ => rfl⟩⟩
      · exact ⟨false, ⟨fun e => (by cases e), fun e => absurd e h⟩⟩
    have kp := putPeer_ K a4 p4 kl kl pn d4 KB PS X HKI.out HL.out.vs.bs HL.out.pv.ps (Nat.le_trans HL.out.vs.nc HL.out.vs.cm) (Nat.le_trans HL.out.pv.nc HL.out.pv.cm) b1 hb1
    have HB1 := hid hb1
    clear hb1
    unfold Rp at kp
    obtain ⟨RK, HRK⟩ : ∃ x, Hid ((if b1 then peK K else []) = x) := ⟨_, rfl⟩
    obtain ⟨RV, HRV⟩ : ∃ x, Hid ((if b1 then peV KB PS else []) = x) := ⟨_, rfl⟩
    obtain ⟨RE, HRE⟩ : ∃ x, Hid ((if b1 then (0 : Int) else 114) = x) := ⟨_, rfl⟩
    obtain ⟨pk, Hpk⟩ : ∃ x : Nat, Hid (RK.length = x) := ⟨_, rfl⟩
    obtain ⟨pv, Hpv⟩ : ∃ x : Nat, Hid (RV.length = x) := ⟨_, rfl⟩
    rw [HRK.out, HRV.out, HRE.out, Hpk.out, Hpv.out] at kp
    have d0 := HL.out.pe.c0
    have d1 := HL.out.pe.c1
    have d2 := HL.out.pe.c2
    go_wp2_with fail
    clear d0 d1 d2
    refine kp.mono ?_
    rintro e w9 ⟨pa, pc, qa, qc, rfl, vk, vv, g9⟩
    have B9 := bel_al w9 (.cells #[.slice pa pk pc, .slice qa pv qc] 27)
    have m9 := heap_alloc_new w9 (.cells #[.slice pa pk pc, .slice qa pv qc] 27)
    have HL9 := hid ((HL.out.on g9).on B9)
    have z0 := Bw.cell HL9.out.bw y0
    have z1 := Bw.cell HL9.out.bw y1
    have x0 := (two_cell m9).1
    have x1 := (two_cell m9).2
    have ke := fun wx (hx : wx = w9.alloc (.cells #[.slice pa pk pc, .slice qa pv qc] 27)) => beq_ pa ka pk pc kn kc RK k wx (by rw [hx]; exact vk.bs.below B9) (by rw [hx]; exact (HK.out.below HBA.out).below HL9.out.bw)
    have kf := fun wx (hx : wx = w9.alloc (.cells #[.slice pa pk pc, .slice qa pv qc] 27)) => beq_ qa va pv qc vn vc RV v wx (by rw [hx]; exact vv.bs.below B9) (by rw [hx]; exact (HV.out.below HBA.out).below HL9.out.bw)
    have HZ := hid (HM2.out.kept HL9.out.bw)
    have HBX9 := hid (bel_bel HBA.out HBA.out.size HL9.out.bw)
    have HZA := hid (HZ.out.kept (bel_al _ (.cells #[.int .i64 0, .slice none 0 0, .slice none 0 0] 25)))
    have HBXA := hid (bel_bel HBX9.out HBX9.out.size (bel_al _ (.cells #[.int .i64 0, .slice none 0 0, .slice none 0 0] 25)))
    clear vk vv g9 B9 m9 HL kp
    have e1 := HRE.out
    clear HRE
    cases b1
    · simp only [if_false, Bool.false_eq_true] at e1
      subst e1
      clear ke kf
      go_wp2_with (refine wpList_spe rfl rfl _ _ rfl (w.heap.size + 1) 0 none 0 0 none 0 0 rfl rfl (by with_reducible exact HZA.out) ?_)
      refine bodyPost_ret (v := .tuple #[.agg #[.int .i64 0, .slice none 0 0, .slice none 0 0], .int .i64 114]) ?_ rfl ?_
      · exact results_pe rfl _ _ (w.heap.size + 1) 0 none 0 0 none 0 0 _ rfl rfl (HZA.out.row 0 none 0 0 none 0 0)
      · have hy : q = false := (by
          cases hqq : q with
          | false => rfl
          | true =>
            have := HB1.out.2 (HPQ.out.2 hqq).1
            cases this)
        rw [hy]
        exact ⟨none, 0, none, 0, rfl, vs_none _ _, pv_none _ _, bel_row HBXA.out (Nat.le_succ _) _⟩
    · simp only [if_true] at e1
      subst e1
      have hRK : RK = peK K := HRK.out.symm
      have hRV : RV = peV KB PS := HRV.out.symm
      have HRK2 := hid hRK
      have HRV2 := hid hRV
      have HPKt : Hid (Pk K kl PS) := HB1.out.1 rfl
      clear hRK hRV HRK HRV HB1
      obtain ⟨q1, Hq1⟩ : ∃ x, Hid (sameB RK k = x) := ⟨_, rfl⟩
      obtain ⟨q2, Hq2⟩ : ∃ x, Hid (sameB RV v = x) := ⟨_, rfl⟩
      rw [Hq1.out] at ke
      rw [Hq2.out] at kf
      cases q1
      · go_wp2_with fail
        refine (ke _ rfl).mono ?_
        rintro e w10 ⟨rfl, hw⟩
        rw [hw]
        clear hw w10 ke kf
        go_wp2_with (refine wpList_spe rfl rfl _ _ rfl (w.heap.size + 1) 0 none 0 0 none 0 0 rfl rfl (by with_reducible exact HZA.out) ?_)
        refine bodyPost_ret (v := .tuple #[.agg #[.int .i64 0, .slice none 0 0, .slice none 0 0], .int .i64 114]) ?_ rfl ?_
        · exact results_pe rfl _ _ (w.heap.size + 1) 0 none 0 0 none 0 0 _ rfl rfl (HZA.out.row 0 none 0 0 none 0 0)
        · have hy : q = false := (by
            cases hqq : q with
            | false => rfl
            | true =>
              exfalso
              have h := (HPQ.out.2 hqq).2.1
              rw [← HRK2.out] at h
              have h2 := Hq1.out
              rw [h, sameB_self] at h2
              cases h2)
          rw [hy]
          exact ⟨none, 0, none, 0, rfl, vs_none _ _, pv_none _ _, bel_row HBXA.out (Nat.le_succ _) _⟩
      · cases q2
        · go_wp2_with fail
          refine (ke _ rfl).mono ?_
          rintro e w10 ⟨rfl, hw⟩
          rw [hw]
          clear hw w10 ke
          go_wp2_with fail
          refine (kf _ rfl).mono ?_
          rintro e w10 ⟨rfl, hw⟩
          rw [hw]
          clear hw w10 kf
          go_wp2_with (refine wpList_spe rfl rfl _ _ rfl (w.heap.size + 1) 0 none 0 0 none 0 0 rfl rfl (by with_reducible exact HZA.out) ?_)
          refine bodyPost_ret (v := .tuple #[.agg #[.int .i64 0, .slice none 0 0, .slice none 0 0], .int .i64 114]) ?_ rfl ?_
          · exact results_pe rfl _ _ (w.heap.size + 1) 0 none 0 0 none 0 0 _ rfl rfl (HZA.out.row 0 none 0 0 none 0 0)
          · have hy : q = false := (by
              cases hqq : q with
              | false => rfl
              | true =>
                exfalso
                have h := (HPQ.out.2 hqq).2.2
                rw [← HRV2.out] at h
                have h2 := Hq2.out
                rw [h, sameB_self] at h2
                cases h2)
            rw [hy]
            exact ⟨none, 0, none, 0, rfl, vs_none _ _, pv_none _ _, bel_row HBXA.out (Nat.le_succ _) _⟩
        · go_wp2_with fail
          refine (ke _ rfl).mono ?_
          rintro e w10 ⟨rfl, hw⟩
          rw [hw]
          clear hw w10 ke
          go_wp2_with fail
          refine (kf _ rfl).mono ?_
          rintro e w10 ⟨rfl, hw⟩
          rw [hw]
          clear hw w10 kf
          have d0 := HL9.out.pe.c0
          have d1 := HL9.out.pe.c1
          have d2 := HL9.out.pe.c2
          go_wp2_with (refine wpList_spe rfl rfl _ _ rfl (w.heap.size + 1) K a4 kl kl p4 pn d4 rfl rfl (by with_reducible exact HZ.out) ?_)
          have hy : q = true := HPQ.out.1 ⟨HPKt.out, by rw [← HRK2.out]; exact of_decide_eq_true Hq1.out, by rw [← HRV2.out]; exact of_decide_eq_true Hq2.out⟩
          obtain ⟨t1, t2, t3⟩ := HQT.out hy
          refine bodyPost_ret (v := .tuple #[.agg #[.int .i64 K, .slice a4 kl kl, .slice p4 pn d4], .int .i64 0]) ?_ rfl ?_
          · exact results_pe rfl _ _ (w.heap.size + 1) K a4 kl kl p4 pn d4 _ rfl rfl (HZ.out.row K a4 kl kl p4 pn d4)
          · unfold Gq
            rw [hy]
            simp only [if_true]
            rw [← t1, ← t2, ← t3, HKL.out, HPNL.out]
            refine ⟨a4, kl, p4, d4, rfl, ?_, ?_, bel_row HBX9.out (Nat.le_succ _) _⟩
            · exact (HL9.out.vs.step fun x _ hV _ => setRow_other _ _ _ _ (by have := HWS.out; omega)).wide fun x _ hx => by have := HWS.out; omega
            · exact (HL9.out.pv.step (fun x _ hV => setRow_other _ _ _ _ (by have := HWS.out; omega)) (by simp [World.setRow])).wide fun x _ hx => by have := HWS.out; omega
end Go.Proofs.Ytohfdkhlpghbcaa
