import Derived.Test.YtohfdkhlpghbcaaRX
namespace Go.Proofs.Ytohfdkhlpghbcaa
set_option maxRecDepth 100000
open Go.RowKit
set_option linter.unusedVariables false

theorem bel_al (w : World) (o : Obj) : Below w.heap.size w (w.alloc o) := (Below.refl _ _).alloc (Nat.le_refl _) _
theorem Bw.al {W w : World} (h : Bw W w) (o : Obj) : Bw W (w.alloc o) := h.on (bel_al w o)
/-- A lane that was read: its block, made since W, and the bytes of its key beside it. -/
structure Lg (W X : World) (G : Nat) (a : Option Addr) (m : Nat) (k : List Int) (S C N D E s n : Int) : Prop where
  lm : Lm X G a m m S C N D E s n
  bw : Bw W X
  vs : Vs X (fun x => W.heap.size ≤ x ∧ x ≠ G) a m m k
  ge : W.heap.size ≤ G
theorem Lg.on {W X X' : World} {G : Nat} {a : Option Addr} {m : Nat} {k : List Int} {S C N D E s n : Int} (h : Lg W X G a m k S C N D E s n) (hb : Below X.heap.size X X') : Lg W X' G a m k S C N D E s n := ⟨h.lm.kept hb, Bw.on h.bw hb, h.vs.step fun x hx _ _ => hb.block x hx, h.ge⟩
theorem Lies.vs {w : World} {g : Nat} {a : Option Addr} {n c : Nat} {zs : List Int} (h : Lies w g a n c zs) {V : Nat → Prop} (hv : 0 < n → V g) : Vs w V a n c zs := by
  refine ⟨h.bs, h.2.1, h.2.2.1, fun e => ?_, fun ad e hn => ?_⟩
  · rcases h.2.2.2.2 with ⟨_, _, h0⟩ | ⟨off, cur, e', _⟩
    · exact h0
    · rw [e] at e'; cases e'
  · rcases h.2.2.2.2 with ⟨_, h0, _⟩ | ⟨off, cur, e', _⟩
    · omega
    · rw [e] at e'
      obtain rfl := Option.some.inj e'
      exact hv hn
theorem tK_long {k : List Int} (h : 0 < (tK k).length) : 0 < k.length := by
  unfold tK bz gl at h
  by_cases hk : k.length = 0
  · rw [List.eq_nil_of_length_eq_zero hk] at h
    simp at h
  · omega
theorem set8_cell {w : World} {g : Nat} {p : Addr} (h : p.block ≠ g) (v0 v1 v2 v3 v4 v5 v6 v7 : Value) : ((((((((w.setCell ⟨g, 0, none⟩ v0).setCell ⟨g, 1, none⟩ v1).setCell ⟨g, 2, none⟩ v2).setCell ⟨g, 3, none⟩ v3).setCell ⟨g, 4, none⟩ v4).setCell ⟨g, 5, none⟩ v5).setCell ⟨g, 6, none⟩ v6).setCell ⟨g, 7, none⟩ v7).cell? p = w.cell? p := World.cell?_of_block (set8_other h v0 v1 v2 v3 v4 v5 v6 v7)
theorem Bw.to4 {W w w' : World} {r : Nat} (h : Bw W w) (b : Below r w w') (hr : W.heap.size ≤ r) : Bw W w' := Below.trans h (b.mono hr)
set_option maxHeartbeats 40000000 in
/-- The landed get, of a lane. -/
theorem getL_ (ka va : Option Addr) (kn kc vn vc : Nat) (k v : List Int) (w : World) (hk : Bs w ka kn k) (hv : Bs w va vn v) (hka : ka = none → kc = 0) (hva : va = none → vc = 0) (hkc : kn ≤ kc) (hvc : vn ≤ vc) (h1 : kn ≤ 140737488351232) (h2 : vn ≤ 140737488351232) :
    Calls Try.prog 49 #[.agg #[.slice ka kn kc, .slice va vn vc], .func (.func 50) #[] #[], .func (.func 17) #[] #[]] w fun e w' => Ga w k v e w' := by
  have HG := hid (gtL_eq k v hv.2.1)
  have BA : Below w.heap.size w ((w.alloc (.cells #[.slice ka kn kc, .slice va vn vc] 27)).alloc (.cells #[.slice none 0 0, .int .i64 0, .int .i64 0, .int .i64 0, .int .u64 0, .int .u64 0, .int .i64 0, .int .i64 0] 48)) := (bel_al w _).alloc (by simp) _
  have m1 : ((w.alloc (.cells #[.slice ka kn kc, .slice va vn vc] 27)).alloc (.cells #[.slice none 0 0, .int .i64 0, .int .i64 0, .int .i64 0, .int .u64 0, .int .u64 0, .int .i64 0, .int .i64 0] 48)).heap[w.heap.size]? = some (.cells #[.slice ka kn kc, .slice va vn vc] 27 (0, 0)) := (Below.heap_alloc _ _ _ (by simp)).trans (heap_alloc_new w _)
  have m2 := Lm.new (w.alloc (.cells #[.slice ka kn kc, .slice va vn vc] 27)) none 0 0 0 0 0 0 0 0 0
  rw [World.size_alloc] at m2
  have HBA := hid BA
  have HM1 := hid m1
  have HM2 := hid m2
  have HK := hid hk
  have HV := hid hv
  have HWS : Hid (((w.alloc (.cells #[.slice ka kn kc, .slice va vn vc] 27)).alloc (.cells #[.slice none 0 0, .int .i64 0, .int .i64 0, .int .i64 0, .int .u64 0, .int .u64 0, .int .i64 0, .int .i64 0] 48)).heap.size = w.heap.size + 2) := by show _ = _; simp
  clear BA m1 m2 hk hv
  have y0 := (two_cell HM1.out).1
  have y1 := (two_cell HM1.out).2
  generalize HW : ((w.alloc (.cells #[.slice ka kn kc, .slice va vn vc] 27)).alloc (.cells #[.slice none 0 0, .int .i64 0, .int .i64 0, .int .i64 0, .int .u64 0, .int .u64 0, .int .i64 0, .int .i64 0] 48)) = W at *
  have k1 := fun wx (h : Bw W wx) => newReader15 ka kn kc k wx ((HK.out.below HBA.out).below h) hka h1 hkc (by have := Below.size h; have := HWS.out; omega)
  have k2 := fun wx (h : Bw W wx) => newReader15 va vn vc v wx ((HV.out.below HBA.out).below h) hva h2 hvc (by have := Below.size h; have := HWS.out; omega)
  have BW0 : Bw W { W with drawn := W.drawn + 1 } := Bw.drew W
  have BW1 : ∀ o, Bw W (({ W with drawn := W.drawn + 1 } : World).alloc o) := fun o => Bw.al BW0 o
  have k3 := fun rk gk rv gg wx hk hv a1 a2 a3 a4 => readLane_ rk gk rv gg k v wx hk hv (by rw [HK.out.1]; exact h1) (by rw [HV.out.1]; exact h2) HK.out.2.1 HV.out.2.1 a1 a2 a3 a4
  have HKO : Hid (Okb (tK k)) := bz_ok (gl_sub (W := 1) (e := 0) HK.out.2.1).1
  have HTL : Hid (0 < (tK k).length → 0 < kn) := fun h => by rw [← HK.out.1]; exact tK_long h
  have hb1 := gvIn8 (e := 0) HV.out.2.1
  have g1 := (gl_sub (W := 1) (e := 0) HV.out.2.1).1
  have hb2 := gvIn32 (e := te1 v) g1
  have g2 := (gl_sub (W := 4) (e := te1 v) g1).1
  have hb3 := gvIn32 (e := te2 v) g2
  have g3 := (gl_sub (W := 4) (e := te2 v) g2).1
  have hb4 := gvIn64 (e := te3 v) g3
  have g4 := (gl_sub (W := 8) (e := te3 v) g3).1
  have hb5 := gvIn64 (e := te4 v) g4
  have g5 := (gl_sub (W := 8) (e := te4 v) g4).1
  have hq : i64r (qs (tR v)) ∧ i64r (qn (tR v)) := q_bound (bz_ok g5)
  have HBD : Hid (i64r (tS v) ∧ i64r (tC v) ∧ i64r (tN v) ∧ u64r (tD v) ∧ u64r (tE v) ∧ i64r (qs (tR v)) ∧ i64r (qn (tR v))) := by
    unfold i64r u64r at *
    unfold tS tC tN tD tE tl4 tl3 tl2 tl1
    exact ⟨⟨by omega, by omega⟩, ⟨by omega, by omega⟩, ⟨by omega, by omega⟩, hb4, hb5, hq.1, hq.2⟩
  clear hb1 hb2 hb3 hb4 hb5 g1 g2 g3 g4 g5 hq
  have HKB : Hid (k.length = 33 → tK k = yK k) := fun h => tK_whole h
  have HTW : Hid (v.length = 37 → tS v = yS v ∧ tC v = rdN v 1 4 ∧ tN v = rdN v 5 4 ∧ tD v = rdN v 9 8 ∧ tE v = rdN v 17 8 ∧ tR v = v.drop 25) := fun h => t_whole HV.out.2.1 h
  have HY : Hid (yok k v = (lok (tK k).length (tS v) (tC v) (tN v) (qs (tR v)) (qn (tR v)) && sameB (lK (tK k)) k && sameB (lV (tS v) (tC v) (tN v) (tD v) (tE v) (qs (tR v)) (qn (tR v))) v)) := HG.out.symm
  have HYL : Hid (yok k v = true → k.length = 33 ∧ v.length = 37) := fun h => by
    unfold yok at h
    exact of_decide_eq_true (Bool.and_eq_true_iff.1 h).1
  obtain ⟨KB, hKB⟩ : ∃ x, tK k = x := ⟨_, rfl⟩
  obtain ⟨R, hR⟩ : ∃ x, tR v = x := ⟨_, rfl⟩
  obtain ⟨S, hS⟩ : ∃ x, tS v = x := ⟨_, rfl⟩
  obtain ⟨C, hC⟩ : ∃ x, tC v = x := ⟨_, rfl⟩
  obtain ⟨N, hN⟩ : ∃ x, tN v = x := ⟨_, rfl⟩
  obtain ⟨D, hD⟩ : ∃ x, tD v = x := ⟨_, rfl⟩
  obtain ⟨E, hE⟩ : ∃ x, tE v = x := ⟨_, rfl⟩
  rw [hKB] at HKO HTL HKB HY
  rw [hKB] at k3
  rw [hR, hS, hC, hN, hD, hE] at HBD HTW HY
  rw [hR, hS, hC, hN, hD, hE] at k3
  clear hKB hR hS hC hN hD hE
  obtain ⟨s, Hs⟩ : ∃ x, Hid (qs R = x) := ⟨_, rfl⟩
  obtain ⟨n, Hn⟩ : ∃ x, Hid (qn R = x) := ⟨_, rfl⟩
  obtain ⟨kl, HKL⟩ : ∃ x : Nat, Hid (KB.length = x) := ⟨_, rfl⟩
  simp only [Hs.out, Hn.out, HKL.out] at HBD HY k3 HTL
  clear HG hka hva hkc hvc
  go_enter Try.func49, Try.ntmps49
  go_wp2_with fail
  clear HW
  go_region_held (fun wx => wx.cell? ⟨w.heap.size, 0, none⟩ = some (.slice ka kn kc) ∧ wx.cell? ⟨w.heap.size, 1, none⟩ = some (.slice va vn vc)) (go_keep) (first | (go_at_call 50; refine (k3 r1 g1 r2 g2 _ (by first | exact R1.out | exact R1.out.kept (bel_al _ _)) (by first | exact R2.out | exact R2.out.kept (bel_al _ _)) HJ1.out HRR.out HJ2.out HNE.out).mono ?_; rintro en w4 ⟨a4, rfl, l4, b4, fr4⟩; have HNW : Hid (w.heap.size < W.heap.size ∧ w.heap.size < w2.heap.size ∧ w.heap.size < w3.heap.size) := (by have h0 := HWS.out; have h1 := Below.size G2; have h2 := Below.size G3; show _ ∧ _ ∧ _; omega); have HBX := hid (Bw.to4 (by first | exact G3 | exact Bw.al G3 _) b4 HR1.out); have u4 := Bw.cell HBX.out y0; have u5 := Bw.cell HBX.out y1; have HLI := hid l4; (first | (have L4 : Lm w4 w3.heap.size none 0 0 0 0 0 0 0 0 0 := (Lm.new w3 none 0 0 0 0 0 0 0 0 0).at (fr4 w3.heap.size (by simp) (by have := HLT3.out; omega) (by have := HLT3.out; omega)); have z0 := L4.c0; have f0 := L4.fz 0; have z1 := L4.c1; have f1 := L4.fz 1; have z2 := L4.c2; have f2 := L4.fz 2; have z3 := L4.c3; have f3 := L4.fz 3; have z4 := L4.c4; have f4 := L4.fz 4; have z5 := L4.c5; have f5 := L4.fz 5; have z6 := L4.c6; have f6 := L4.fz 6; have z7 := L4.c7; have f7 := L4.fz 7; have hN := HNW.out; have e0 := (set8_cell (g := w3.heap.size) (p := ⟨w.heap.size, 0, none⟩) (by show w.heap.size ≠ w3.heap.size; omega) (.slice a4 kl kl) (.int .i64 S) (.int .i64 C) (.int .i64 N) (.int .u64 D) (.int .u64 E) (.int .i64 s) (.int .i64 n)).trans u4; have e1 := (set8_cell (g := w3.heap.size) (p := ⟨w.heap.size, 1, none⟩) (by show w.heap.size ≠ w3.heap.size; omega) (.slice a4 kl kl) (.int .i64 S) (.int .i64 C) (.int .i64 N) (.int .u64 D) (.int .u64 E) (.int .i64 s) (.int .i64 n)).trans u5; clear hN; have HL4 := hid L4; clear L4) | (have L4 : Lm w4 w2.heap.size none 0 0 0 0 0 0 0 0 0 := ((Lm.new w2 none 0 0 0 0 0 0 0 0 0).kept HB3.out).at (fr4 w2.heap.size (Nat.lt_of_lt_of_le (by simp) HB3.out.size) (by have := HLT2.out; omega) (by have h := HI2.out; simp at h; omega)); have z0 := L4.c0; have f0 := L4.fz 0; have z1 := L4.c1; have f1 := L4.fz 1; have z2 := L4.c2; have f2 := L4.fz 2; have z3 := L4.c3; have f3 := L4.fz 3; have z4 := L4.c4; have f4 := L4.fz 4; have z5 := L4.c5; have f5 := L4.fz 5; have z6 := L4.c6; have f6 := L4.fz 6; have z7 := L4.c7; have f7 := L4.fz 7; have hN := HNW.out; have e0 := (set8_cell (g := w2.heap.size) (p := ⟨w.heap.size, 0, none⟩) (by show w.heap.size ≠ w2.heap.size; omega) (.slice a4 kl kl) (.int .i64 S) (.int .i64 C) (.int .i64 N) (.int .u64 D) (.int .u64 E) (.int .i64 s) (.int .i64 n)).trans u4; have e1 := (set8_cell (g := w2.heap.size) (p := ⟨w.heap.size, 1, none⟩) (by show w.heap.size ≠ w2.heap.size; omega) (.slice a4 kl kl) (.int .i64 S) (.int .i64 C) (.int .i64 N) (.int .u64 D) (.int .u64 E) (.int .i64 s) (.int .i64 n)).trans u5; clear hN; have HL4 := hid L4; clear L4) | (have L4 : Lm w4 W.heap.size none 0 0 0 0 0 0 0 0 0 := (((Lm.new { W with drawn := W.drawn + 1 } none 0 0 0 0 0 0 0 0 0).kept HB2.out).kept HB3.out).at (fr4 W.heap.size (Nat.lt_of_lt_of_le (by simp) (Nat.le_trans HB2.out.size HB3.out.size)) (by have h := HI1.out; simp at h; omega) (by have h := HI1.out; have h2 := HRR.out; simp at h; omega)); have z0 := L4.c0; have f0 := L4.fz 0; have z1 := L4.c1; have f1 := L4.fz 1; have z2 := L4.c2; have f2 := L4.fz 2; have z3 := L4.c3; have f3 := L4.fz 3; have z4 := L4.c4; have f4 := L4.fz 4; have z5 := L4.c5; have f5 := L4.fz 5; have z6 := L4.c6; have f6 := L4.fz 6; have z7 := L4.c7; have f7 := L4.fz 7; have hN := HNW.out; have e0 := (set8_cell (g := W.heap.size) (p := ⟨w.heap.size, 0, none⟩) (by show w.heap.size ≠ W.heap.size; omega) (.slice a4 kl kl) (.int .i64 S) (.int .i64 C) (.int .i64 N) (.int .u64 D) (.int .u64 E) (.int .i64 s) (.int .i64 n)).trans u4; have e1 := (set8_cell (g := W.heap.size) (p := ⟨w.heap.size, 1, none⟩) (by show w.heap.size ≠ W.heap.size; omega) (.slice a4 kl kl) (.int .i64 S) (.int .i64 C) (.int .i64 N) (.int .u64 D) (.int .u64 E) (.int .i64 s) (.int .i64 n)).trans u5; clear hN; have HL4 := hid L4; clear L4) | skip); have HLT4 : Hid (g1 < w4.heap.size) := (by have h3 := HLT3.out; have h4 := b4.size; first | (show g1 < w4.heap.size; have h5 := HJ1.out; omega) | (simp at h4; show g1 < w4.heap.size; have h5 := HJ1.out; omega)); clear l4 b4 fr4) | (have hh := G2; clear hh; go_at_call 65; refine (k2 _ (by first | exact G2 | exact Bw.al G2 _)).mono ?_; rintro en w3 ⟨r2, g2, rfl, s2, i2, j2, y2, b3⟩; have G3 := Bw.on (by first | exact G2 | exact Bw.al G2 _) b3; have u2 := Bw.cell G3 y0; have u3 := Bw.cell G3 y1; have HB3 := hid b3; have B23 : Below w2.heap.size w2 w3 := (by first | exact b3 | exact bel_bel (bel_al w2 _) (by simp) b3); have R1 := hid (HS1.out.kept B23); have R2 := hid s2; have HI2 := hid i2; have HGE2 : Hid (w2.heap.size ≤ r2) := (by have h := i2; first | exact h | (simp at h; show w2.heap.size ≤ r2; omega)); have HRR : Hid (r1 < r2) := (by have h0 := HLT2.out; have h := HGE2.out; show r1 < r2; omega); have HJ2 := hid j2; have HNE : Hid (g2 ≠ r1) := (by have h0 := HLT2.out; have h1 := HR1.out; have h2 := HWS.out; have h := y2; show g2 ≠ r1; first | omega | (simp at h; omega)); have HLT3 : Hid (r1 < w3.heap.size ∧ r2 < w3.heap.size) := ⟨R1.out.lt, s2.lt⟩; clear s2 i2 j2 y2 b3 B23) | (go_at_call 65; refine (k1 _ (by first | exact BW0 | exact BW1 _)).mono ?_; rintro en w2 ⟨r1, g1, rfl, s1, i1, j1, y1', b2⟩; have G2 := Bw.on (by first | exact BW0 | exact BW1 _) b2; have u0 := Bw.cell G2 y0; have u1 := Bw.cell G2 y1; have HB2 := hid b2; have HY1 := hid y1'; have HS1 := hid s1; have HJ1 := hid j1; have HR1 : Hid (W.heap.size ≤ r1) := (by have h := i1; first | exact h | (simp at h; show W.heap.size ≤ r1; omega)); have HI1 := hid i1; have HG1 : Hid (0 < kn → W.heap.size ≤ g1) := (by intro hkn; have h := y1'; first | (simp at h; omega) | (rcases h with h | h; · exact h; · omega)); have HLT2 : Hid (r1 < w2.heap.size) := s1.lt; clear s1 i1 j1 y1' b2))
  · have L : Lg W (w4.alloc (.cells #[.slice a4 kl kl, .int .i64 S, .int .i64 C, .int .i64 N, .int .u64 D, .int .u64 E, .int .i64 s, .int .i64 n] 48)) w4.heap.size a4 kl KB S C N D E s n := by
      refine ⟨Lm.new w4 a4 kl kl S C N D E s n, HBX.out.al _, ?_, Below.size HBX.out⟩
      exact (HLI.out.vs (V := fun x => W.heap.size ≤ x ∧ x ≠ w4.heap.size) fun h => ⟨HG1.out (HTL.out h), by have := HLT4.out; omega⟩).step fun x hx _ _ => Below.heap_alloc _ _ _ hx
    have HL := hid L
    generalize (w4.alloc (.cells #[.slice a4 kl kl, .int .i64 S, .int .i64 C, .int .i64 N, .int .u64 D, .int .u64 E, .int .i64 s, .int .i64 n] 48)) = X at HL ⊢
    generalize w4.heap.size = G at HL ⊢
    clear L u0 u1 u2 u3 u4 u5 G2 G3 BW0 BW1 k1 k2 k3 R1 R2 HI1 HJ1 HB2 HS1 HR1 HG1 HY1 HLT2 HI2 HB3 HGE2 HRR HJ2 HNE HLT3 HBX HLI HLT4 HNW HM1
    have kp := putLane_ a4 kl kl KB S C N D E s n X HL.out.vs.bs (Nat.le_trans HL.out.vs.nc HL.out.vs.cm) HBD.out.1 HBD.out.2.1 HBD.out.2.2.1 HBD.out.2.2.2.1 HBD.out.2.2.2.2.1 HBD.out.2.2.2.2.2.1 HBD.out.2.2.2.2.2.2
    obtain ⟨b1, Hb1⟩ : ∃ x, Hid (lok kl S C N s n = x) := ⟨_, rfl⟩
    obtain ⟨RK, HRK⟩ : ∃ x, Hid (lRK KB S C N s n = x) := ⟨_, rfl⟩
    obtain ⟨RV, HRV⟩ : ∃ x, Hid (lRV KB S C N D E s n = x) := ⟨_, rfl⟩
    obtain ⟨RE, HRE⟩ : ∃ x, Hid (lRE KB S C N s n = x) := ⟨_, rfl⟩
    have HE1 : Hid (RE = if b1 then 0 else 114) := by show _ = _; rw [← HRE.out, ← Hb1.out]; unfold lRE; rw [HKL.out]
    have HY2 : Hid (yok k v = (b1 && sameB RK k && sameB RV v)) := by
      show _ = _
      rw [HY.out, Hb1.out]
      cases b1
      · rfl
      · have e1 : RK = lK KB := by rw [← HRK.out]; unfold lRK; rw [HKL.out, Hb1.out]; rfl
        have e2 : RV = lV S C N D E s n := by rw [← HRV.out]; unfold lRV; rw [HKL.out, Hb1.out]; rfl
        rw [e1, e2]
    rw [HRK.out, HRV.out, HRE.out] at kp
    have d0 := HL.out.lm.c0
    have d1 := HL.out.lm.c1
    have d2 := HL.out.lm.c2
    have d3 := HL.out.lm.c3
    have d4 := HL.out.lm.c4
    have d5 := HL.out.lm.c5
    have d6 := HL.out.lm.c6
    have d7 := HL.out.lm.c7
    go_wp2_with fail
    clear d0 d1 d2 d3 d4 d5 d6 d7
    refine kp.mono ?_
    rintro e w9 ⟨pa, pc, qa, qc, rfl, vk, vv, g9⟩
    obtain ⟨pk, Hpk⟩ : ∃ x : Nat, Hid (RK.length = x) := ⟨_, rfl⟩
    obtain ⟨pv, Hpv⟩ : ∃ x : Nat, Hid (RV.length = x) := ⟨_, rfl⟩
    rw [Hpk.out] at vk
    rw [Hpv.out] at vv
    rw [Hpk.out, Hpv.out]
    have B9 := bel_al w9 (.cells #[.slice pa pk pc, .slice qa pv qc] 27)
    have m9 := heap_alloc_new w9 (.cells #[.slice pa pk pc, .slice qa pv qc] 27)
    have HL9 := hid ((HL.out.on g9).on B9)
    have z0 := Bw.cell HL9.out.bw y0
    have z1 := Bw.cell HL9.out.bw y1
    have x0 := (two_cell m9).1
    have x1 := (two_cell m9).2
    have ke := fun wx (hx : wx = w9.alloc (.cells #[.slice pa pk pc, .slice qa pv qc] 27)) => beq_ pa ka pk pc kn kc RK k wx (by rw [hx]; exact vk.bs.below B9) (by rw [hx]; exact (HK.out.below HBA.out).below HL9.out.bw)
    have kf := fun wx (hx : wx = w9.alloc (.cells #[.slice pa pk pc, .slice qa pv qc] 27)) => beq_ qa va pv qc vn vc RV v wx (by rw [hx]; exact vv.bs.below B9) (by rw [hx]; exact (HV.out.below HBA.out).below HL9.out.bw)
    have HZ := hid (HM2.out.kept HL9.out.bw)
    have HBX9 := hid (bel_bel HBA.out HBA.out.size HL9.out.bw)
    have HZA := hid (HZ.out.kept (bel_al _ (.cells #[.slice none 0 0, .int .i64 0, .int .i64 0, .int .i64 0, .int .u64 0, .int .u64 0, .int .i64 0, .int .i64 0] 48)))
    have HBXA := hid (bel_bel HBX9.out HBX9.out.size (bel_al _ (.cells #[.slice none 0 0, .int .i64 0, .int .i64 0, .int .i64 0, .int .u64 0, .int .u64 0, .int .i64 0, .int .i64 0] 48)))
    clear vk vv g9 B9 m9 HL kp
    have e1 := HE1.out
    clear HE1 HRE HRK HRV Hb1
    cases b1
    · simp only [if_false, Bool.false_eq_true] at e1
      subst e1
      clear ke kf
      go_wp2_with (refine wpList_sln rfl rfl _ _ rfl (w.heap.size + 1) none 0 0 0 0 0 0 0 0 0 rfl rfl (by with_reducible exact HZA.out) ?_)
      refine bodyPost_ret (v := .tuple #[.agg #[.slice none 0 0, .int .i64 0, .int .i64 0, .int .i64 0, .int .u64 0, .int .u64 0, .int .i64 0, .int .i64 0], .int .i64 114]) ?_ rfl ⟨⟨none, 0, ?_⟩, bel_row HBXA.out (Nat.le_succ _) _⟩
      · exact results_ln rfl _ _ (w.heap.size + 1) none 0 0 0 0 0 0 0 0 0 _ rfl rfl (HZA.out.row none 0 0 0 0 0 0 0 0 0)
      · have hy : yok k v = false := by rw [HY2.out]; rfl
        rw [hy]
        exact rfl
    · simp only [if_true] at e1
      subst e1
      obtain ⟨q1, Hq1⟩ : ∃ x, Hid (sameB RK k = x) := ⟨_, rfl⟩
      obtain ⟨q2, Hq2⟩ : ∃ x, Hid (sameB RV v = x) := ⟨_, rfl⟩
      rw [Hq1.out] at ke HY2
      rw [Hq2.out] at kf HY2
      cases q1
      · go_wp2_with fail
        refine (ke _ rfl).mono ?_
        rintro e w10 ⟨rfl, hw⟩
        rw [hw]
        clear hw w10 ke kf
        go_wp2_with (refine wpList_sln rfl rfl _ _ rfl (w.heap.size + 1) none 0 0 0 0 0 0 0 0 0 rfl rfl (by with_reducible exact HZA.out) ?_)
        refine bodyPost_ret (v := .tuple #[.agg #[.slice none 0 0, .int .i64 0, .int .i64 0, .int .i64 0, .int .u64 0, .int .u64 0, .int .i64 0, .int .i64 0], .int .i64 114]) ?_ rfl ⟨⟨none, 0, ?_⟩, bel_row HBXA.out (Nat.le_succ _) _⟩
        · exact results_ln rfl _ _ (w.heap.size + 1) none 0 0 0 0 0 0 0 0 0 _ rfl rfl (HZA.out.row none 0 0 0 0 0 0 0 0 0)
        · have hy : yok k v = false := by rw [HY2.out]; rfl
          rw [hy]
          exact rfl
      · cases q2
        · go_wp2_with fail
          refine (ke _ rfl).mono ?_
          rintro e w10 ⟨rfl, hw⟩
          rw [hw]
          clear hw w10 ke
          go_wp2_with fail
          refine (kf _ rfl).mono ?_
          rintro e w10 ⟨rfl, hw⟩
          rw [hw]
          clear hw w10 kf
          go_wp2_with (refine wpList_sln rfl rfl _ _ rfl (w.heap.size + 1) none 0 0 0 0 0 0 0 0 0 rfl rfl (by with_reducible exact HZA.out) ?_)
          refine bodyPost_ret (v := .tuple #[.agg #[.slice none 0 0, .int .i64 0, .int .i64 0, .int .i64 0, .int .u64 0, .int .u64 0, .int .i64 0, .int .i64 0], .int .i64 114]) ?_ rfl ⟨⟨none, 0, ?_⟩, bel_row HBXA.out (Nat.le_succ _) _⟩
          · exact results_ln rfl _ _ (w.heap.size + 1) none 0 0 0 0 0 0 0 0 0 _ rfl rfl (HZA.out.row none 0 0 0 0 0 0 0 0 0)
          · have hy : yok k v = false := by rw [HY2.out]; rfl
            rw [hy]
            exact rfl
        · go_wp2_with fail
          refine (ke _ rfl).mono ?_
          rintro e w10 ⟨rfl, hw⟩
          rw [hw]
          clear hw w10 ke
          go_wp2_with fail
          refine (kf _ rfl).mono ?_
          rintro e w10 ⟨rfl, hw⟩
          rw [hw]
          clear hw w10 kf
          have d0 := HL9.out.lm.c0
          have d1 := HL9.out.lm.c1
          have d2 := HL9.out.lm.c2
          have d3 := HL9.out.lm.c3
          have d4 := HL9.out.lm.c4
          have d5 := HL9.out.lm.c5
          have d6 := HL9.out.lm.c6
          have d7 := HL9.out.lm.c7
          go_wp2_with (refine wpList_sln rfl rfl _ _ rfl (w.heap.size + 1) a4 kl kl S C N D E s n rfl rfl (by with_reducible exact HZ.out) ?_)
          have hy : yok k v = true := by rw [HY2.out]; rfl
          obtain ⟨t1, t2⟩ := HYL.out hy
          obtain ⟨s1, s2, s3, s4, s5, s6⟩ := HTW.out t2
          have e32 : kl = 32 := by rw [← HKL.out, HKB.out t1]; unfold yK; rw [List.length_drop]; omega
          refine bodyPost_ret (v := .tuple #[.agg #[.slice a4 kl kl, .int .i64 S, .int .i64 C, .int .i64 N, .int .u64 D, .int .u64 E, .int .i64 s, .int .i64 n], .int .i64 0]) ?_ rfl ⟨⟨a4, kl, ?_⟩, bel_row HBX9.out (Nat.le_succ _) _⟩
          · exact results_ln rfl _ _ (w.heap.size + 1) a4 kl kl S C N D E s n _ rfl rfl (HZ.out.row a4 kl kl S C N D E s n)
          · rw [hy, if_pos rfl, ← s1, ← s2, ← s3, ← s4, ← s5, ← s6, Hs.out, Hn.out, ← HKB.out t1]
            subst e32
            refine ⟨rfl, ?_⟩
            exact (HL9.out.vs.step fun x _ hV _ => setRow_other _ _ _ _ (by have := HWS.out; omega)).wide fun x _ hx => by have := HWS.out; omega
  · have L : Lg W ((((((((w4.setCell ⟨w3.heap.size, 0, none⟩ (.slice a4 kl kl)).setCell ⟨w3.heap.size, 1, none⟩ (.int .i64 S)).setCell ⟨w3.heap.size, 2, none⟩ (.int .i64 C)).setCell ⟨w3.heap.size, 3, none⟩ (.int .i64 N)).setCell ⟨w3.heap.size, 4, none⟩ (.int .u64 D)).setCell ⟨w3.heap.size, 5, none⟩ (.int .u64 E)).setCell ⟨w3.heap.size, 6, none⟩ (.int .i64 s)).setCell ⟨w3.heap.size, 7, none⟩ (.int .i64 n)) w3.heap.size a4 kl KB S C N D E s n := by
      refine ⟨HL4.out.set8 a4 kl kl S C N D E s n, set8_bel HBX.out (Below.size G3) _ _ _ _ _ _ _ _, ?_, (Below.size G3)⟩
      exact (HLI.out.vs (V := fun x => W.heap.size ≤ x ∧ x ≠ w3.heap.size) fun h => ⟨HG1.out (HTL.out h), by have := HLT3.out; have := HJ1.out; omega⟩).step fun x hx hV _ => set8_other hV.2 _ _ _ _ _ _ _ _
    have HL := hid L
    generalize ((((((((w4.setCell ⟨w3.heap.size, 0, none⟩ (.slice a4 kl kl)).setCell ⟨w3.heap.size, 1, none⟩ (.int .i64 S)).setCell ⟨w3.heap.size, 2, none⟩ (.int .i64 C)).setCell ⟨w3.heap.size, 3, none⟩ (.int .i64 N)).setCell ⟨w3.heap.size, 4, none⟩ (.int .u64 D)).setCell ⟨w3.heap.size, 5, none⟩ (.int .u64 E)).setCell ⟨w3.heap.size, 6, none⟩ (.int .i64 s)).setCell ⟨w3.heap.size, 7, none⟩ (.int .i64 n)) = X at HL ⊢
    generalize w3.heap.size = G at HL ⊢
    clear L HL4 e0 e1 z0 f0 z1 f1 z2 f2 z3 f3 z4 f4 z5 f5 z6 f6 z7 f7 u0 u1 u2 u3 u4 u5 G2 G3 BW0 BW1 k1 k2 k3 R1 R2 HI1 HJ1 HB2 HS1 HR1 HG1 HY1 HLT2 HI2 HB3 HGE2 HRR HJ2 HNE HLT3 HBX HLI HLT4 HNW HM1
    have kp := putLane_ a4 kl kl KB S C N D E s n X HL.out.vs.bs (Nat.le_trans HL.out.vs.nc HL.out.vs.cm) HBD.out.1 HBD.out.2.1 HBD.out.2.2.1 HBD.out.2.2.2.1 HBD.out.2.2.2.2.1 HBD.out.2.2.2.2.2.1 HBD.out.2.2.2.2.2.2
    obtain ⟨b1, Hb1⟩ : ∃ x, Hid (lok kl S C N s n = x) := ⟨_, rfl⟩
    obtain ⟨RK, HRK⟩ : ∃ x, Hid (lRK KB S C N s n = x) := ⟨_, rfl⟩
    obtain ⟨RV, HRV⟩ : ∃ x, Hid (lRV KB S C N D E s n = x) := ⟨_, rfl⟩
    obtain ⟨RE, HRE⟩ : ∃ x, Hid (lRE KB S C N s n = x) := ⟨_, rfl⟩
    have HE1 : Hid (RE = if b1 then 0 else 114) := by show _ = _; rw [← HRE.out, ← Hb1.out]; unfold lRE; rw [HKL.out]
    have HY2 : Hid (yok k v = (b1 && sameB RK k && sameB RV v)) := by
      show _ = _
      rw [HY.out, Hb1.out]
      cases b1
      · rfl
      · have e1 : RK = lK KB := by rw [← HRK.out]; unfold lRK; rw [HKL.out, Hb1.out]; rfl
        have e2 : RV = lV S C N D E s n := by rw [← HRV.out]; unfold lRV; rw [HKL.out, Hb1.out]; rfl
        rw [e1, e2]
    rw [HRK.out, HRV.out, HRE.out] at kp
    have d0 := HL.out.lm.c0
    have d1 := HL.out.lm.c1
    have d2 := HL.out.lm.c2
    have d3 := HL.out.lm.c3
    have d4 := HL.out.lm.c4
    have d5 := HL.out.lm.c5
    have d6 := HL.out.lm.c6
    have d7 := HL.out.lm.c7
    go_wp2_with fail
    clear d0 d1 d2 d3 d4 d5 d6 d7
    refine kp.mono ?_
    rintro e w9 ⟨pa, pc, qa, qc, rfl, vk, vv, g9⟩
    obtain ⟨pk, Hpk⟩ : ∃ x : Nat, Hid (RK.length = x) := ⟨_, rfl⟩
    obtain ⟨pv, Hpv⟩ : ∃ x : Nat, Hid (RV.length = x) := ⟨_, rfl⟩
    rw [Hpk.out] at vk
    rw [Hpv.out] at vv
    rw [Hpk.out, Hpv.out]
    have B9 := bel_al w9 (.cells #[.slice pa pk pc, .slice qa pv qc] 27)
    have m9 := heap_alloc_new w9 (.cells #[.slice pa pk pc, .slice qa pv qc] 27)
    have HL9 := hid ((HL.out.on g9).on B9)
    have z0 := Bw.cell HL9.out.bw y0
    have z1 := Bw.cell HL9.out.bw y1
    have x0 := (two_cell m9).1
    have x1 := (two_cell m9).2
    have ke := fun wx (hx : wx = w9.alloc (.cells #[.slice pa pk pc, .slice qa pv qc] 27)) => beq_ pa ka pk pc kn kc RK k wx (by rw [hx]; exact vk.bs.below B9) (by rw [hx]; exact (HK.out.below HBA.out).below HL9.out.bw)
    have kf := fun wx (hx : wx = w9.alloc (.cells #[.slice pa pk pc, .slice qa pv qc] 27)) => beq_ qa va pv qc vn vc RV v wx (by rw [hx]; exact vv.bs.below B9) (by rw [hx]; exact (HV.out.below HBA.out).below HL9.out.bw)
    have HZ := hid (HM2.out.kept HL9.out.bw)
    have HBX9 := hid (bel_bel HBA.out HBA.out.size HL9.out.bw)
    have HZA := hid (HZ.out.kept (bel_al _ (.cells #[.slice none 0 0, .int .i64 0, .int .i64 0, .int .i64 0, .int .u64 0, .int .u64 0, .int .i64 0, .int .i64 0] 48)))
    have HBXA := hid (bel_bel HBX9.out HBX9.out.size (bel_al _ (.cells #[.slice none 0 0, .int .i64 0, .int .i64 0, .int .i64 0, .int .u64 0, .int .u64 0, .int .i64 0, .int .i64 0] 48)))
    clear vk vv g9 B9 m9 HL kp
    have e1 := HE1.out
    clear HE1 HRE HRK HRV Hb1
    cases b1
    · simp only [if_false, Bool.false_eq_true] at e1
      subst e1
      clear ke kf
      go_wp2_with (refine wpList_sln rfl rfl _ _ rfl (w.heap.size + 1) none 0 0 0 0 0 0 0 0 0 rfl rfl (by with_reducible exact HZA.out) ?_)
      refine bodyPost_ret (v := .tuple #[.agg #[.slice none 0 0, .int .i64 0, .int .i64 0, .int .i64 0, .int .u64 0, .int .u64 0, .int .i64 0, .int .i64 0], .int .i64 114]) ?_ rfl ⟨⟨none, 0, ?_⟩, bel_row HBXA.out (Nat.le_succ _) _⟩
      · exact results_ln rfl _ _ (w.heap.size + 1) none 0 0 0 0 0 0 0 0 0 _ rfl rfl (HZA.out.row none 0 0 0 0 0 0 0 0 0)
      · have hy : yok k v = false := by rw [HY2.out]; rfl
        rw [hy]
        exact rfl
    · simp only [if_true] at e1
      subst e1
      obtain ⟨q1, Hq1⟩ : ∃ x, Hid (sameB RK k = x) := ⟨_, rfl⟩
      obtain ⟨q2, Hq2⟩ : ∃ x, Hid (sameB RV v = x) := ⟨_, rfl⟩
      rw [Hq1.out] at ke HY2
      rw [Hq2.out] at kf HY2
      cases q1
      · go_wp2_with fail
        refine (ke _ rfl).mono ?_
        rintro e w10 ⟨rfl, hw⟩
        rw [hw]
        clear hw w10 ke kf
        go_wp2_with (refine wpList_sln rfl rfl _ _ rfl (w.heap.size + 1) none 0 0 0 0 0 0 0 0 0 rfl rfl (by with_reducible exact HZA.out) ?_)
        refine bodyPost_ret (v := .tuple #[.agg #[.slice none 0 0, .int .i64 0, .int .i64 0, .int .i64 0, .int .u64 0, .int .u64 0, .int .i64 0, .int .i64 0], .int .i64 114]) ?_ rfl ⟨⟨none, 0, ?_⟩, bel_row HBXA.out (Nat.le_succ _) _⟩
        · exact results_ln rfl _ _ (w.heap.size + 1) none 0 0 0 0 0 0 0 0 0 _ rfl rfl (HZA.out.row none 0 0 0 0 0 0 0 0 0)
        · have hy : yok k v = false := by rw [HY2.out]; rfl
          rw [hy]
          exact rfl
      · cases q2
        · go_wp2_with fail
          refine (ke _ rfl).mono ?_
          rintro e w10 ⟨rfl, hw⟩
          rw [hw]
          clear hw w10 ke
          go_wp2_with fail
          refine (kf _ rfl).mono ?_
          rintro e w10 ⟨rfl, hw⟩
          rw [hw]
          clear hw w10 kf
          go_wp2_with (refine wpList_sln rfl rfl _ _ rfl (w.heap.size + 1) none 0 0 0 0 0 0 0 0 0 rfl rfl (by with_reducible exact HZA.out) ?_)
          refine bodyPost_ret (v := .tuple #[.agg #[.slice none 0 0, .int .i64 0, .int .i64 0, .int .i64 0, .int .u64 0, .int .u64 0, .int .i64 0, .int .i64 0], .int .i64 114]) ?_ rfl ⟨⟨none, 0, ?_⟩, bel_row HBXA.out (Nat.le_succ _) _⟩
          · exact results_ln rfl _ _ (w.heap.size + 1) none 0 0 0 0 0 0 0 0 0 _ rfl rfl (HZA.out.row none 0 0 0 0 0 0 0 0 0)
          · have hy : yok k v = false := by rw [HY2.out]; rfl
            rw [hy]
            exact rfl
        · go_wp2_with fail
          refine (ke _ rfl).mono ?_
          rintro e w10 ⟨rfl, hw⟩
          rw [hw]
          clear hw w10 ke
          go_wp2_with fail
          refine (kf _ rfl).mono ?_
          rintro e w10 ⟨rfl, hw⟩
          rw [hw]
          clear hw w10 kf
          have d0 := HL9.out.lm.c0
          have d1 := HL9.out.lm.c1
          have d2 := HL9.out.lm.c2
          have d3 := HL9.out.lm.c3
          have d4 := HL9.out.lm.c4
          have d5 := HL9.out.lm.c5
          have d6 := HL9.out.lm.c6
          have d7 := HL9.out.lm.c7
          go_wp2_with (refine wpList_sln rfl rfl _ _ rfl (w.heap.size + 1) a4 kl kl S C N D E s n rfl rfl (by with_reducible exact HZ.out) ?_)
          have hy : yok k v = true := by rw [HY2.out]; rfl
          obtain ⟨t1, t2⟩ := HYL.out hy
          obtain ⟨s1, s2, s3, s4, s5, s6⟩ := HTW.out t2
          have e32 : kl = 32 := by rw [← HKL.out, HKB.out t1]; unfold yK; rw [List.length_drop]; omega
          refine bodyPost_ret (v := .tuple #[.agg #[.slice a4 kl kl, .int .i64 S, .int .i64 C, .int .i64 N, .int .u64 D, .int .u64 E, .int .i64 s, .int .i64 n], .int .i64 0]) ?_ rfl ⟨⟨a4, kl, ?_⟩, bel_row HBX9.out (Nat.le_succ _) _⟩
          · exact results_ln rfl _ _ (w.heap.size + 1) a4 kl kl S C N D E s n _ rfl rfl (HZ.out.row a4 kl kl S C N D E s n)
          · rw [hy, if_pos rfl, ← s1, ← s2, ← s3, ← s4, ← s5, ← s6, Hs.out, Hn.out, ← HKB.out t1]
            subst e32
            refine ⟨rfl, ?_⟩
            exact (HL9.out.vs.step fun x _ hV _ => setRow_other _ _ _ _ (by have := HWS.out; omega)).wide fun x _ hx => by have := HWS.out; omega
  · have L : Lg W ((((((((w4.setCell ⟨w2.heap.size, 0, none⟩ (.slice a4 kl kl)).setCell ⟨w2.heap.size, 1, none⟩ (.int .i64 S)).setCell ⟨w2.heap.size, 2, none⟩ (.int .i64 C)).setCell ⟨w2.heap.size, 3, none⟩ (.int .i64 N)).setCell ⟨w2.heap.size, 4, none⟩ (.int .u64 D)).setCell ⟨w2.heap.size, 5, none⟩ (.int .u64 E)).setCell ⟨w2.heap.size, 6, none⟩ (.int .i64 s)).setCell ⟨w2.heap.size, 7, none⟩ (.int .i64 n)) w2.heap.size a4 kl KB S C N D E s n := by
      refine ⟨HL4.out.set8 a4 kl kl S C N D E s n, set8_bel HBX.out (Below.size G2) _ _ _ _ _ _ _ _, ?_, (Below.size G2)⟩
      exact (HLI.out.vs (V := fun x => W.heap.size ≤ x ∧ x ≠ w2.heap.size) fun h => ⟨HG1.out (HTL.out h), by have := HLT2.out; have := HJ1.out; omega⟩).step fun x hx hV _ => set8_other hV.2 _ _ _ _ _ _ _ _
    have HL := hid L
    generalize ((((((((w4.setCell ⟨w2.heap.size, 0, none⟩ (.slice a4 kl kl)).setCell ⟨w2.heap.size, 1, none⟩ (.int .i64 S)).setCell ⟨w2.heap.size, 2, none⟩ (.int .i64 C)).setCell ⟨w2.heap.size, 3, none⟩ (.int .i64 N)).setCell ⟨w2.heap.size, 4, none⟩ (.int .u64 D)).setCell ⟨w2.heap.size, 5, none⟩ (.int .u64 E)).setCell ⟨w2.heap.size, 6, none⟩ (.int .i64 s)).setCell ⟨w2.heap.size, 7, none⟩ (.int .i64 n)) = X at HL ⊢
    generalize w2.heap.size = G at HL ⊢
    clear L HL4 e0 e1 z0 f0 z1 f1 z2 f2 z3 f3 z4 f4 z5 f5 z6 f6 z7 f7 u0 u1 u2 u3 u4 u5 G2 G3 BW0 BW1 k1 k2 k3 R1 R2 HI1 HJ1 HB2 HS1 HR1 HG1 HY1 HLT2 HI2 HB3 HGE2 HRR HJ2 HNE HLT3 HBX HLI HLT4 HNW HM1
    have kp := putLane_ a4 kl kl KB S C N D E s n X HL.out.vs.bs (Nat.le_trans HL.out.vs.nc HL.out.vs.cm) HBD.out.1 HBD.out.2.1 HBD.out.2.2.1 HBD.out.2.2.2.1 HBD.out.2.2.2.2.1 HBD.out.2.2.2.2.2.1 HBD.out.2.2.2.2.2.2
    obtain ⟨b1, Hb1⟩ : ∃ x, Hid (lok kl S C N s n = x) := ⟨_, rfl⟩
    obtain ⟨RK, HRK⟩ : ∃ x, Hid (lRK KB S C N s n = x) := ⟨_, rfl⟩
    obtain ⟨RV, HRV⟩ : ∃ x, Hid (lRV KB S C N D E s n = x) := ⟨_, rfl⟩
    obtain ⟨RE, HRE⟩ : ∃ x, Hid (lRE KB S C N s n = x) := ⟨_, rfl⟩
    have HE1 : Hid (RE = if b1 then 0 else 114) := by show _ = _; rw [← HRE.out, ← Hb1.out]; unfold lRE; rw [HKL.out]
    have HY2 : Hid (yok k v = (b1 && sameB RK k && sameB RV v)) := by
      show _ = _
      rw [HY.out, Hb1.out]
      cases b1
      · rfl
      · have e1 : RK = lK KB := by rw [← HRK.out]; unfold lRK; rw [HKL.out, Hb1.out]; rfl
        have e2 : RV = lV S C N D E s n := by rw [← HRV.out]; unfold lRV; rw [HKL.out, Hb1.out]; rfl
        rw [e1, e2]
    rw [HRK.out, HRV.out, HRE.out] at kp
    have d0 := HL.out.lm.c0
    have d1 := HL.out.lm.c1
    have d2 := HL.out.lm.c2
    have d3 := HL.out.lm.c3
    have d4 := HL.out.lm.c4
    have d5 := HL.out.lm.c5
    have d6 := HL.out.lm.c6
    have d7 := HL.out.lm.c7
    go_wp2_with fail
    clear d0 d1 d2 d3 d4 d5 d6 d7
    refine kp.mono ?_
    rintro e w9 ⟨pa, pc, qa, qc, rfl, vk, vv, g9⟩
    obtain ⟨pk, Hpk⟩ : ∃ x : Nat, Hid (RK.length = x) := ⟨_, rfl⟩
    obtain ⟨pv, Hpv⟩ : ∃ x : Nat, Hid (RV.length = x) := ⟨_, rfl⟩
    rw [Hpk.out] at vk
    rw [Hpv.out] at vv
    rw [Hpk.out, Hpv.out]
    have B9 := bel_al w9 (.cells #[.slice pa pk pc, .slice qa pv qc] 27)
    have m9 := heap_alloc_new w9 (.cells #[.slice pa pk pc, .slice qa pv qc] 27)
    have HL9 := hid ((HL.out.on g9).on B9)
    have z0 := Bw.cell HL9.out.bw y0
    have z1 := Bw.cell HL9.out.bw y1
    have x0 := (two_cell m9).1
    have x1 := (two_cell m9).2
    have ke := fun wx (hx : wx = w9.alloc (.cells #[.slice pa pk pc, .slice qa pv qc] 27)) => beq_ pa ka pk pc kn kc RK k wx (by rw [hx]; exact vk.bs.below B9) (by rw [hx]; exact (HK.out.below HBA.out).below HL9.out.bw)
    have kf := fun wx (hx : wx = w9.alloc (.cells #[.slice pa pk pc, .slice qa pv qc] 27)) => beq_ qa va pv qc vn vc RV v wx (by rw [hx]; exact vv.bs.below B9) (by rw [hx]; exact (HV.out.below HBA.out).below HL9.out.bw)
    have HZ := hid (HM2.out.kept HL9.out.bw)
    have HBX9 := hid (bel_bel HBA.out HBA.out.size HL9.out.bw)
    have HZA := hid (HZ.out.kept (bel_al _ (.cells #[.slice none 0 0, .int .i64 0, .int .i64 0, .int .i64 0, .int .u64 0, .int .u64 0, .int .i64 0, .int .i64 0] 48)))
    have HBXA := hid (bel_bel HBX9.out HBX9.out.size (bel_al _ (.cells #[.slice none 0 0, .int .i64 0, .int .i64 0, .int .i64 0, .int .u64 0, .int .u64 0, .int .i64 0, .int .i64 0] 48)))
    clear vk vv g9 B9 m9 HL kp
    have e1 := HE1.out
    clear HE1 HRE HRK HRV Hb1
    cases b1
    · simp only [if_false, Bool.false_eq_true] at e1
      subst e1
      clear ke kf
      go_wp2_with (refine wpList_sln rfl rfl _ _ rfl (w.heap.size + 1) none 0 0 0 0 0 0 0 0 0 rfl rfl (by with_reducible exact HZA.out) ?_)
      refine bodyPost_ret (v := .tuple #[.agg #[.slice none 0 0, .int .i64 0, .int .i64 0, .int .i64 0, .int .u64 0, .int .u64 0, .int .i64 0, .int .i64 0], .int .i64 114]) ?_ rfl ⟨⟨none, 0, ?_⟩, bel_row HBXA.out (Nat.le_succ _) _⟩
      · exact results_ln rfl _ _ (w.heap.size + 1) none 0 0 0 0 0 0 0 0 0 _ rfl rfl (HZA.out.row none 0 0 0 0 0 0 0 0 0)
      · have hy : yok k v = false := by rw [HY2.out]; rfl
        rw [hy]
        exact rfl
    · simp only [if_true] at e1
      subst e1
      obtain ⟨q1, Hq1⟩ : ∃ x, Hid (sameB RK k = x) := ⟨_, rfl⟩
      obtain ⟨q2, Hq2⟩ : ∃ x, Hid (sameB RV v = x) := ⟨_, rfl⟩
      rw [Hq1.out] at ke HY2
      rw [Hq2.out] at kf HY2
      cases q1
      · go_wp2_with fail
        refine (ke _ rfl).mono ?_
        rintro e w10 ⟨rfl, hw⟩
        rw [hw]
        clear hw w10 ke kf
        go_wp2_with (refine wpList_sln rfl rfl _ _ rfl (w.heap.size + 1) none 0 0 0 0 0 0 0 0 0 rfl rfl (by with_reducible exact HZA.out) ?_)
        refine bodyPost_ret (v := .tuple #[.agg #[.slice none 0 0, .int .i64 0, .int .i64 0, .int .i64 0, .int .u64 0, .int .u64 0, .int .i64 0, .int .i64 0], .int .i64 114]) ?_ rfl ⟨⟨none, 0, ?_⟩, bel_row HBXA.out (Nat.le_succ _) _⟩
        · exact results_ln rfl _ _ (w.heap.size + 1) none 0 0 0 0 0 0 0 0 0 _ rfl rfl (HZA.out.row none 0 0 0 0 0 0 0 0 0)
        · have hy : yok k v = false := by rw [HY2.out]; rfl
          rw [hy]
          exact rfl
      · cases q2
        · go_wp2_with fail
          refine (ke _ rfl).mono ?_
          rintro e w10 ⟨rfl, hw⟩
          rw [hw]
          clear hw w10 ke
          go_wp2_with fail
          refine (kf _ rfl).mono ?_
          rintro e w10 ⟨rfl, hw⟩
          rw [hw]
          clear hw w10 kf
          go_wp2_with (refine wpList_sln rfl rfl _ _ rfl (w.heap.size + 1) none 0 0 0 0 0 0 0 0 0 rfl rfl (by with_reducible exact HZA.out) ?_)
          refine bodyPost_ret (v := .tuple #[.agg #[.slice none 0 0, .int .i64 0, .int .i64 0, .int .i64 0, .int .u64 0, .int .u64 0, .int .i64 0, .int .i64 0], .int .i64 114]) ?_ rfl ⟨⟨none, 0, ?_⟩, bel_row HBXA.out (Nat.le_succ _) _⟩
          · exact results_ln rfl _ _ (w.heap.size + 1) none 0 0 0 0 0 0 0 0 0 _ rfl rfl (HZA.out.row none 0 0 0 0 0 0 0 0 0)
          · have hy : yok k v = false := by rw [HY2.out]; rfl
            rw [hy]
            exact rfl
        · go_wp2_with fail
          refine (ke _ rfl).mono ?_
          rintro e w10 ⟨rfl, hw⟩
          rw [hw]
          clear hw w10 ke
          go_wp2_with fail
          refine (kf _ rfl).mono ?_
          rintro e w10 ⟨rfl, hw⟩
          rw [hw]
          clear hw w10 kf
          have d0 := HL9.out.lm.c0
          have d1 := HL9.out.lm.c1
          have d2 := HL9.out.lm.c2
          have d3 := HL9.out.lm.c3
          have d4 := HL9.out.lm.c4
          have d5 := HL9.out.lm.c5
          have d6 := HL9.out.lm.c6
          have d7 := HL9.out.lm.c7
          go_wp2_with (refine wpList_sln rfl rfl _ _ rfl (w.heap.size + 1) a4 kl kl S C N D E s n rfl rfl (by with_reducible exact HZ.out) ?_)
          have hy : yok k v = true := by rw [HY2.out]; rfl
          obtain ⟨t1, t2⟩ := HYL.out hy
          obtain ⟨s1, s2, s3, s4, s5, s6⟩ := HTW.out t2
          have e32 : kl = 32 := by rw [← HKL.out, HKB.out t1]; unfold yK; rw [List.length_drop]; omega
          refine bodyPost_ret (v := .tuple #[.agg #[.slice a4 kl kl, .int .i64 S, .int .i64 C, .int .i64 N, .int .u64 D, .int .u64 E, .int .i64 s, .int .i64 n], .int .i64 0]) ?_ rfl ⟨⟨a4, kl, ?_⟩, bel_row HBX9.out (Nat.le_succ _) _⟩
          · exact results_ln rfl _ _ (w.heap.size + 1) a4 kl kl S C N D E s n _ rfl rfl (HZ.out.row a4 kl kl S C N D E s n)
          · rw [hy, if_pos rfl, ← s1, ← s2, ← s3, ← s4, ← s5, ← s6, Hs.out, Hn.out, ← HKB.out t1]
            subst e32
            refine ⟨rfl, ?_⟩
            exact (HL9.out.vs.step fun x _ hV _ => setRow_other _ _ _ _ (by have := HWS.out; omega)).wide fun x _ hx => by have := HWS.out; omega
  · have L : Lg W ((((((((w4.setCell ⟨W.heap.size, 0, none⟩ (.slice a4 kl kl)).setCell ⟨W.heap.size, 1, none⟩ (.int .i64 S)).setCell ⟨W.heap.size, 2, none⟩ (.int .i64 C)).setCell ⟨W.heap.size, 3, none⟩ (.int .i64 N)).setCell ⟨W.heap.size, 4, none⟩ (.int .u64 D)).setCell ⟨W.heap.size, 5, none⟩ (.int .u64 E)).setCell ⟨W.heap.size, 6, none⟩ (.int .i64 s)).setCell ⟨W.heap.size, 7, none⟩ (.int .i64 n)) W.heap.size a4 kl KB S C N D E s n := by
      refine ⟨HL4.out.set8 a4 kl kl S C N D E s n, set8_bel HBX.out (Nat.le_refl _) _ _ _ _ _ _ _ _, ?_, (Nat.le_refl _)⟩
      exact (HLI.out.vs (V := fun x => W.heap.size ≤ x ∧ x ≠ W.heap.size) fun h => ⟨HG1.out (HTL.out h), by have h0 := HTL.out h; have h1 := HY1.out; simp at h1; omega⟩).step fun x hx hV _ => set8_other hV.2 _ _ _ _ _ _ _ _
    have HL := hid L
    generalize ((((((((w4.setCell ⟨W.heap.size, 0, none⟩ (.slice a4 kl kl)).setCell ⟨W.heap.size, 1, none⟩ (.int .i64 S)).setCell ⟨W.heap.size, 2, none⟩ (.int .i64 C)).setCell ⟨W.heap.size, 3, none⟩ (.int .i64 N)).setCell ⟨W.heap.size, 4, none⟩ (.int .u64 D)).setCell ⟨W.heap.size, 5, none⟩ (.int .u64 E)).setCell ⟨W.heap.size, 6, none⟩ (.int .i64 s)).setCell ⟨W.heap.size, 7, none⟩ (.int .i64 n)) = X at HL ⊢
    obtain ⟨G, HGe⟩ : ∃ G, Hid (W.heap.size = G) := ⟨_, rfl⟩
    replace HL : Hid (Lg W X G a4 kl KB S C N D E s n) := by rw [← HGe.out]; exact HL
    rw [HGe.out]
    clear L HL4 e0 e1 z0 f0 z1 f1 z2 f2 z3 f3 z4 f4 z5 f5 z6 f6 z7 f7 u0 u1 u2 u3 u4 u5 G2 G3 BW0 BW1 k1 k2 k3 R1 R2 HI1 HJ1 HB2 HS1 HR1 HG1 HY1 HLT2 HI2 HB3 HGE2 HRR HJ2 HNE HLT3 HBX HLI HLT4 HNW HM1
    have kp := putLane_ a4 kl kl KB S C N D E s n X HL.out.vs.bs (Nat.le_trans HL.out.vs.nc HL.out.vs.cm) HBD.out.1 HBD.out.2.1 HBD.out.2.2.1 HBD.out.2.2.2.1 HBD.out.2.2.2.2.1 HBD.out.2.2.2.2.2.1 HBD.out.2.2.2.2.2.2
    obtain ⟨b1, Hb1⟩ : ∃ x, Hid (lok kl S C N s n = x) := ⟨_, rfl⟩
    obtain ⟨RK, HRK⟩ : ∃ x, Hid (lRK KB S C N s n = x) := ⟨_, rfl⟩
    obtain ⟨RV, HRV⟩ : ∃ x, Hid (lRV KB S C N D E s n = x) := ⟨_, rfl⟩
    obtain ⟨RE, HRE⟩ : ∃ x, Hid (lRE KB S C N s n = x) := ⟨_, rfl⟩
    have HE1 : Hid (RE = if b1 then 0 else 114) := by show _ = _; rw [← HRE.out, ← Hb1.out]; unfold lRE; rw [HKL.out]
    have HY2 : Hid (yok k v = (b1 && sameB RK k && sameB RV v)) := by
      show _ = _
      rw [HY.out, Hb1.out]
      cases b1
      · rfl
      · have e1 : RK = lK KB := by rw [← HRK.out]; unfold lRK; rw [HKL.out, Hb1.out]; rfl
        have e2 : RV = lV S C N D E s n := by rw [← HRV.out]; unfold lRV; rw [HKL.out, Hb1.out]; rfl
        rw [e1, e2]
    rw [HRK.out, HRV.out, HRE.out] at kp
    have d0 := HL.out.lm.c0
    have d1 := HL.out.lm.c1
    have d2 := HL.out.lm.c2
    have d3 := HL.out.lm.c3
    have d4 := HL.out.lm.c4
    have d5 := HL.out.lm.c5
    have d6 := HL.out.lm.c6
    have d7 := HL.out.lm.c7
    go_wp2_with fail
    clear d0 d1 d2 d3 d4 d5 d6 d7
    refine kp.mono ?_
    rintro e w9 ⟨pa, pc, qa, qc, rfl, vk, vv, g9⟩
    obtain ⟨pk, Hpk⟩ : ∃ x : Nat, Hid (RK.length = x) := ⟨_, rfl⟩
    obtain ⟨pv, Hpv⟩ : ∃ x : Nat, Hid (RV.length = x) := ⟨_, rfl⟩
    rw [Hpk.out] at vk
    rw [Hpv.out] at vv
    rw [Hpk.out, Hpv.out]
    have B9 := bel_al w9 (.cells #[.slice pa pk pc, .slice qa pv qc] 27)
    have m9 := heap_alloc_new w9 (.cells #[.slice pa pk pc, .slice qa pv qc] 27)
    have HL9 := hid ((HL.out.on g9).on B9)
    have z0 := Bw.cell HL9.out.bw y0
    have z1 := Bw.cell HL9.out.bw y1
    have x0 := (two_cell m9).1
    have x1 := (two_cell m9).2
    have ke := fun wx (hx : wx = w9.alloc (.cells #[.slice pa pk pc, .slice qa pv qc] 27)) => beq_ pa ka pk pc kn kc RK k wx (by rw [hx]; exact vk.bs.below B9) (by rw [hx]; exact (HK.out.below HBA.out).below HL9.out.bw)
    have kf := fun wx (hx : wx = w9.alloc (.cells #[.slice pa pk pc, .slice qa pv qc] 27)) => beq_ qa va pv qc vn vc RV v wx (by rw [hx]; exact vv.bs.below B9) (by rw [hx]; exact (HV.out.below HBA.out).below HL9.out.bw)
    have HZ := hid (HM2.out.kept HL9.out.bw)
    have HBX9 := hid (bel_bel HBA.out HBA.out.size HL9.out.bw)
    have HZA := hid (HZ.out.kept (bel_al _ (.cells #[.slice none 0 0, .int .i64 0, .int .i64 0, .int .i64 0, .int .u64 0, .int .u64 0, .int .i64 0, .int .i64 0] 48)))
    have HBXA := hid (bel_bel HBX9.out HBX9.out.size (bel_al _ (.cells #[.slice none 0 0, .int .i64 0, .int .i64 0, .int .i64 0, .int .u64 0, .int .u64 0, .int .i64 0, .int .i64 0] 48)))
    clear vk vv g9 B9 m9 HL kp
    have e1 := HE1.out
    clear HE1 HRE HRK HRV Hb1
    cases b1
    · simp only [if_false, Bool.false_eq_true] at e1
      subst e1
      clear ke kf
      go_wp2_with (refine wpList_sln rfl rfl _ _ rfl (w.heap.size + 1) none 0 0 0 0 0 0 0 0 0 rfl rfl (by with_reducible exact HZA.out) ?_)
      refine bodyPost_ret (v := .tuple #[.agg #[.slice none 0 0, .int .i64 0, .int .i64 0, .int .i64 0, .int .u64 0, .int .u64 0, .int .i64 0, .int .i64 0], .int .i64 114]) ?_ rfl ⟨⟨none, 0, ?_⟩, bel_row HBXA.out (Nat.le_succ _) _⟩
      · exact results_ln rfl _ _ (w.heap.size + 1) none 0 0 0 0 0 0 0 0 0 _ rfl rfl (HZA.out.row none 0 0 0 0 0 0 0 0 0)
      · have hy : yok k v = false := by rw [HY2.out]; rfl
        rw [hy]
        exact rfl
    · simp only [if_true] at e1
      subst e1
      obtain ⟨q1, Hq1⟩ : ∃ x, Hid (sameB RK k = x) := ⟨_, rfl⟩
      obtain ⟨q2, Hq2⟩ : ∃ x, Hid (sameB RV v = x) := ⟨_, rfl⟩
      rw [Hq1.out] at ke HY2
      rw [Hq2.out] at kf HY2
      cases q1
      · go_wp2_with fail
        refine (ke _ rfl).mono ?_
        rintro e w10 ⟨rfl, hw⟩
        rw [hw]
        clear hw w10 ke kf
        go_wp2_with (refine wpList_sln rfl rfl _ _ rfl (w.heap.size + 1) none 0 0 0 0 0 0 0 0 0 rfl rfl (by with_reducible exact HZA.out) ?_)
        refine bodyPost_ret (v := .tuple #[.agg #[.slice none 0 0, .int .i64 0, .int .i64 0, .int .i64 0, .int .u64 0, .int .u64 0, .int .i64 0, .int .i64 0], .int .i64 114]) ?_ rfl ⟨⟨none, 0, ?_⟩, bel_row HBXA.out (Nat.le_succ _) _⟩
        · exact results_ln rfl _ _ (w.heap.size + 1) none 0 0 0 0 0 0 0 0 0 _ rfl rfl (HZA.out.row none 0 0 0 0 0 0 0 0 0)
        · have hy : yok k v = false := by rw [HY2.out]; rfl
          rw [hy]
          exact rfl
      · cases q2
        · go_wp2_with fail
          refine (ke _ rfl).mono ?_
          rintro e w10 ⟨rfl, hw⟩
          rw [hw]
          clear hw w10 ke
          go_wp2_with fail
          refine (kf _ rfl).mono ?_
          rintro e w10 ⟨rfl, hw⟩
          rw [hw]
          clear hw w10 kf
          go_wp2_with (refine wpList_sln rfl rfl _ _ rfl (w.heap.size + 1) none 0 0 0 0 0 0 0 0 0 rfl rfl (by with_reducible exact HZA.out) ?_)
          refine bodyPost_ret (v := .tuple #[.agg #[.slice none 0 0, .int .i64 0, .int .i64 0, .int .i64 0, .int .u64 0, .int .u64 0, .int .i64 0, .int .i64 0], .int .i64 114]) ?_ rfl ⟨⟨none, 0, ?_⟩, bel_row HBXA.out (Nat.le_succ _) _⟩
          · exact results_ln rfl _ _ (w.heap.size + 1) none 0 0 0 0 0 0 0 0 0 _ rfl rfl (HZA.out.row none 0 0 0 0 0 0 0 0 0)
          · have hy : yok k v = false := by rw [HY2.out]; rfl
            rw [hy]
            exact rfl
        · go_wp2_with fail
          refine (ke _ rfl).mono ?_
          rintro e w10 ⟨rfl, hw⟩
          rw [hw]
          clear hw w10 ke
          go_wp2_with fail
          refine (kf _ rfl).mono ?_
          rintro e w10 ⟨rfl, hw⟩
          rw [hw]
          clear hw w10 kf
          have d0 := HL9.out.lm.c0
          have d1 := HL9.out.lm.c1
          have d2 := HL9.out.lm.c2
          have d3 := HL9.out.lm.c3
          have d4 := HL9.out.lm.c4
          have d5 := HL9.out.lm.c5
          have d6 := HL9.out.lm.c6
          have d7 := HL9.out.lm.c7
          go_wp2_with (refine wpList_sln rfl rfl _ _ rfl (w.heap.size + 1) a4 kl kl S C N D E s n rfl rfl (by with_reducible exact HZ.out) ?_)
          have hy : yok k v = true := by rw [HY2.out]; rfl
          obtain ⟨t1, t2⟩ := HYL.out hy
          obtain ⟨s1, s2, s3, s4, s5, s6⟩ := HTW.out t2
          have e32 : kl = 32 := by rw [← HKL.out, HKB.out t1]; unfold yK; rw [List.length_drop]; omega
          refine bodyPost_ret (v := .tuple #[.agg #[.slice a4 kl kl, .int .i64 S, .int .i64 C, .int .i64 N, .int .u64 D, .int .u64 E, .int .i64 s, .int .i64 n], .int .i64 0]) ?_ rfl ⟨⟨a4, kl, ?_⟩, bel_row HBX9.out (Nat.le_succ _) _⟩
          · exact results_ln rfl _ _ (w.heap.size + 1) a4 kl kl S C N D E s n _ rfl rfl (HZ.out.row a4 kl kl S C N D E s n)
          · rw [hy, if_pos rfl, ← s1, ← s2, ← s3, ← s4, ← s5, ← s6, Hs.out, Hn.out, ← HKB.out t1]
            subst e32
            refine ⟨rfl, ?_⟩
            exact (HL9.out.vs.step fun x _ hV _ => setRow_other _ _ _ _ (by have := HWS.out; omega)).wide fun x _ hx => by have := HWS.out; omega
end Go.Proofs.Ytohfdkhlpghbcaa
