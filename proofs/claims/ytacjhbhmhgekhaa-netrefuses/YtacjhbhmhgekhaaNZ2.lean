import Derived.Test.YtacjhbhmhgekhaaNZ
namespace Go.Proofs.Ytacjhbhmhgekhaa
open Go.RowKit
set_option linter.unusedVariables false
set_option maxRecDepth 100000

section
variable {w0 w : World} {X V : Nat → Prop} {q : Nat} {N : Int} {sc : Bool} {tt no x at' : Int} {a : Option Addr} {n c : Nat} {d : List Int}
set_option maxHeartbeats 8000000 in
theorem plays2_ (h : Pq w0 w X q N) (hno : i64r no) :
    Calls Try.prog 11 #[.pointer (some ⟨q, 0, none⟩), .agg #[.int .i64 2, .bool sc, .int .i64 tt, .int .i64 no, .int .i64 x, .int .i64 at', .slice a n c]] w fun e w' => e = .returned (.bool true) ∧ Pstep w0 w w' X q (N + 1100) := by
  have HQ := hid h
  have hb := op_box w 2 sc tt no x at' a n c
  have HB := hid hb
  have HQ1 := hid (h.on hb)
  obtain ⟨p, r, rv, zs, lg, L, g, hp, hz, hg⟩ := HQ1.out.ex
  have HOM := hid (om_new w 2 sc tt no x at' a n c)
  obtain ⟨w1, HW1⟩ : ∃ z, Hid (w.alloc (.cells #[.int .i64 2, .bool sc, .int .i64 tt, .int .i64 no, .int .i64 x, .int .i64 at', .slice a n c] 28) = z) := ⟨_, rfl⟩
  have HSZ : Hid ((w.alloc (.cells #[.int .i64 2, .bool sc, .int .i64 tt, .int .i64 no, .int .i64 x, .int .i64 at', .slice a n c] 28)).heap.size = w.heap.size + 1) := by show _ = _; simp
  obtain ⟨vb, HVB⟩ : ∃ z, Hid (w.heap.size = z) := ⟨_, rfl⟩
  rw [HW1.out] at HB HQ1 hp HOM HSZ
  rw [HVB.out] at HOM
  obtain ⟨F, G, hF, hG, h3, h4, h5⟩ := hp.fg
  have HP := hid hp
  have HZ := hid hz
  have HG := hid hg
  have HF := hid hF
  have HGN := hid hG
  have H3 := hid h3
  have H4 := hid h4
  have H5 := hid h5
  have HVX : Hid (∀ k, (F k ∨ G k) → k ≠ vb) := fun k e q' => by
    have := h.lt k (h5 k e)
    have := HVB.out
    omega
  have hvl : vb < w1.heap.size := by have := HSZ.out; have := HVB.out; omega
  have hql := hp.blk.lt
  have b0 := hp.blk.c0
  have o3 := HOM.out.c3
  have HB1 := hid hp.blk
  obtain ⟨er, HER⟩ : ∃ z, Hid (erN L no = z) := ⟨_, rfl⟩
  obtain ⟨f, HFF⟩ : ∃ z, Hid ((fnd L no).getD fl0 = z) := ⟨_, rfl⟩
  obtain ⟨fno, fto, fd⟩ := f
  obtain ⟨m, HMM⟩ : ∃ z, Hid (fd.length = z) := ⟨_, rfl⟩
  have HML : Hid (m ≤ 65536) := by
    show _ ≤ _
    rw [← HMM.out]
    cases e : fnd L no with
    | none =>
      have h1 := HFF.out
      rw [e] at h1
      have h2 : fl0 = ⟨fno, fto, fd⟩ := h1
      injection h2 with _ _ h4
      rw [← h4]; simp
    | some y =>
      have h1 := HFF.out
      rw [e] at h1
      have h2 : y = ⟨fno, fto, fd⟩ := h1
      have := (HP.out.nok.byt y (List.mem_of_find?_eq_some e)).2.1
      rw [h2] at this
      exact this
  have HKT : Hid (∀ wx, Below w1.heap.size w1 wx → Calls Try.prog 23 #[.pointer (some ⟨p, 0, none⟩), .int .i64 no] wx fun e w2 => ∃ a1 c1 V1, e = .returned (.tuple #[.agg #[.int .i64 fno, .int .i64 fto, .slice a1 m c1], .int .i64 er]) ∧ Hid (Vs w2 V1 a1 m c1 fd ∧ (∀ j, V1 j → F j) ∧ Net w2 (fun j => F j ∧ ¬ V1 j) p (outL L no) g ∧ Fx F wx w2)) := by
    intro wx hb
    refine (take_ no hno (HF.out.on hb)).mono ?_
    rintro e w2 ⟨a1, c1, f1, er1, V1, rfl, ⟨e1, e2, hv⟩, hVF, h6, h7⟩
    rw [HFF.out] at e1
    rw [HER.out] at e2
    subst e1 e2
    have hm := HMM.out
    refine ⟨a1, c1, V1, by rw [← hm], by rw [← hm]; exact hv, hVF, h6, h7⟩
  have HRT : Hid (∀ w2 wx, RNet w2 G r L g → Below w2.heap.size w2 wx → Calls Try.prog 30 #[.pointer (some ⟨r, 0, none⟩), .int .i64 no] wx fun e w3 => ∃ a1 c1 V1, e = .returned (.tuple #[.agg #[.int .i64 fno, .int .i64 fto, .slice a1 m c1], .int .i64 er]) ∧ Hid (Vs w3 V1 a1 m c1 fd ∧ (∀ j, V1 j → G j) ∧ RNet w3 (Gr G wx w3) r (outL L no) g ∧ Fx G wx w3)) := by
    intro w2 wx hR hb
    refine (rtake_ no (hR.on hb)).mono ?_
    rintro e w3 ⟨a1, c1, f1, er1, V1, rfl, ⟨e1, e2, hv⟩, hVF, h6, h7⟩
    rw [HFF.out] at e1
    rw [HER.out] at e2
    subst e1 e2
    have hm := HMM.out
    refine ⟨a1, c1, V1, by rw [← hm], by rw [← hm]; exact hv, hVF, h6, h7⟩
  have HFL := hid hF.lt
  have HGL := hid hG.lt
  clear h hb hp hz hg hF hG h3 h4 h5
  have BW0 : Below w1.heap.size w1 w1.drew := below_drew w1
  have HBA : Hid (Below w1.heap.size w1 (w1.alloc (.cells #[.int .i64 0, .int .i64 0, .slice none 0 0] 49)).drew) := ((Below.refl _ _).alloc (Nat.le_refl _) _).trans ⟨rfl, rfl, rfl, Nat.le_refl _, fun _ _ => rfl⟩
  have BW1 := HBA.out
  have HFZ0 : Hid (Fm (w1.alloc (.cells #[.int .i64 0, .int .i64 0, .slice none 0 0] 49)).drew w1.heap.size 0 0 none 0 0) := Fm.new w1 0 0 none 0 0
  have HCL : Hid (∀ wx w2, Below w1.heap.size w1 wx → Fx F wx w2 → w2.cell? ⟨q, 0, none⟩ = some (.pointer (some ⟨p, 0, none⟩)) ∧ w2.cell? ⟨vb, 3, none⟩ = some (.int .i64 no)) := fun wx w2 hb hf =>
    ⟨(World.cell?_of_block (w := w1) (w' := w2) (a := ⟨q, 0, none⟩) ((hf.block q (Nat.lt_of_lt_of_le hql hb.size) (fun e => (H3.out q e).2.1 rfl)).trans (hb.block q hql))).trans b0, (World.cell?_of_block (w := w1) (w' := w2) (a := ⟨vb, 3, none⟩) ((hf.block vb (Nat.lt_of_lt_of_le hvl hb.size) (fun e => HVX.out vb (.inl e) rfl)).trans (hb.block vb hvl))).trans o3⟩
  have r0 := (HCL.out _ _ BW1 (Fx.refl _ _)).1
  have r3 := (HCL.out _ _ BW1 (Fx.refl _ _)).2
  go_enter Try.func11, Try.ntmps11
  go_upto_region 5 with fail
  rw [HW1.out, HVB.out]
  go_cut [5, 6] from 30 to 39 (fun v5 v6 wx => ∃ (ub : Nat) (a1 : Option Addr) (c1 : Nat) (V1 : Nat → Prop), v5 = .pointer (some ⟨ub, 0, none⟩) ∧ v6 = .int .i64 er ∧ Hid (Fm wx ub fno fto a1 m c1 ∧ Vs wx V1 a1 m c1 fd ∧ (∀ j, V1 j → F j) ∧ Net wx (fun j => F j ∧ ¬ V1 j) p (outL L no) g ∧ Fx F w1 wx ∧ w1.heap.size ≤ ub))
  case first =>
    go_region_held3 (fun wx => wx.cell? ⟨q, 0, none⟩ = some (.pointer (some ⟨p, 0, none⟩)) ∧ wx.cell? ⟨vb, 3, none⟩ = some (.int .i64 no)) (go_keep) (first
      | (go_at_call 23; refine (HKT.out _ BW0).mono ?_; rintro en y5 ⟨a1, c1, V1, rfl, HT1⟩; have i0 := (HCL.out _ _ BW0 HT1.out.2.2.2).1; have i3 := (HCL.out _ _ BW0 HT1.out.2.2.2).2)
      | (go_at_call 23; refine (HKT.out _ BW1).mono ?_; rintro en y5 ⟨a1, c1, V1, rfl, HT1⟩; have i0 := (HCL.out _ _ BW1 HT1.out.2.2.2).1; have i3 := (HCL.out _ _ BW1 HT1.out.2.2.2).2; have HFR : Hid (Fm y5 w1.heap.size 0 0 none 0 0) := (HT1.out.2.2.2.block _ (Array.getElem?_eq_some_iff.1 HFZ0.out).1 (fun e => by have := HFL.out _ e; omega)).trans HFZ0.out; have z0 := HFR.out.c0; have z1 := HFR.out.c1; have z2 := HFR.out.c2; have z3 := HFR.out.fz 0; have z4 := HFR.out.fz 1; have z5 := HFR.out.fz 2; have x0 := (World.cell?_of_block (w := y5) (a := ⟨q, 0, none⟩) (set3_other (w := y5) (g := w1.heap.size) (show q ≠ w1.heap.size by omega) (.int .i64 fno) (.int .i64 fto) (.slice a1 m c1))).trans i0; have x3 := (World.cell?_of_block (w := y5) (a := ⟨vb, 3, none⟩) (set3_other (w := y5) (g := w1.heap.size) (show vb ≠ w1.heap.size by omega) (.int .i64 fno) (.int .i64 fto) (.slice a1 m c1))).trans i3))
    · go_wp2_with fail
      go_meet
      have hbz : Below y5.heap.size y5 (y5.alloc (.cells #[.int .i64 fno, .int .i64 fto, .slice a1 m c1] 49)) := (Below.refl _ _).alloc (Nat.le_refl _) _
      exact ⟨y5.heap.size, a1, c1, V1, rfl, rfl, Fm.new y5 fno fto a1 m c1, HT1.out.1.step (fun k hk _ _ => hbz.block k hk), HT1.out.2.1, HT1.out.2.2.1.on hbz, (((Fx.refl F w1).drawn (drawnN w1 1)).trans HT1.out.2.2.2).trans (Fx.of _ hbz), Nat.le_trans BW0.size HT1.out.2.2.2.size⟩
    · go_wp2_with fail
      go_meet
      have hX : Fx (fun k => k = w1.heap.size) y5 (((y5.setCell ⟨w1.heap.size, 0, none⟩ (.int .i64 fno)).setCell ⟨w1.heap.size, 1, none⟩ (.int .i64 fto)).setCell ⟨w1.heap.size, 2, none⟩ (.slice a1 m c1)) := (((Fx.refl (fun k => k = w1.heap.size) y5).set (X := fun k => k = w1.heap.size) (g := w1.heap.size) (i := 0) rfl (.int .i64 fno)).set (X := fun k => k = w1.heap.size) (g := w1.heap.size) (i := 1) rfl (.int .i64 fto)).set (X := fun k => k = w1.heap.size) (g := w1.heap.size) (i := 2) rfl (.slice a1 m c1)
      have hf0 := (Fx.of F BW1).trans HT1.out.2.2.2
      refine ⟨w1.heap.size, a1, c1, V1, rfl, rfl, HFR.out.set3 fno fto a1 m c1, HT1.out.1.step (fun k hk e _ => hX.block k hk (fun q' => by have := HFL.out k (HT1.out.2.1 k e); omega)), HT1.out.2.1, HT1.out.2.2.1.fx hX (fun k e q' => by have := HFL.out k e.1; omega), ⟨hX.os.trans hf0.os, hX.tape.trans hf0.tape, hX.output.trans hf0.output, Nat.le_trans hf0.size hX.size, fun k hk hF => (hX.block k (Nat.lt_of_lt_of_le hk hf0.size) (fun q' => by omega)).trans (hf0.block k hk hF)⟩, Nat.le_refl _⟩
  obtain ⟨ub, a1, c1, V1, rfl, rfl, HA⟩ := hcut
  obtain ⟨wA, hwA⟩ : ∃ z, z = wc := ⟨_, rfl⟩
  subst hwA
  have HF2 : Hid (Fx F w1 wA) := HA.out.2.2.2.2.1
  have HG2 := hid (HGN.out.fx HF2.out fun k e q' => (H3.out k q').1 e)
  have hs2 := HF2.out.size
  have c1q : wA.cell? ⟨q, 1, none⟩ = some (.pointer (some ⟨r, 0, none⟩)) := (HB1.out.at (HF2.out.block q HB1.out.lt (fun e => (H3.out q e).2.1 rfl))).c1
  have c3q : wA.cell? ⟨vb, 3, none⟩ = some (.int .i64 no) := (HOM.out.at (HF2.out.block vb hvl (fun e => HVX.out vb (.inl e) rfl))).c3
  have hql2 : q < wA.heap.size := Nat.lt_of_lt_of_le hql hs2
  have hvl2 : vb < wA.heap.size := Nat.lt_of_lt_of_le hvl hs2
  have CW0 : Below wA.heap.size wA wA.drew := below_drew wA
  have CW1 : Below wA.heap.size wA (wA.alloc (.cells #[.int .i64 0, .int .i64 0, .slice none 0 0] 49)).drew := ((Below.refl _ _).alloc (Nat.le_refl _) _).trans ⟨rfl, rfl, rfl, Nat.le_refl _, fun _ _ => rfl⟩
  have HFZ1 : Hid (Fm (wA.alloc (.cells #[.int .i64 0, .int .i64 0, .slice none 0 0] 49)).drew wA.heap.size 0 0 none 0 0) := Fm.new wA 0 0 none 0 0
  have HCM : Hid (∀ wx w2, Below wA.heap.size wA wx → Fx G wx w2 → w2.cell? ⟨q, 1, none⟩ = some (.pointer (some ⟨r, 0, none⟩)) ∧ w2.cell? ⟨vb, 3, none⟩ = some (.int .i64 no)) := fun wx w2 hb hf =>
    ⟨(World.cell?_of_block (w := wA) (w' := w2) (a := ⟨q, 1, none⟩) ((hf.block q (Nat.lt_of_lt_of_le hql2 hb.size) (fun e => (H4.out q e).1 rfl)).trans (hb.block q hql2))).trans c1q, (World.cell?_of_block (w := wA) (w' := w2) (a := ⟨vb, 3, none⟩) ((hf.block vb (Nat.lt_of_lt_of_le hvl2 hb.size) (fun e => HVX.out vb (.inr e) rfl)).trans (hb.block vb hvl2))).trans c3q⟩
  have s1 := (HCM.out _ _ CW1 (Fx.refl _ _)).1
  have s3 := (HCM.out _ _ CW1 (Fx.refl _ _)).2
  have HKR := hid fun wx hb => HRT.out wA wx HG2.out hb
  clear b0 o3 r0 r3 BW0 BW1 HBA HFZ0 HCL HKT HRT
  go_upto_region 6 with fail
  go_cut [7, 8] from 40 to 49 (fun v5 v6 wx => ∃ (ud : Nat) (a2 : Option Addr) (c2 : Nat) (V2 G2 : Nat → Prop), v5 = .pointer (some ⟨ud, 0, none⟩) ∧ v6 = .int .i64 er ∧ Hid (Fm wx ud fno fto a2 m c2 ∧ Vs wx V2 a2 m c2 fd ∧ RNet wx G2 r (outL L no) g ∧ (∀ k, G2 k → (G k ∨ wA.heap.size ≤ k) ∧ k < wx.heap.size) ∧ Fx G wA wx))
  case first =>
    go_region_held3 (fun wx => wx.cell? ⟨q, 1, none⟩ = some (.pointer (some ⟨r, 0, none⟩)) ∧ wx.cell? ⟨vb, 3, none⟩ = some (.int .i64 no)) (go_keep) (first
      | (go_at_call 30; refine (HKR.out _ CW0).mono ?_; rintro en y5 ⟨a2, c2, V2, rfl, HT1⟩; have i0 := (HCM.out _ _ CW0 HT1.out.2.2.2).1; have i3 := (HCM.out _ _ CW0 HT1.out.2.2.2).2)
      | (go_at_call 30; refine (HKR.out _ CW1).mono ?_; rintro en y5 ⟨a2, c2, V2, rfl, HT1⟩; have i0 := (HCM.out _ _ CW1 HT1.out.2.2.2).1; have i3 := (HCM.out _ _ CW1 HT1.out.2.2.2).2; have HFR : Hid (Fm y5 wA.heap.size 0 0 none 0 0) := (HT1.out.2.2.2.block _ (Array.getElem?_eq_some_iff.1 HFZ1.out).1 (fun e => by have := HGL.out _ e; omega)).trans HFZ1.out; have z0 := HFR.out.c0; have z1 := HFR.out.c1; have z2 := HFR.out.c2; have z3 := HFR.out.fz 0; have z4 := HFR.out.fz 1; have z5 := HFR.out.fz 2; have x0 := (World.cell?_of_block (w := y5) (a := ⟨q, 1, none⟩) (set3_other (w := y5) (g := wA.heap.size) (show q ≠ wA.heap.size by omega) (.int .i64 fno) (.int .i64 fto) (.slice a2 m c2))).trans i0; have x3 := (World.cell?_of_block (w := y5) (a := ⟨vb, 3, none⟩) (set3_other (w := y5) (g := wA.heap.size) (show vb ≠ wA.heap.size by omega) (.int .i64 fno) (.int .i64 fto) (.slice a2 m c2))).trans i3))
    · go_wp2_with fail
      go_meet
      have hbz : Below y5.heap.size y5 (y5.alloc (.cells #[.int .i64 fno, .int .i64 fto, .slice a2 m c2] 49)) := (Below.refl _ _).alloc (Nat.le_refl _) _
      exact ⟨y5.heap.size, a2, c2, V2, _, rfl, rfl, Fm.new y5 fno fto a2 m c2, HT1.out.1.step (fun k hk _ _ => hbz.block k hk), HT1.out.2.2.1.on hbz, fun k e => ⟨e.1, Nat.lt_of_lt_of_le e.2 hbz.size⟩, (((Fx.refl G wA).drawn (drawnN wA 1)).trans HT1.out.2.2.2).trans (Fx.of _ hbz)⟩
    · go_wp2_with fail
      go_meet
      have hX : Fx (fun k => k = wA.heap.size) y5 (((y5.setCell ⟨wA.heap.size, 0, none⟩ (.int .i64 fno)).setCell ⟨wA.heap.size, 1, none⟩ (.int .i64 fto)).setCell ⟨wA.heap.size, 2, none⟩ (.slice a2 m c2)) := (((Fx.refl (fun k => k = wA.heap.size) y5).set (X := fun k => k = wA.heap.size) (g := wA.heap.size) (i := 0) rfl (.int .i64 fno)).set (X := fun k => k = wA.heap.size) (g := wA.heap.size) (i := 1) rfl (.int .i64 fto)).set (X := fun k => k = wA.heap.size) (g := wA.heap.size) (i := 2) rfl (.slice a2 m c2)
      have hf0 := (Fx.of G CW1).trans HT1.out.2.2.2
      have hs1 : wA.heap.size < (wA.alloc (.cells #[.int .i64 0, .int .i64 0, .slice none 0 0] 49)).drew.heap.size := (Array.getElem?_eq_some_iff.1 HFZ1.out).1
      refine ⟨wA.heap.size, a2, c2, V2, _, rfl, rfl, HFR.out.set3 fno fto a2 m c2, HT1.out.1.step (fun k hk e _ => hX.block k hk (fun q' => by have := HGL.out k (HT1.out.2.1 k e); omega)), HT1.out.2.2.1.fx hX (fun k e q' => e.1.elim (fun e => by have := HGL.out k e; omega) (fun e => by omega)), fun k e => ⟨e.1.imp id (Nat.le_trans CW1.size), Nat.lt_of_lt_of_le e.2 hX.size⟩, ⟨hX.os.trans hf0.os, hX.tape.trans hf0.tape, hX.output.trans hf0.output, Nat.le_trans hf0.size hX.size, fun k hk hF => (hX.block k (Nat.lt_of_lt_of_le hk hf0.size) (fun q' => by omega)).trans (hf0.block k hk hF)⟩⟩
  obtain ⟨ud, a2, c2, V2, G2, rfl, rfl, HR⟩ := hcut
  have hF3 : Fx G wA wc := HR.out.2.2.2.2
  have HFU : Hid (Fm wc ub fno fto a1 m c1) := (hF3.block ub (Array.getElem?_eq_some_iff.1 HA.out.1).1 (fun e => by have := HGL.out ub e; have := HA.out.2.2.2.2.2; omega)).trans HA.out.1
  have HVU : Hid (Vs wc V1 a1 m c1 fd) := HA.out.2.1.step fun k hk e _ => hF3.block k hk (fun q' => (H3.out k (HA.out.2.2.1 k e)).1 q')
  have HS : Hid (Pstep w0 w wc X q (N + 1100)) := by
    have := HP.out.two HFL.out HGL.out H3.out H4.out H5.out HF2.out (fun k e => ⟨.inl e.1, Nat.lt_of_lt_of_le (HFL.out k e.1) HF2.out.size⟩) HA.out.2.2.2.1 hF3 HR.out.2.2.2.1 HR.out.2.2.1
    exact Pstep.pre HQ.out HB.out (Pstep.mk HQ1.out this.1 this.2 HZ.out (by have := HG.out; omega))
  have k1 := sameFlight_ a1 a2 m c1 m c2 ⟨fno, fto, fd⟩ ⟨fno, fto, fd⟩ wc HVU.out.bs HR.out.2.1.bs (by have := HML.out; omega) (by have := HML.out; omega) (Q := true) (decide_eq_true rfl)
  have y0 := HFU.out.c0
  have y1 := HFU.out.c1
  have y2 := HFU.out.c2
  have z0 := HR.out.1.c0
  have z1 := HR.out.1.c1
  have z2 := HR.out.1.c2
  clear s1 s3 c1q c3q CW0 CW1 hF3
  go_wp2_with fail
  refine k1.mono ?_
  rintro e w5 ⟨rfl, g5⟩
  have HS5 := hid (HS.out.post g5)
  have kn := num_ er w5
  have hee : (er == er) = true := by simp
  clear k1 g5 y0 y1 y2 z0 z1 z2
  go_wp2_with (go_at_call 16; refine kn.mono ?_; rintro e wz ⟨rfl, hwz⟩; subst hwz)
  go_ret
  exact ⟨rfl, HS5.out⟩
end
end Go.Proofs.Ytacjhbhmhgekhaa
