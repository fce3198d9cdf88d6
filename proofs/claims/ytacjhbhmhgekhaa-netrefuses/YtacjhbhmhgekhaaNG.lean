import Derived.Test.YtacjhbhmhgekhaaNF
import Derived.Deep.RegionWith
namespace Go.Proofs.Ytacjhbhmhgekhaa
open Go.RowKit
set_option linter.unusedVariables false
set_option maxRecDepth 100000

section
variable {w : World} {F : Nat → Prop} {r : Nat} {L : List Fl} {g : Int}
/-- The flight at a place, as it lies in the document's row. -/
theorem RNet.row_at (h : RNet w F r L g) {i : Nat} (hi : i < L.length) : ∃ b m c da dc, w.cell? ⟨r, 0, none⟩ = some (.slice (some ⟨b, 0, none⟩) m c) ∧ m = L.length ∧ r < w.heap.size ∧ b < w.heap.size ∧ w.cell? ⟨b, i * 3, none⟩ = some (.int .i64 (L.getD i fl0).no) ∧ w.cell? ⟨b, i * 3 + 1, none⟩ = some (.int .i64 (L.getD i fl0).to) ∧ w.cell? ⟨b, i * 3 + 2, none⟩ = some (.slice da (L.getD i fl0).d.length dc) ∧ Vs w (fun x => F x ∧ x ≠ r) da (L.getD i fl0).d.length dc (L.getD i fl0).d := by
  obtain ⟨v, ds, rfl, h⟩ := h
  rw [List.length_map] at hi
  obtain ⟨av, cv, hv, hf1, hf2, hf3, hf4⟩ := h.form
  have c0 := h.blk.c0
  subst hv
  rcases hf4 with ⟨_, h0⟩ | ⟨b, rfl, hbl, hc⟩
  · omega
  have e : (ds.map (·.f)).getD i fl0 = ds[i].f := by simp [List.getD, hi]
  have h3 := fds_at hc hi
  rw [e]
  exact ⟨b, ds.length, cv, ds[i].a, ds[i].c, c0, by simp, h.blk.lt, hbl, h3.1, h3.2.1, h3.2.2, Vs.wide (h.val ds[i] (List.getElem_mem hi)) fun x _ q => ⟨q.1, q.2.1⟩⟩
set_option maxHeartbeats 4000000 in
theorem rtake_ (k : Int) (h : RNet w F r L g) :
    Calls Try.prog 30 #[.pointer (some ⟨r, 0, none⟩), .int .i64 k] w fun e w' => ∃ a c f er V, e = .returned (.tuple #[.agg #[.int .i64 f.no, .int .i64 f.to, .slice a f.d.length c], .int .i64 er]) ∧ TkV L k w' a c f er V ∧ (∀ x, V x → F x) ∧ RNet w' (Gr F w w') r (outL L k) g ∧ Fx F w w' := by
  have hB1 : Below w.heap.size w (w.alloc (.cells #[.int .i64 0, .int .i64 0, .slice none 0 0] 49)) := (Below.refl w.heap.size w).alloc (Nat.le_refl _) _
  have H1 := hid (h.on hB1)
  have HLT := hid h.lt
  have HB1 := hid hB1
  have HFM := hid (Fm.new w 0 0 none 0 0)
  have hz : (w.alloc (.cells #[.int .i64 0, .int .i64 0, .slice none 0 0] 49)).heap.size = w.heap.size + 1 := by simp
  have HZ := hid hz
  have k1 := rplace_ k H1.out
  clear h hB1 hz
  go_enter Try.func30, Try.ntmps30
  go_wp2_with fail
  refine k1.mono ?_
  rintro e w1 ⟨q, rfl, hp, hw⟩
  subst hw
  clear k1
  rcases hp with ⟨hf, rfl⟩ | ⟨i, hi, hno, hf, rfl⟩
  · have HF := hid hf
    clear hf
    go_wp2_with fail
    refine bodyPost_ret (v := .tuple #[.agg #[.int .i64 0, .int .i64 0, .slice none 0 0], .int .i64 218]) ?_ rfl ?_
    · exact results_fl (v := w.heap.size) rfl _ _ _ rfl rfl HFM.out
    · exact ⟨none, 0, fl0, 218, fun _ => False, rfl, ⟨by rw [HF.out]; rfl, by unfold erN; rw [HF.out]; rfl, vs_none _ _⟩, fun x e => e.elim, by rw [outL_none HF.out]; exact H1.out.gr HLT.out HB1.out.size, Fx.of _ HB1.out⟩
  · obtain ⟨b, m, c, da, dc, c0, hm, hlt, hbl, d0, d1, d2, hvs⟩ := H1.out.row_at hi
    have hcnt := H1.out.ok.cnt
    have HI := hid hi
    have HNO := hid hno
    have HF := hid hf
    have HVS := hid hvs
    have hiI : (i : Int) < m := by omega
    have hi0 : ¬ (i : Int) < 0 := by omega
    obtain ⟨f, HFF⟩ : ∃ f, Hid (L.getD i fl0 = f) := ⟨_, rfl⟩
    rw [HFF.out] at d0 d1 d2 HVS HF
    obtain ⟨n, HN⟩ : ∃ n, Hid (f.d.length = n) := ⟨_, rfl⟩
    rw [HN.out] at d2 HVS
    obtain ⟨no, to, d⟩ := f
    simp only at d0 d1 HVS HN
    obtain ⟨w1, HW1⟩ : ∃ z, Hid (w.alloc (.cells #[.int .i64 0, .int .i64 0, .slice none 0 0] 49) = z) := ⟨_, rfl⟩
    rw [HW1.out] at H1 HB1 HFM HZ HVS c0 hlt hbl d0 d1 d2 ⊢
    have HB2 : Hid (Below w1.heap.size w1 (w1.alloc (.cells #[.int .i64 no, .int .i64 to, .slice da n dc] 49))) := (Below.refl _ _).alloc (Nat.le_refl _) _
    have HV2 := hid (Fm.new w1 no to da n dc)
    have k2 := rout_ i k (H1.out.on HB2.out) HI.out HNO.out
    clear hvs hf hno hi hm
    go_wp2_with fail
    refine k2.mono ?_
    rintro e w3 ⟨rfl, h3, f3, g3⟩
    have HR3 := hid h3
    have HF3 := hid f3
    have HG3 := hid g3
    obtain ⟨vb, HVB⟩ : ∃ z, Hid (w1.heap.size = z) := ⟨_, rfl⟩
    obtain ⟨rb, HRB⟩ : ∃ z, Hid (w.heap.size = z) := ⟨_, rfl⟩
    have hne : rb ≠ vb := by have := HZ.out; have := HVB.out; have := HRB.out; omega
    have HFV3 : Hid (Fm w3 vb no to da n dc) := by
      rw [← HVB.out]
      exact (HF3.out.block _ (by simp) (fun e => by have := HLT.out _ e; have := HB1.out.size; omega)).trans HV2.out
    have HFR3 : Hid (Fm w3 rb 0 0 none 0 0) := by
      rw [← HRB.out]
      have hr1 : w.heap.size < w1.heap.size := by have := HZ.out; omega
      exact (HF3.out.block _ (Nat.lt_of_lt_of_le hr1 HB2.out.size) (fun e => by have := HLT.out _ e; omega)).trans ((HB2.out.block _ hr1).trans HFM.out)
    have x0 := HFV3.out.c0
    have x1 := HFV3.out.c1
    have x2 := HFV3.out.c2
    have y0 := HFR3.out.c0
    have y1 := HFR3.out.c1
    have y2 := HFR3.out.c2
    have z0 := HFR3.out.fz 0
    have z1 := HFR3.out.fz 1
    have z2 := HFR3.out.fz 2
    rw [HVB.out, HRB.out]
    clear k2 h3 f3 g3 c0 d0 d1 d2 hlt hbl
    go_wp2_with fail
    have hS := HFR3.out.set3 no to da n dc
    refine bodyPost_ret (v := .tuple #[.agg #[.int .i64 no, .int .i64 to, .slice da n dc], .int .i64 0]) ?_ rfl ?_
    · exact results_fl (v := rb) rfl _ _ _ rfl rfl hS
    · have hrb := HRB.out
      have hz0 := HZ.out
      have hs2 := HB2.out.size
      have hs3 := HF3.out.size
      have hB : Fx F w (((w3.setCell ⟨rb, 0, none⟩ (.int .i64 no)).setCell ⟨rb, 1, none⟩ (.int .i64 to)).setCell ⟨rb, 2, none⟩ (.slice da n dc)) := by
        refine ⟨HF3.out.os.trans (HB2.out.os.trans HB1.out.os), HF3.out.tape.trans (HB2.out.tape.trans HB1.out.tape), HF3.out.output.trans (HB2.out.output.trans HB1.out.output), by simp [World.setCell]; omega, fun x hx hF => ?_⟩
        rw [set3_other (by omega)]
        exact (HF3.out.block x (by omega) hF).trans ((HB2.out.block x (by omega)).trans (HB1.out.block x hx))
      have hX : Fx (fun x => x = rb) w3 (((w3.setCell ⟨rb, 0, none⟩ (.int .i64 no)).setCell ⟨rb, 1, none⟩ (.int .i64 to)).setCell ⟨rb, 2, none⟩ (.slice da n dc)) := (((Fx.refl (fun x => x = rb) w3).set (X := fun x => x = rb) (g := rb) (i := 0) rfl (.int .i64 no)).set (X := fun x => x = rb) (g := rb) (i := 1) rfl (.int .i64 to)).set (X := fun x => x = rb) (g := rb) (i := 2) rfl (.slice da n dc)
      refine ⟨da, dc, ⟨no, to, d⟩, 0, fun x => F x ∧ x ≠ r, by rw [← HN.out], ⟨by rw [HF.out]; rfl, by unfold erN; rw [HF.out]; rfl, ?_⟩, fun x e => e.1, ?_, hB⟩
      · show Vs _ _ da d.length dc d
        rw [HN.out]
        have q1 := HVS.out.step (w' := w1.alloc (.cells #[.int .i64 no, .int .i64 to, .slice da n dc] 49)) fun x hx _ _ => HB2.out.block x hx
        have q2 := q1.step (w' := w3) fun x hx hV _ => HG3.out x hV.1 hV.2
        exact q2.step fun x hx hV _ => set3_other (w := w3) (g := rb) (by have := HLT.out x hV.1; omega) (.int .i64 no) (.int .i64 to) (.slice da n dc)
      · refine RNet.wide (HR3.out.fx hX (fun x e q => ?_)) (fun x e => ⟨?_, ?_⟩) (fun x e => e.2)
        · rcases e.1 with e | e
          · have := HLT.out x e; omega
          · have : w1.heap.size < (w1.alloc (.cells #[.int .i64 no, .int .i64 to, .slice da n dc] 49)).heap.size := by simp
            omega
        · rcases e.1 with e | e
          · exact .inl e
          · right; omega
        · have := e.2; simp [World.setCell]; omega
set_option maxHeartbeats 4000000 in
theorem rdrop_ (k : Int) (h : RNet w F r L g) :
    Calls Try.prog 31 #[.pointer (some ⟨r, 0, none⟩), .int .i64 k] w fun e w' => e = .returned (.int .i64 (erN L k)) ∧ RNet w' (Gr F w w') r (outL L k) g ∧ Fx F w w' := by
  have H1 := hid h
  have k1 := rplace_ k H1.out
  clear h
  go_enter Try.func31, Try.ntmps31
  go_wp2_with fail
  refine k1.mono ?_
  rintro e w1 ⟨q, rfl, hp, hw⟩
  subst hw
  clear k1
  rcases hp with ⟨hf, rfl⟩ | ⟨i, hi, hno, hf, rfl⟩
  · have e1 : erN L k = 218 := by unfold erN; rw [hf]; rfl
    have E1 := hid e1
    have HF := hid hf
    clear hf e1
    go_wp2_with fail
    go_ret
    exact ⟨by rw [E1.out]; rfl, by rw [outL_none HF.out]; exact H1.out.gr H1.out.lt (Nat.le_refl _), Fx.refl _ _⟩
  · have e1 : erN L k = 0 := by unfold erN; rw [hf]; rfl
    have hi0 : ¬ (i : Int) < 0 := by omega
    have k2 := rout_ i k H1.out hi hno
    have E1 := hid e1
    clear hf e1
    go_wp2_with fail
    refine k2.mono ?_
    rintro e w3 ⟨rfl, h3, f3, g3⟩
    have H3 := hid h3
    have F3 := hid f3
    clear k2 h3 f3 g3
    go_wp2_with fail
    go_ret
    exact ⟨by rw [E1.out]; rfl, H3.out, F3.out⟩
set_option maxHeartbeats 4000000 in
theorem rcopy_ (k : Int) (h : RNet w F r L g) (hg : g ≤ 1000000000) :
    Calls Try.prog 32 #[.pointer (some ⟨r, 0, none⟩), .int .i64 k] w fun e w' => e = .returned (.tuple #[.int .i64 (cpyA L g k), .int .i64 (erN L k)]) ∧ RNet w' (Gr F w w') r (cpyL L g k) (cpyG L g k) ∧ Fx F w w' := by
  have H1 := hid h
  have k1 := rplace_ k H1.out
  clear h
  go_enter Try.func32, Try.ntmps32
  go_wp2_with fail
  refine k1.mono ?_
  rintro e w1 ⟨q, rfl, hp, hw⟩
  subst hw
  clear k1
  rcases hp with ⟨hf, rfl⟩ | ⟨i, hi, hno, hf, rfl⟩
  · have e1 : cpyA L g k = 0 := by unfold cpyA; rw [hf]; rfl
    have e2 : cpyL L g k = L := by unfold cpyL; rw [hf]
    have e3 : cpyG L g k = g := by unfold cpyG; rw [hf]; rfl
    have e4 : erN L k = 218 := by unfold erN; rw [hf]; rfl
    have E1 : Hid (cpyA L g k = 0 ∧ cpyL L g k = L ∧ cpyG L g k = g ∧ erN L k = 218) := ⟨e1, e2, e3, e4⟩
    clear hf e1 e2 e3 e4
    go_wp2_with fail
    go_ret2
    rw [E1.out.1, E1.out.2.1, E1.out.2.2.1, E1.out.2.2.2]
    exact ⟨rfl, H1.out.gr H1.out.lt (Nat.le_refl _), Fx.refl _ _⟩
  · have e1 : cpyA L g k = sndA L g := by unfold cpyA; rw [hf]; rfl
    have e2 : cpyL L g k = sndL L g (L.getD i fl0).to (L.getD i fl0).d := by unfold cpyL; rw [hf]
    have e3 : cpyG L g k = sndG L g := by unfold cpyG; rw [hf]; rfl
    have e4 : erN L k = 0 := by unfold erN; rw [hf]; rfl
    have E1 : Hid (cpyA L g k = sndA L g ∧ cpyL L g k = sndL L g (L.getD i fl0).to (L.getD i fl0).d ∧ cpyG L g k = sndG L g ∧ erN L k = 0) := ⟨e1, e2, e3, e4⟩
    obtain ⟨b, m, c, da, dc, c0, hm, hlt, hbl, d0, d1, d2, hvs⟩ := H1.out.row_at hi
    have hcnt := H1.out.ok.cnt
    have hok := H1.out.ok.byt (L.getD i fl0) (getD_mem hi)
    have hiI : (i : Int) < m := by omega
    have hi0 : ¬ (i : Int) < 0 := by omega
    obtain ⟨f, HFF⟩ : ∃ f, Hid (L.getD i fl0 = f) := ⟨_, rfl⟩
    rw [HFF.out] at d1 d2 hvs hok E1
    obtain ⟨n, HN⟩ : ∃ n, Hid (f.d.length = n) := ⟨_, rfl⟩
    rw [HN.out] at d2 hvs hok
    obtain ⟨no, to, d⟩ := f
    simp only at d1 hvs hok E1
    have HK := hid fun nq => rsend_ (w := w1.drewN nq) to da n dc d (H1.out.on (drawnN w1 nq).below) (hvs.bs.drawn (drawnN w1 nq)) (fun ad e hn => (hvs.lies ad e hn).2) hok.2.1 hok.2.2 hg
    clear hf e1 e2 e3 e4 hvs hok hm d0 hno hi hbl
    go_wp2_with fail
    go_region_with (go_at_call 39; refine (HK.out 1).mono ?_; rintro e w4 ⟨rfl, h4, f4⟩; have H4 := hid h4; have F4 := hid f4; clear h4 f4)
    all_goals
      clear HK c0 d1 d2
      go_wp2_with fail
      go_ret2
      rw [E1.out.1, E1.out.2.1, E1.out.2.2.1, E1.out.2.2.2]
      exact ⟨rfl, H4.out, ((Fx.refl F w1).drawn (drawnN w1 1)).trans F4.out⟩
end
end Go.Proofs.Ytacjhbhmhgekhaa
