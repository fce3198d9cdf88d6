import Derived.Test.YtacjhbhmhgekhaaNZ
namespace Go.Proofs.Ytacjhbhmhgekhaa
open Go.RowKit
set_option linter.unusedVariables false
set_option maxRecDepth 100000

section
variable {w0 w : World} {X V : Nat → Prop} {q : Nat} {N : Int} {sc : Bool} {tt no x at' : Int} {a : Option Addr} {n c : Nat} {d : List Int}
set_option maxHeartbeats 4000000 in
theorem plays4_ (h : Pq w0 w X q N) (hN : N ≤ 900000000) (hno : i64r no) :
    Calls Try.prog 11 #[.pointer (some ⟨q, 0, none⟩), .agg #[.int .i64 4, .bool sc, .int .i64 tt, .int .i64 no, .int .i64 x, .int .i64 at', .slice a n c]] w fun e w' => e = .returned (.bool true) ∧ Pstep w0 w w' X q (N + 1100) := by
  have HQ := hid h
  have hb := op_box w 4 sc tt no x at' a n c
  have HB := hid hb
  have HQ1 := hid (h.on hb)
  obtain ⟨p, r, rv, zs, lg, L, g, hp, hz, hg⟩ := HQ1.out.ex
  have HOM := hid (om_new w 4 sc tt no x at' a n c)
  obtain ⟨w1, HW1⟩ : ∃ z, Hid (w.alloc (.cells #[.int .i64 4, .bool sc, .int .i64 tt, .int .i64 no, .int .i64 x, .int .i64 at', .slice a n c] 28) = z) := ⟨_, rfl⟩
  have HSZ : Hid ((w.alloc (.cells #[.int .i64 4, .bool sc, .int .i64 tt, .int .i64 no, .int .i64 x, .int .i64 at', .slice a n c] 28)).heap.size = w.heap.size + 1) := by show _ = _; simp
  obtain ⟨vb, HVB⟩ : ∃ z, Hid (w.heap.size = z) := ⟨_, rfl⟩
  rw [HW1.out] at HB HQ1 hp HOM HSZ
  rw [HVB.out] at HOM
  obtain ⟨F, G, hF, hG, h3, h4, h5⟩ := hp.fg
  have HP := hid hp
  have HZ := hid hz
  have HG := hid hg
  have HF := hid hF
  have HGN := hid hG
  have H3 := hid h3
  have H4 := hid h4
  have H5 := hid h5
  have HVX : Hid (∀ k, (F k ∨ G k) → k ≠ vb) := fun k e q' => by
    have := h.lt k (h5 k e)
    have := HVB.out
    omega
  have hvl : vb < w1.heap.size := by have := HSZ.out; have := HVB.out; omega
  have b0 := hp.blk.c0
  have b3 := hp.blk.c3
  have o3 := HOM.out.c3
  have o4 := HOM.out.c4
  have o5 := HOM.out.c5
  have HB1 := hid hp.blk
  have HK1 := hid fun nq => copy_ (w := w1.drewN nq) no hno (HF.out.on (drawnN w1 nq).below) (by have := HG.out; omega)
  clear h hb hp hz hg hF hG h3 h4 h5
  cases lg
  case true =>
    have HS : Hid (Pstep w0 w w1 X q (N + 1100)) := (Pstep.of HQ.out HB.out).more (by omega)
    go_enter Try.func11, Try.ntmps11
    go_upto_region 14 with fail
    rw [HW1.out, HVB.out]
    go_wp2_with fail
    go_ret
    exact ⟨rfl, HS.out⟩
  case false =>
  go_enter Try.func11, Try.ntmps11
  go_upto_region 14 with fail
  rw [HW1.out, HVB.out]
  go_wp2_with fail
  go_region_with (go_at_call 15; refine (HK1.out 1).mono ?_; rintro e w2 ⟨rfl, n2, f2⟩; have N2 := hid n2; have F2 := hid f2; clear n2 f2)
  all_goals
    have HF2 : Hid (Fx F w1 w2) := ((Fx.refl F w1).drawn (drawnN w1 1)).trans F2.out
    have y1 : w2.cell? ⟨q, 1, none⟩ = some (.pointer (some ⟨r, 0, none⟩)) := (HB1.out.at (HF2.out.block q HB1.out.lt (fun e => (H3.out q e).2.1 rfl))).c1
    have HO2 := hid (HOM.out.at (HF2.out.block vb hvl (fun e => HVX.out vb (.inl e) rfl)))
    have y3 := HO2.out.c3
    have y4 := HO2.out.c4
    have y5 := HO2.out.c5
    have HG2 := hid (HGN.out.fx HF2.out fun k e q' => (H3.out k q').1 e)
    have HK2 := hid fun nq => rcopy_ (w := w2.drewN nq) no (HG2.out.on (drawnN w2 nq).below) (by have := HG.out; omega)
    clear b0 b3 o3 o4 o5
    go_wp2_with fail
    go_region_with (go_at_call 32; refine (HK2.out 1).mono ?_; rintro e w3 ⟨rfl, n3, f3⟩; have N3 := hid n3; have F3 := hid f3; clear n3 f3)
    all_goals
      have HS : Hid (Pstep w0 w w3 X q (N + 1100)) := by
        have hF3 : Fx G w2 w3 := ((Fx.refl G w2).drawn (drawnN w2 1)).trans F3.out
        have := HP.out.two HF.out.lt HGN.out.lt H3.out H4.out H5.out HF2.out (fun k e => gr_sub (Nat.le_refl _) e) N2.out hF3 (fun k e => gr_sub (Nat.le_refl _) e) N3.out
        exact Pstep.pre HQ.out HB.out (Pstep.mk HQ1.out this.1 this.2 HZ.out (by have := HG.out; unfold cpyG sndG; repeat' split; all_goals omega))
      clear y1 y3 y4 y5 HK2 HF2 N2 F2 N3 F3 HG2 HO2
      have kn := num_ (erN L no) w3
      have hee : (erN L no == erN L no) = true := by simp
      have hea : (cpyA L g no == cpyA L g no) = true := by simp
      go_wp2_with (go_at_call 16; refine kn.mono ?_; rintro e wz ⟨rfl, hwz⟩; subst hwz)
      go_ret
      exact ⟨rfl, HS.out⟩
end
end Go.Proofs.Ytacjhbhmhgekhaa
