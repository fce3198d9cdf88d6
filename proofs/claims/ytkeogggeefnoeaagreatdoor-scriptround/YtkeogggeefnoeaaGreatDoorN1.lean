import Derived.Test.YtkeogggeefnoeaaGreatDoorM14
namespace Go.Proofs.YtkeogggeefnoeaaGreatDoor
set_option linter.unusedSimpArgs false
open Go.RowKit
set_option linter.unusedVariables false
set_option maxRecDepth 100000

/-! Writing: a step. Written by genM15.py out of M8. -/
/-- What a call that writes a line leaves. -/
def Pl (Kk : Nat → Obj → Prop) (w0 : World) (g : Nat) (T : List Nat) (r : R (List (List Nat))) (e : Ending) (w' : World) : Prop :=
  match r with
  | .ok ws => e = .returned (.int .i64 0) ∧ Pg Kk w0 w' g (T ++ (jsp ws ++ [10]))
  | .error x => e = .returned (.int .i64 (x : Nat)) ∧ x ≠ 0 ∧ Below w0.heap.size w0 w'
section
variable {Kk : Nat → Obj → Prop} {w0 w : World} {g : Nat} {T : List Nat} {V : Nat → Prop}
set_option maxHeartbeats 4000000 in
theorem step_ (h : Pg Kk w0 w g T) (hq : Tq w0) (x : OD) (hx : InO x.o) (hv : Vo w0 V x) (hl : Bo x.o) :
    Calls Tryz.prog 18 #[.pointer (some ⟨g, 0, none⟩), odv x] w fun e w' => Pl Kk w0 g T (stpW x.o) e w' := by
  have HP0 := hid h
  have HC := hid (Ov.new w x)
  have HB := hid ((Below.refl w.heap.size w).alloc (Nat.le_refl _) (.cells #[.int .i64 x.o.kd, .int .i64 x.o.a, .int .i64 x.o.k, .int .i64 x.o.t, .int .i64 x.o.x, .int .i64 x.o.lk, .slice x.da x.o.d.length x.dp, .int .i64 x.o.sec, .int .i64 x.o.nano, .int .i64 x.o.bl, .int .i64 x.o.wi, .slice x.ca x.o.ch.length x.cp, .slice x.fa x.o.fl.length x.fp, .slice x.ka x.o.kp.length x.kp] 53))
  have HP := hid (h.on HB.out)
  obtain ⟨w1, HW1⟩ : ∃ z, Hid (w.alloc (.cells #[.int .i64 x.o.kd, .int .i64 x.o.a, .int .i64 x.o.k, .int .i64 x.o.t, .int .i64 x.o.x, .int .i64 x.o.lk, .slice x.da x.o.d.length x.dp, .int .i64 x.o.sec, .int .i64 x.o.nano, .int .i64 x.o.bl, .int .i64 x.o.wi, .slice x.ca x.o.ch.length x.cp, .slice x.fa x.o.fl.length x.fp, .slice x.ka x.o.kp.length x.kp] 53) = z) := ⟨_, rfl⟩
  obtain ⟨cg, HCG⟩ : ∃ z, Hid (w.heap.size = z) := ⟨_, rfl⟩
  rw [HW1.out] at HC HB HP
  rw [HCG.out] at HC
  have v0 := HC.out.c 0
  simp only [odc, List.getElem?_cons_zero] at v0
  obtain ⟨kd, HKD⟩ : ∃ z, Hid (x.o.kd = z) := ⟨_, rfl⟩
  have HX := hid hx
  have HVX := hid hv
  have HL := hid hl
  have HQ := hid hq
  unfold odv
  rw [HKD.out] at v0 HW1 ⊢
  clear h hx hv hl hq
  by_cases hk : 1 ≤ kd ∧ kd ≤ 14
  · obtain ⟨k, rfl⟩ : ∃ k : Nat, kd = (k : Int) := ⟨kd.toNat, by omega⟩
    have hk6 : k < 15 := by omega
    have h1 : ¬ (k : Int) < 1 := by omega
    have h2 : ¬ (15 : Int) ≤ (k : Int) := by omega
    have h3 : (k : Int) < 15 := by omega
    have HTQ := hid (HQ.out.kept HP.out.bel)
    obtain ⟨t1, t2⟩ := HTQ.out.stAt hk6
    have HK5 : Hid (k ≠ 0 ∧ k ≤ 14) := ⟨by omega, by omega⟩
    obtain ⟨nm, HNM⟩ : ∃ z, Hid ((sNm.getD k ([], [])).1 = z) := ⟨_, rfl⟩
    obtain ⟨fs, HFS⟩ : ∃ z, Hid ((sNm.getD k ([], [])).2 = z) := ⟨_, rfl⟩
    rw [HNM.out] at t1
    rw [HFS.out] at t2
    have hr : stpW x.o = if sSpr x.o fs then .error 228 else match catR (sTx x.o) fs with
        | .error e => .error e
        | .ok ws => .ok (nm :: ws) := by
      unfold stpW sFm
      rw [HKD.out, if_pos hk, Int.toNat_natCast, HNM.out, HFS.out]
      split
      · rfl
      · cases catR (sTx x.o) fs <;> rfl
    have HFL : Hid (∀ f ∈ fs, sLet f) := by
      rw [← HFS.out]
      exact (sFm_let HK5.out.1 HK5.out.2).2
    obtain ⟨r, HR⟩ : ∃ z, Hid (stpW x.o = z) := ⟨_, rfl⟩
    rw [HR.out] at hr ⊢
    have HRE := hid hr
    have v1 := HC.out.c 1
    have v2 := HC.out.c 2
    have v3 := HC.out.c 3
    have v4 := HC.out.c 4
    have v5 := HC.out.c 5
    have v6 := HC.out.c 6
    have v7 := HC.out.c 7
    have v8 := HC.out.c 8
    have v9 := HC.out.c 9
    have v10 := HC.out.c 10
    have v11 := HC.out.c 11
    have v12 := HC.out.c 12
    have v13 := HC.out.c 13
    simp only [odc, List.getElem?_cons_succ, List.getElem?_cons_zero] at v1 v2 v3 v4 v5 v6 v7 v8 v9 v10 v11 v12 v13
    clear hr hk hk6
    go_enter Tryz.func18, Tryz.ntmps18
    go_upto_region 1 with fail
    rw [HW1.out, HCG.out]
    have HF2 : Hid (Fo (w1.alloc (.cells #[.string (sb nm), .string (sb fs)] 77)) w1.heap.size nm fs) := heap_alloc_new w1 _
    have HB2 : Hid (Below w1.heap.size w1 (w1.alloc (.cells #[.string (sb nm), .string (sb fs)] 77))) := (Below.refl _ _).alloc (Nat.le_refl _) _
    have HP2 := hid (HP.out.on HB2.out)
    have HC2 := hid (HC.out.on HB2.out)
    go_upto_region 4 with fail
    obtain ⟨w2, HW2⟩ : ∃ z, Hid (w1.alloc (.cells #[.string (sb nm), .string (sb fs)] 77) = z) := ⟨_, rfl⟩
    obtain ⟨fg, HFG⟩ : ∃ z, Hid (w1.heap.size = z) := ⟨_, rfl⟩
    rw [HW2.out] at HF2 HB2 HP2 HC2 ⊢
    rw [HFG.out] at HF2 ⊢
    have u0 := HC2.out.c 0
    have u1 := HC2.out.c 1
    have u2 := HC2.out.c 2
    have u3 := HC2.out.c 3
    have u4 := HC2.out.c 4
    have u5 := HC2.out.c 5
    have u6 := HC2.out.c 6
    have u7 := HC2.out.c 7
    have u8 := HC2.out.c 8
    have u9 := HC2.out.c 9
    have u10 := HC2.out.c 10
    have u11 := HC2.out.c 11
    have u12 := HC2.out.c 12
    have u13 := HC2.out.c 13
    simp only [odc, List.getElem?_cons_succ, List.getElem?_cons_zero, HKD.out] at u0 u1 u2 u3 u4 u5 u6 u7 u8 u9 u10 u11 u12 u13
    have n0 := HF2.out.c0
    have n1 := HF2.out.c1
    have hfs : ∀ y ∈ fs, y < 256 := fun y hy => by
      have := HFL.out y hy
      unfold sLet at this
      omega
    have hnm : (∀ y ∈ nm, y < 256) ∧ nm.length ≤ 10 := by
      rw [← HNM.out]
      rcases (show k = 1 ∨ k = 2 ∨ k = 3 ∨ k = 4 ∨ k = 5 ∨ k = 6 ∨ k = 7 ∨ k = 8 ∨ k = 9 ∨ k = 10 ∨ k = 11 ∨ k = 12 ∨ k = 13 ∨ k = 14 by have := HK5.out; omega) with rfl | rfl | rfl | rfl | rfl | rfl | rfl | rfl | rfl | rfl | rfl | rfl | rfl | rfl <;> exact ⟨by decide, by decide⟩
    have HCG1 : Hid (cg < w1.heap.size) := (Array.getElem?_eq_some_iff.1 HC.out).1
    have HGL : Hid (g < cg) := by
      have e := (show Pg Kk w0 w g T from HP0.out).lt
      show g < cg
      rw [← HCG.out]; exact e
    have HP3 : Hid (Pg (Km (Km Kk cg (.cells #[.int .i64 x.o.kd, .int .i64 x.o.a, .int .i64 x.o.k, .int .i64 x.o.t, .int .i64 x.o.x, .int .i64 x.o.lk, .slice x.da x.o.d.length x.dp, .int .i64 x.o.sec, .int .i64 x.o.nano, .int .i64 x.o.bl, .int .i64 x.o.wi, .slice x.ca x.o.ch.length x.cp, .slice x.fa x.o.fl.length x.fp, .slice x.ka x.o.kp.length x.kp] 53)) fg (.cells #[.string (sb nm), .string (sb fs)] 77)) w0 w2 g T) := (HP2.out.more HC2.out (by have := HGL.out; omega) (fun vs e => by simp at e)).more HF2.out (by have := HGL.out; have := HCG1.out; have := HFG.out; omega) (fun vs e => by simp at e)
    obtain ⟨K2, HK2⟩ : ∃ z, Hid (Km (Km Kk cg (.cells #[.int .i64 x.o.kd, .int .i64 x.o.a, .int .i64 x.o.k, .int .i64 x.o.t, .int .i64 x.o.x, .int .i64 x.o.lk, .slice x.da x.o.d.length x.dp, .int .i64 x.o.sec, .int .i64 x.o.nano, .int .i64 x.o.bl, .int .i64 x.o.wi, .slice x.ca x.o.ch.length x.cp, .slice x.fa x.o.fl.length x.fp, .slice x.ka x.o.kp.length x.kp] 53)) fg (.cells #[.string (sb nm), .string (sb fs)] 77) = z) := ⟨_, rfl⟩
    rw [HK2.out] at HP3
    have HKC : Hid (∀ wx T', Pg K2 w0 wx g T' → Ov wx cg x) := by
      show ∀ wx T', _
      rw [← HK2.out]
      exact fun wx T' h => h.less.get
    have HKF : Hid (∀ wx T', Pg K2 w0 wx g T' → Fo wx fg nm fs) := by
      show ∀ wx T', _
      rw [← HK2.out]
      exact fun wx T' h => h.get
    have HKL : Hid (∀ wx T', Pg K2 w0 wx g T' → Pg Kk w0 wx g T') := by
      show ∀ wx T', _
      rw [← HK2.out]
      exact fun wx T' h => h.less.less
    have HSP := hid (stepSpare_ x fs hfs w2)
    have HAD : Hid (∀ wx, Below w2.heap.size w2 wx → Calls Tryz.prog 16 #[.pointer (some ⟨g, 0, none⟩), .string (sb nm)] wx fun e w' => e = .returned (.tuple #[]) ∧ Pg K2 w0 w' g (T ++ nm)) := fun wx hb => add_ (HP3.out.on hb) nm hnm.1 (by have := hnm.2; unfold maxLen; omega)
    have HCF : Hid (∀ K3 wx T' f, Pg K3 w0 wx g T' → sLet f → Calls Tryz.prog 28 #[.pointer (some ⟨g, 0, none⟩), odv x, .int .i32 (f : Int)] wx fun e w' => Pw K3 w0 g T' (sTx x.o f) e w') := fun K3 wx T' f h hf => stepField_ h HQ.out x HX.out HVX.out HL.out f hf
    have k1 := HSP.out
    unfold odv at k1 HCF
    rw [HKD.out] at k1 HCF
    have HNL := hid (next_low fs hfs)
    have HNE := hid (next_end fs)
    have HF128 : Hid (∀ j, j < fs.length → sLet (fs.getD j 0) ∧ fs.getD j 0 < 128) := fun j hj => by
      have e : sLet (fs.getD j 0) := HFL.out _ (by simp [List.getD, hj])
      refine ⟨e, ?_⟩
      unfold sLet at e
      omega
    clear v0 v1 v2 v3 v4 v5 v6 v7 v8 v9 v10 v11 v12 v13 t1 t2 hfs hnm
    cases hs : sSpr x.o fs
    · rw [hs] at k1
      have HRE2 : Hid (r = match catR (sTx x.o) fs with
        | .error e => .error e
        | .ok ws => .ok (nm :: ws)) := by
        show r = _
        rw [HRE.out, hs]
        rfl
      clear hs
      go_wp2_with fail
      refine k1.mono ?_
      rintro e w3 ⟨rfl, g3⟩
      have HP4 := hid (HP3.out.on g3)
      have k2 := HAD.out w3 g3
      have m0 := (HKF.out _ _ HP4.out).c0
      clear k1 g3 u0 u1 u2 u3 u4 u5 u6 u7 u8 u9 u10 u11 u12 u13 n0 n1
      go_wp2_with fail
      refine k2.mono ?_
      rintro e w4 ⟨rfl, g4⟩
      have HP5 := hid g4
      have m1 := (HKF.out _ _ g4).c1
      clear k2 g4 m0
      go_wp2_with fail
      obtain ⟨ig, HIG⟩ : ∃ z, Hid (w4.heap.size = z) := ⟨_, rfl⟩
      obtain ⟨Sx, HS⟩ : ∃ z, Hid (sb fs = z) := ⟨_, rfl⟩
      rw [HS.out] at HNL HNE m1 ⊢
      have HI0 : Hid (It (w4.iter Sx 0) w4.heap.size Sx 0) := heap_alloc_new w4 _
      have HP6 : Hid (Pg K2 w0 (w4.iter Sx 0) g (T ++ nm)) := (HP5.out.on ((Below.refl w4.heap.size w4).alloc (Nat.le_refl _) (.stringIter Sx 0)))
      have HKI : Hid (∀ j b, K2 j b → j ≠ ig) := fun j b hj e => by
        have := (Array.getElem?_eq_some_iff.1 (HP5.out.kp j b hj).1).1
        have := HIG.out
        omega
      have HLO : Hid (w0.heap.size ≤ ig ∧ g < ig) := by
        have e1 := HP5.out.lt
        have e2 := HP5.out.lo
        have := HIG.out
        exact ⟨by omega, by omega⟩
      rw [HIG.out] at HI0 ⊢
      generalize w4.iter Sx 0 = w5 at *
      clear m1
      obtain ⟨q, HQF⟩ : ∃ z, Hid (fs.length = z) := ⟨_, rfl⟩
      go_loopw [7, 8] (fun u u' wr => ∃ j : Nat, j ≤ q ∧ ∃ ws, Hid (catR (sTx x.o) (fs.take j) = .ok ws) ∧ Hid (It wr ig Sx j) ∧ Hid (Pg K2 w0 wr g (T ++ nm ++ spw ws))) (fun u u' wr => q - wr.iterPos ig)
      case atStart => exact ⟨0, by omega, [], rfl, HI0, by show Pg _ _ _ _ _; simpa [spw] using HP6.out⟩
      case round =>
        obtain ⟨j, hj, ws, HA, HI, HV⟩ := hrel
        by_cases hlt : j < q
        · have hlf : j < fs.length := by rw [HQF.out]; exact hlt
          obtain ⟨f, HF⟩ : ∃ z, Hid (fs.getD j 0 = z) := ⟨_, rfl⟩
          have HFL2 := hid (HF128.out j hlf)
          have hnx := HNL.out j hlf wr _ HI.out HFL2.out.2
          rw [HF.out] at hnx HFL2
          have hit2 : It (wr.iterAt ig Sx (j + 1)) ig Sx (j + 1) := Lib.iterAt_heap wr _ Sx j (j + 1) HI.out
          have HV2 := hid (HV.out.iter HI.out HLO.out.1 HKI.out (j + 1))
          have HP1 := hid HI.out.pos
          have HI2 := hid hit2
          have HCT := hid (catR_take fs j ws hlf HA.out)
          have hgd : fs[j] = f := by rw [← HF.out]; simp [List.getD, hlf]
          rw [hgd] at HCT
          generalize wr.iterAt ig Sx (j + 1) = w6 at *
          have HV3 := hid (HV2.out.more HI2.out (by have := HLO.out.2; omega) (fun vs e => by simp at e))
          have k2 := HCF.out _ w6 _ f HV3.out HFL2.out.1
          have HCV := hid (HKC.out _ _ HV2.out)
          have u0 := HCV.out.c 0
          have u1 := HCV.out.c 1
          have u2 := HCV.out.c 2
          have u3 := HCV.out.c 3
          have u4 := HCV.out.c 4
          have u5 := HCV.out.c 5
          have u6 := HCV.out.c 6
          have u7 := HCV.out.c 7
          have u8 := HCV.out.c 8
          have u9 := HCV.out.c 9
          have u10 := HCV.out.c 10
          have u11 := HCV.out.c 11
          have u12 := HCV.out.c 12
          have u13 := HCV.out.c 13
          simp only [odc, List.getElem?_cons_succ, List.getElem?_cons_zero, HKD.out] at u0 u1 u2 u3 u4 u5 u6 u7 u8 u9 u10 u11 u12 u13
          obtain ⟨r2, HR2⟩ : ∃ z, Hid (sTx x.o f = z) := ⟨_, rfl⟩
          rw [HR2.out] at k2 HCT
          clear hit2 HI HV HV2 hgd hlf
          go_wp2_with fail
          refine k2.mono ?_
          intro e w7 h7
          cases r2 with
          | ok y =>
            obtain ⟨rfl, h7⟩ := h7
            have HI4 := hid h7.get
            have HV4 := hid h7.less
            clear k2 h7 u0 u1 u2 u3 u4 u5 u6 u7 u8 u9 u10 u11 u12 u13 hnx
            go_wp2_with fail
            go_roundw
            case rel => exact ⟨j + 1, by omega, ws ++ y, HCT.out.1 y rfl, HI4, by show Pg _ _ _ _ _; rw [spw_app, ← List.append_assoc]; exact HV4.out⟩
            case measure => rw [(show It w7 ig Sx (j + 1) from HI4.out).pos, HP1.out]; omega
          | error y =>
            obtain ⟨rfl, hy, h7⟩ := h7
            have H7 := hid h7
            have HY := hid hy
            have h1 : ¬ (y : Int) = 0 := by omega
            have h2 : ((y : Int) == 0) = false := by simp [hy]
            have hr2 : r = .error y := by rw [HRE2.out, HCT.out.2 y rfl]
            have HRR := hid hr2
            clear k2 h7 hr2 u0 u1 u2 u3 u4 u5 u6 u7 u8 u9 u10 u11 u12 u13 hnx
            go_wp2_with fail
            go_ret
            show Pl _ _ _ _ _ _ _
            rw [HRR.out]
            exact ⟨rfl, HY.out, H7.out⟩
        · obtain rfl : j = q := by omega
          have hq := HQF.out
          have hie : It wr ig Sx fs.length := by rw [hq]; exact HI.out
          have hnx := HNE.out wr _ hie
          have hca : catR (sTx x.o) fs = .ok ws := by
            have := HA.out
            rw [← hq, List.take_length] at this
            exact this
          have HRR : Hid (r = .ok (nm :: ws)) := by show r = _; rw [HRE2.out, hca]
          have k2 := add_ HV.out [10] (by decide) (by decide)
          rw [show sb [10] = ⟨#[10]⟩ from rfl] at k2
          clear hq hie hca HA HI
          go_wp2_with fail
          refine k2.mono ?_
          rintro e w9 ⟨rfl, h9⟩
          have H9 := hid h9
          clear k2 h9
          go_wp2_with fail
          go_ret
          show Pl _ _ _ _ _ _ _
          rw [HRR.out]
          exact ⟨rfl, by rw [show jsp (nm :: ws) = nm ++ spw ws from rfl, ← List.append_assoc, ← List.append_assoc]; exact HKL.out _ _ H9.out⟩
    · rw [hs] at k1
      have HRR : Hid (r = .error 228) := by show r = _; rw [HRE.out, hs]; rfl
      clear hs
      go_wp2_with fail
      refine k1.mono ?_
      rintro e w3 ⟨rfl, g3⟩
      have HP4 := hid (HP2.out.on g3)
      clear k1 g3 u0 u1 u2 u3 u4 u5 u6 u7 u8 u9 u10 u11 u12 u13 n0 n1
      go_wp2_with fail
      go_ret
      show Pl _ _ _ _ _ _ _
      rw [HRR.out]
      exact ⟨rfl, by decide, HP4.out.bel⟩
  · have hr : stpW x.o = .error 222 := by unfold stpW; rw [HKD.out, if_neg hk]
    rw [hr]
    have h2 : kd < 1 ∨ (¬ kd < 1 ∧ (15 : Int) ≤ kd) := by omega
    clear hr hk
    rcases h2 with h2 | ⟨h2, h3⟩
    all_goals
      go_enter Tryz.func18, Tryz.ntmps18
      go_upto_region 1 with fail
      rw [HW1.out, HCG.out]
      go_wp2_with fail
      go_ret
      exact ⟨rfl, by decide, HP.out.bel⟩
end
end Go.Proofs.YtkeogggeefnoeaaGreatDoor
namespace Go.Proofs.YtkeogggeefnoeaaGreatDoor
set_option linter.unusedSimpArgs false
open Go.RowKit
set_option linter.unusedVariables false
set_option maxRecDepth 100000

/-! Printing a script. Written by genM16.py. -/
theorem lnT_snoc (l : List (List (List Nat))) (y : List (List Nat)) : lnT (l ++ [y]) = lnT l ++ (jsp y ++ [10]) := by simp [lnT]
theorem Pg.new2 {w w1 : World} (hb : Below w.heap.size w w1) : Pg K0 w (w1.alloc (.cells #[.slice none 0 0] 42)) w1.heap.size [] :=
  ⟨⟨_, heap_alloc_new w1 _, rfl, .inl ⟨rfl, rfl⟩⟩, hb.size, hb.alloc hb.size _, by simp, fun _ _ h => h.elim⟩
theorem scrW_end {sec : Int} {l : List Opp} {n : List (List Nat)} {ls : List (List (List Nat))} (h1 : nTx sec = .ok n) (h2 : l.length ≤ 2000) (h : mapR stpW l = .ok ls) : scrW ⟨sec, l⟩ = if 1048576 < (lnT ((cul :: n) :: ls)).length then .error 221 else .ok (lnT ((cul :: n) :: ls)) := by
  unfold scrW
  simp only [h1, h, if_neg (show ¬ 2000 < l.length by omega)]
theorem scrW_err {sec : Int} {l : List Opp} {n : List (List Nat)} {x : Nat} (h1 : nTx sec = .ok n) (h2 : l.length ≤ 2000) (h : mapR stpW l = .error x) : scrW ⟨sec, l⟩ = .error x := by
  unfold scrW
  simp only [h1, h, if_neg (show ¬ 2000 < l.length by omega)]
section
variable {w : World} {V : Nat → Prop}
set_option maxHeartbeats 8000000 in
theorem scrPrint_ (hq : Tq w) {sec : Int} (hs : InI sec) {a : Option Addr} {n p : Nat} {l : List Opp} (hl : Ops w V a n l) (hin : ∀ x ∈ l, InO x ∧ Bo x) (hn : n ≤ 140737488355328) :
    Calls Tryz.prog 8 #[.agg #[.int .i64 sec, .slice a n p]] w fun e w' => e = .returned (TxV (scrW ⟨sec, l⟩)) ∧ Below w.heap.size w w' ∧ Bt (scrW ⟨sec, l⟩) := by
  have HQ := hid hq
  have HIN := hid hin
  obtain ⟨os, hcs, hln, hrow, hvs⟩ := hl
  have HCS := hid hcs
  have HLN := hid hln
  have HROW := hid hrow
  have HVS := hid hvs
  have HS := hid hs
  have HN : Hid (l.length = n) := by show _ = _; rw [← hcs, List.length_map]; exact hln
  obtain ⟨r, HR⟩ : ∃ z, Hid (scrW ⟨sec, l⟩ = z) := ⟨_, rfl⟩
  rw [HR.out]
  have HB1 : Hid (Below w.heap.size w (w.alloc (.cells #[.int .i64 sec, .slice a n p] 24))) := (Below.refl _ _).alloc (Nat.le_refl _) _
  have HS1 : Hid ((w.alloc (.cells #[.int .i64 sec, .slice a n p] 24)).heap[w.heap.size]? = some (.cells #[.int .i64 sec, .slice a n p] 24)) := heap_alloc_new w _
  clear hq hcs hln hrow hvs hin hs
  go_enter Tryz.func8, Tryz.ntmps8
  go_upto_region 1 with fail
  obtain ⟨sg, HSG⟩ : ∃ z, Hid (w.heap.size = z) := ⟨_, rfl⟩
  generalize w.alloc (.cells #[.int .i64 sec, .slice a n p] 24) = w1 at *
  rw [HSG.out] at HS1 ⊢
  have HSL : Hid (sg < w1.heap.size) := (Array.getElem?_eq_some_iff.1 HS1.out).1
  have HP1 := hid (Pg.new2 (by have := HB1.out; exact this))
  have HS2 : Hid ((w1.alloc (.cells #[.slice none 0 0] 42)).heap[sg]? = some (.cells #[.int .i64 sec, .slice a n p] 24)) := (((Below.refl w1.heap.size w1).alloc (Nat.le_refl _) (.cells #[.slice none 0 0] 42)).block sg HSL.out).trans HS1.out
  go_upto_region 2 with fail
  obtain ⟨g, HG⟩ : ∃ z, Hid (w1.heap.size = z) := ⟨_, rfl⟩
  generalize w1.alloc (.cells #[.slice none 0 0] 42) = w2 at *
  rw [HG.out] at HP1 ⊢
  have HP2 := hid (HP1.out.more HS2.out (by have := HSL.out; have := HG.out; omega) (fun vs e => by simp at e))
  obtain ⟨K, HK⟩ : ∃ z, Hid (Km K0 sg (.cells #[.int .i64 sec, .slice a n p] 24) = z) := ⟨_, rfl⟩
  rw [HK.out] at HP2
  have HKS : Hid (∀ wx T', Pg K w wx g T' → wx.heap[sg]? = some (.cells #[.int .i64 sec, .slice a n p] 24)) := by
    show ∀ wx T', _
    rw [← HK.out]
    exact fun wx T' h => h.get
  have k1 := add_ HP2.out [99, 117, 108, 118, 101, 114, 116] (by decide) (by decide)
  rw [show sb [99, 117, 108, 118, 101, 114, 116] = ⟨#[99, 117, 108, 118, 101, 114, 116]⟩ from rfl] at k1
  go_wp2_with fail
  refine k1.mono ?_
  rintro e w3 ⟨rfl, h3⟩
  have H3 := hid h3
  have s0 : w3.cell? ⟨sg, 0, none⟩ = some (.int .i64 sec) := (cell_of_row _ _ 0 _ _ (0, 0) (HKS.out _ _ h3)).trans rfl
  have k2 := number_ h3 HQ.out.tb sec HS.out
  obtain ⟨r1, HR1⟩ : ∃ z, Hid (nTx sec = z) := ⟨_, rfl⟩
  rw [HR1.out] at k2
  clear k1 h3
  go_wp2_with fail
  refine k2.mono ?_
  intro e w4 h4
  cases r1 with
  | error y =>
    obtain ⟨rfl, hy, h4⟩ := h4
    have H4 := hid h4
    have q4 : ¬ (y : Int) = 0 := by omega
    have q5 : ((y : Int) == 0) = false := by simp [hy]
    have HRR : Hid (r = .error y) := by
      show r = _
      rw [← HR.out]
      unfold scrW
      simp only [HR1.out]
    clear k2 h4 s0
    go_wp2_with fail
    go_ret2
    exact ⟨by rw [HRR.out]; rfl, H4.out, by rw [HRR.out]; exact Bt.no _⟩
  | ok nn =>
    obtain ⟨rfl, h4⟩ := h4
    have k3 := add_ h4 [10] (by decide) (by decide)
    rw [show sb [10] = ⟨#[10]⟩ from rfl] at k3
    clear k2 h4 s0
    go_wp2_with fail
    refine k3.mono ?_
    rintro e w5 ⟨rfl, h5⟩
    have H5 : Hid (Pg K w w5 g (lnT [cul :: nn])) := by
      show Pg _ _ _ _ _
      have e : lnT [cul :: nn] = [] ++ [99, 117, 108, 118, 101, 114, 116] ++ spw nn ++ [10] := by simp [lnT, jsp, spw, cul]
      rw [e]
      exact h5
    have s1 : w5.cell? ⟨sg, 1, none⟩ = some (.slice a n p) := (cell_of_row _ _ 1 _ _ (0, 0) (HKS.out _ _ h5)).trans rfl
    clear k3 h5
    by_cases hm : 2000 < n
    · have hmI : (2000 : Int) < n := by omega
      have HRR : Hid (r = .error 221) := by
        show r = _
        rw [← HR.out]
        unfold scrW
        simp only [HR1.out, HN.out, if_pos hm]
      go_wp2_with fail
      go_ret2
      exact ⟨by rw [HRR.out]; rfl, H5.out.bel, by rw [HRR.out]; exact Bt.no _⟩
    · have hmI : ¬ (2000 : Int) < n := by omega
      have HM : Hid (l.length ≤ 2000) := by show _ ≤ _; rw [HN.out]; omega
      go_wp2_with fail
      clear s1 hmI
      go_loopw [24] (fun i wr => ∃ j : Nat, j ≤ n ∧ i = .int .i64 j ∧ ∃ ls, Hid (mapR stpW (l.take j) = .ok ls) ∧ Hid (Pg K w wr g (lnT ((cul :: nn) :: ls)))) (fun i wr => n - (intOf i).toNat)
      case atStart => exact ⟨0, by omega, rfl, [], rfl, H5⟩
      case round =>
        obtain ⟨j, hj, rfl, ls, HA, HV⟩ := hrel
        by_cases hlt : j < n
        · have hjI : (j : Int) < n := by omega
          have hst := HROW.out.step (w' := wr) (fun k hk _ => HV.out.bel.block k hk) HV.out.bel.size
          obtain ⟨b, off, rfl, hc⟩ := hst.at hlt
          have hlf : j < l.length := by rw [HN.out]; exact hlt
          have hlc : j < os.length := by rw [HLN.out]; exact hlt
          obtain ⟨x, HX⟩ : ∃ z, Hid (os.getD j od0 = z) := ⟨_, rfl⟩
          have hxm : x ∈ os := by rw [← HX.out]; simp [List.getD, hlc]
          have hgd : l[j] = x.o := by
            have e1 : l[j]? = (os.map (·.o))[j]? := by rw [HCS.out]
            rw [List.getElem?_eq_getElem hlf, List.getElem?_map, List.getElem?_eq_getElem hlc] at e1
            have e2 : os[j] = x := by rw [← HX.out]; simp [List.getD, hlc]
            rw [e2] at e1
            exact Option.some.inj e1
          have HCT := hid (mapR_take (f := stpW) l j ls hlf HA.out)
          rw [hgd] at HCT
          have HII : Hid (InO x.o ∧ Bo x.o) := by
            have := HIN.out l[j] (List.getElem_mem hlf)
            rw [hgd] at this
            exact this
          have HVX := hid (HVS.out x hxm)
          have hcx : ∀ i v, (odc x)[i]? = some v → wr.cell? ⟨b, off + j * 14 + i, none⟩ = some v := by
            have := hc
            simp only [HX.out] at this
            exact this
          have c0 := hcx 0 (.int .i64 x.o.kd) rfl
          have c1 := hcx 1 (.int .i64 x.o.a) rfl
          have c2 := hcx 2 (.int .i64 x.o.k) rfl
          have c3 := hcx 3 (.int .i64 x.o.t) rfl
          have c4 := hcx 4 (.int .i64 x.o.x) rfl
          have c5 := hcx 5 (.int .i64 x.o.lk) rfl
          have c6 := hcx 6 (.slice x.da x.o.d.length x.dp) rfl
          have c7 := hcx 7 (.int .i64 x.o.sec) rfl
          have c8 := hcx 8 (.int .i64 x.o.nano) rfl
          have c9 := hcx 9 (.int .i64 x.o.bl) rfl
          have c10 := hcx 10 (.int .i64 x.o.wi) rfl
          have c11 := hcx 11 (.slice x.ca x.o.ch.length x.cp) rfl
          have c12 := hcx 12 (.slice x.fa x.o.fl.length x.fp) rfl
          have c13 := hcx 13 (.slice x.ka x.o.kp.length x.kp) rfl
          simp only [Nat.add_zero] at c0
          have HC2 := hid (Ov.new wr x)
          have HB2 : Hid (Below wr.heap.size wr (wr.alloc (.cells #[.int .i64 x.o.kd, .int .i64 x.o.a, .int .i64 x.o.k, .int .i64 x.o.t, .int .i64 x.o.x, .int .i64 x.o.lk, .slice x.da x.o.d.length x.dp, .int .i64 x.o.sec, .int .i64 x.o.nano, .int .i64 x.o.bl, .int .i64 x.o.wi, .slice x.ca x.o.ch.length x.cp, .slice x.fa x.o.fl.length x.fp, .slice x.ka x.o.kp.length x.kp] 53))) := (Below.refl _ _).alloc (Nat.le_refl _) _
          have HV2 := hid (HV.out.on HB2.out)
          have HGL := hid HV.out.lt
          clear hc hcx hst hgd hlf hlc hxm
          go_upto_region 12 with fail
          obtain ⟨bg, HBG⟩ : ∃ z, Hid (wr.heap.size = z) := ⟨_, rfl⟩
          generalize wr.alloc (.cells #[.int .i64 x.o.kd, .int .i64 x.o.a, .int .i64 x.o.k, .int .i64 x.o.t, .int .i64 x.o.x, .int .i64 x.o.lk, .slice x.da x.o.d.length x.dp, .int .i64 x.o.sec, .int .i64 x.o.nano, .int .i64 x.o.bl, .int .i64 x.o.wi, .slice x.ca x.o.ch.length x.cp, .slice x.fa x.o.fl.length x.fp, .slice x.ka x.o.kp.length x.kp] 53) = w6 at *
          rw [HBG.out] at HC2 HB2 ⊢
          have HV3 := hid (HV2.out.more HC2.out (by have := HGL.out; have := HBG.out; omega) (fun vs e => by simp at e))
          have k1 := step_ HV3.out HQ.out x HII.out.1 HVX.out HII.out.2
          obtain ⟨r2, HR2⟩ : ∃ z, Hid (stpW x.o = z) := ⟨_, rfl⟩
          rw [HR2.out] at k1 HCT
          unfold odv at k1
          have u0 := HC2.out.c 0
          have u1 := HC2.out.c 1
          have u2 := HC2.out.c 2
          have u3 := HC2.out.c 3
          have u4 := HC2.out.c 4
          have u5 := HC2.out.c 5
          have u6 := HC2.out.c 6
          have u7 := HC2.out.c 7
          have u8 := HC2.out.c 8
          have u9 := HC2.out.c 9
          have u10 := HC2.out.c 10
          have u11 := HC2.out.c 11
          have u12 := HC2.out.c 12
          have u13 := HC2.out.c 13
          simp only [odc, List.getElem?_cons_succ, List.getElem?_cons_zero] at u0 u1 u2 u3 u4 u5 u6 u7 u8 u9 u10 u11 u12 u13
          clear c0 c1 c2 c3 c4 c5 c6 c7 c8 c9 c10 c11 c12 c13
          go_wp2_with fail
          refine k1.mono ?_
          intro e w8 h8
          cases r2 with
          | ok y =>
            obtain ⟨rfl, h8⟩ := h8
            have H8 := hid h8.less
            clear k1 h8 u0 u1 u2 u3 u4 u5 u6 u7 u8 u9 u10 u11 u12 u13
            go_wp2_with fail
            go_roundw
            case rel => exact ⟨j + 1, by omega, by go_num, ls ++ [y], HCT.out.2.1 y rfl, by show Pg _ _ _ _ _; rw [← List.cons_append, lnT_snoc]; exact H8.out⟩
            case measure => simp [intOf]; omega
          | error y =>
            obtain ⟨rfl, hy, h8⟩ := h8
            have H8 := hid h8
            have q4 : ¬ (y : Int) = 0 := by omega
            have q5 : ((y : Int) == 0) = false := by simp [hy]
            have HRR : Hid (r = .error y) := by
              show r = _
              rw [← HR.out]
              exact scrW_err HR1.out HM.out (HCT.out.2.2 y rfl)
            clear k1 h8 u0 u1 u2 u3 u4 u5 u6 u7 u8 u9 u10 u11 u12 u13
            go_wp2_with fail
            go_ret2
            exact ⟨by rw [HRR.out]; rfl, H8.out, by rw [HRR.out]; exact Bt.no _⟩
        · obtain rfl : j = n := by omega
          have hjI : ¬ (j : Int) < j := by omega
          have k1 := whole_ HV.out
          have HRR : Hid (r = if 1048576 < (lnT ((cul :: nn) :: ls)).length then .error 221 else .ok (lnT ((cul :: nn) :: ls))) := by
            show r = _
            have e := HA.out
            rw [← HN.out, List.take_length] at e
            rw [← HR.out]
            exact scrW_end HR1.out HM.out e
          have HBL := hid HV.out.bel
          have HBY := hid HV.out.byt
          clear HA HV
          generalize lnT ((cul :: nn) :: ls) = TT at *
          go_wp2_with fail
          refine k1.mono ?_
          rintro e w9 ⟨rfl, hw⟩
          obtain rfl := hw.symm
          clear k1
          by_cases hT : 1048576 < TT.length
          · rw [if_pos hT]
            go_wp2_with fail
            go_ret2
            exact ⟨by rw [HRR.out, if_pos hT]; rfl, HBL.out, by rw [HRR.out, if_pos hT]; exact Bt.no _⟩
          · rw [if_neg hT]
            go_wp2_with fail
            go_ret2
            exact ⟨by rw [HRR.out, if_neg hT]; rfl, HBL.out, by rw [HRR.out, if_neg hT]; intro t e; cases e; exact ⟨HBY.out, by omega⟩⟩
end
end Go.Proofs.YtkeogggeefnoeaaGreatDoor
namespace Go.Proofs.YtkeogggeefnoeaaGreatDoor
set_option linter.unusedSimpArgs false
open Go.RowKit
set_option linter.unusedVariables false
set_option maxRecDepth 100000

/-! Reading: signs. -/
theorem isBlank_ (c : Int) (w : World) : Calls Tryz.prog 65 #[.int .i32 c] w fun e w' => e = .returned (.bool (decide (c = 32 ∨ c = 9))) ∧ w' = w := by
  by_cases h1 : c = 32
  · subst h1
    go_enter Tryz.func65, Tryz.ntmps65
    go_wp2_with fail
    go_ret
    exact ⟨rfl, rfl⟩
  · have hb : (c == 32) = false := by simp [h1]
    rw [show decide (c = 32 ∨ c = 9) = (c == 9) by simp [h1]; by_cases h : c = 9 <;> simp [h]]
    go_enter Tryz.func65, Tryz.ntmps65
    go_wp2_with fail
    go_ret
    exact ⟨rfl, rfl⟩
end Go.Proofs.YtkeogggeefnoeaaGreatDoor
