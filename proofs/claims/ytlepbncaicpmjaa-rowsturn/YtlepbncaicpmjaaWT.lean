import Derived.Test.YtlepbncaicpmjaaWR
import Derived.Test.YtlepbncaicpmjaaWU
import Derived.Test.YtlepbncaicpmjaaSE
namespace Go.Proofs.Ytlepbncaicpmjaa
set_option maxRecDepth 100000
open Go.RowKit Go.Maps
set_option linter.unusedVariables false

set_option maxHeartbeats 2000000 in
/-- RowsTurn. -/
theorem rowsTurn_ (pa qa la ma : Option Addr) (pn pc qn qc ln lc mn mc : Nat) (ps qs : List Pr) (ls ms : List Ln) (w : World) (hp : Pls w pa pn ps) (hq : Pls w qa qn qs) (hl : Lls w la ln ls) (hm : Lls w ma mn ms) :
    Calls Try.prog 3 #[.agg #[.slice pa pn pc, .slice qa qn qc, .slice la ln lc, .slice ma mn mc]] w fun e w' => e = .returned (.bool true) ∧ Below w.heap.size w w' := by
  have m1 := heap_alloc_new w (.cells #[.slice pa pn pc, .slice qa qn qc, .slice la ln lc, .slice ma mn mc] 25)
  obtain ⟨y0, y1, y2, y3⟩ := fcell m1
  have HB := hid (bel_al w (.cells #[.slice pa pn pc, .slice qa qn qc, .slice la ln lc, .slice ma mn mc] 25))
  have HP := hid (hp.on HB.out)
  have HQ := hid (hq.on HB.out)
  have HL := hid (hl.on HB.out)
  have HM := hid (hm.on HB.out)
  obtain ⟨W1, HW1⟩ : ∃ y, Hid (w.alloc (.cells #[.slice pa pn pc, .slice qa qn qc, .slice la ln lc, .slice ma mn mc] 25) = y) := ⟨_, rfl⟩
  obtain ⟨g, Hg⟩ : ∃ y, Hid (w.heap.size = y) := ⟨_, rfl⟩
  rw [HW1.out] at y0 y1 y2 y3 HB HP HQ HL HM
  rw [Hg.out] at y0 y1 y2 y3
  have Y0 := hid y0
  have Y1 := hid y1
  have Y2 := hid y2
  have Y3 := hid y3
  clear hp hq hl hm m1 y0 y1 y2 y3
  have k1 := lfirst_ W1
  go_enter Try.func3, Try.ntmps3
  go_wp2_with fail
  rw [HW1.out, Hg.out]
  refine k1.mono ?_
  rintro e w2 ⟨rfl, g2⟩
  have HB2 : Hid (Bw W1 w2) := g2
  have y0 := HB2.out.cell Y0.out
  have y1 := HB2.out.cell Y1.out
  have y2 := HB2.out.cell Y2.out
  have y3 := HB2.out.cell Y3.out
  have kf := fits_ pa qa la ma pn pc qn qc ln lc mn mc ps qs w2 (HP.out.on g2) (HQ.out.on g2)
  clear k1 g2
  go_wp2_with fail
  refine kf.mono ?_
  rintro e w3 ⟨q, rfl, hf, g3⟩
  have HB3 : Hid (Bw W1 w3) := HB2.out.on g3
  clear kf g3 y0 y1 y2 y3 HB2
  have y0 := HB3.out.cell Y0.out
  have y1 := HB3.out.cell Y1.out
  have y2 := HB3.out.cell Y2.out
  have y3 := HB3.out.cell Y3.out
  cases q with
  | false =>
    go_wp2_with fail
    go_ret
    exact ⟨rfl, bel_bel HB.out HB.out.size HB3.out⟩
  | true =>
    obtain ⟨f1, f2, f3, f4⟩ := hf rfl
    have ks := sets_ pa qa la ma pn pc qn qc ln lc mn mc ps qs ls ms w3 (HP.out.on HB3.out) (HQ.out.on HB3.out) (HL.out.on HB3.out) (HM.out.on HB3.out) (by omega) (by omega) (by omega) (by omega)
    go_wp2_with fail
    refine ks.mono ?_
    rintro e w4 ⟨sa, sn, sc, rfl, s4, n1, n2, n3, g4⟩
    have HB4 : Hid (Bw W1 w4) := HB3.out.on g4
    have HS4 := hid s4
    obtain ⟨q, hq⟩ : ∃ q, q = (rct ps ls && rct qs ms) := ⟨_, rfl⟩
    rw [← hq] at HS4 ⊢
    have HQQ := hid hq
    clear ks g4 y0 y1 y2 y3 s4 hq
    cases q with
    | false =>
      have hz : sn = 0 := HS4.out.len.symm
      subst hz
      simp only [Bool.false_eq_true, if_false]
      have kn := fun wx => lnum_ 114 wx
      go_wp2_with (first | (go_at_call 7; refine (kn _).mono ?_; rintro en wx ⟨rfl, rfl⟩) | fail)
      go_ret
      exact ⟨rfl, bel_bel HB.out HB.out.size HB4.out⟩
    | true =>
      simp only [if_true] at HS4 ⊢
      have hr := Bool.and_eq_true_iff.1 HQQ.out.symm
      obtain ⟨a1, a2, a3, a4⟩ := rct_all hr.1
      obtain ⟨b1, b2, b3, b4⟩ := rct_all hr.2
      have HLP := hid HP.out.len
      have HLQ := hid HQ.out.len
      have HLL := hid HL.out.len
      have HLM := hid HM.out.len
      have HTA := hid (turn_all (rws_ok HP.out HL.out) (rws_ok HQ.out HM.out) a4 b4)
      have HCL := hid (chg_len (I := gth (rws qs ms)) (gth_tok _ (rws_ok HP.out HL.out)).srt)
      have HG1 := hid (gth_small (ps := ps) (ls := ls) (by have := HLP.out; omega) (by have := HLL.out; omega))
      have HG2 := hid (gth_small (ps := qs) (ls := ms) (by have := HLQ.out; omega) (by have := HLM.out; omega))
      have HCS := hid (chg_self (gth_tok _ (rws_ok HQ.out HM.out)).srt)
      have kp1 := put15_ pa la pn pc ln lc ps ls w4 (HP.out.on HB4.out) (HL.out.on HB4.out) (by omega) (by omega) a1 a2
      have HR2 := hid hr.2
      have y0 := HB4.out.cell Y0.out
      have y1 := HB4.out.cell Y1.out
      have y2 := HB4.out.cell Y2.out
      have y3 := HB4.out.cell Y3.out
      have HA3 := hid a3
      have HB3' := hid b3
      have HSL := hid b1
      have HSM := hid b2
      clear hr a1 a2 a3 a4 b1 b2 b3 b4
      have kn := fun wx => lnum_ 0 wx
      go_wp2_with (first | (go_at_call 7; refine (kn _).mono ?_; rintro en wx ⟨rfl, rfl⟩) | fail)
      refine kp1.mono ?_
      rintro e w5 ⟨v5, d5, rfl, r5, e5⟩
      have HB5 : Hid (Bw W1 w5) := HB4.out.on r5.bel
      have HS5 := hid (HS4.out.below r5.bel)
      obtain ⟨p5, c5, rfl, L5, -⟩ := Rwl.ofOwn r5.own (V := fun x => wx.heap.size ≤ x) (fun d hd => (r5.sv d hd).wide fun x _ h => h.1) (fun x h => h)
      rw [e5] at L5
      have HL5 := hid L5
      have kp2 := put15_ qa ma qn qc mn mc qs ms w5 (HQ.out.on HB5.out) (HM.out.on HB5.out) (by omega) (by omega) HSL.out HSM.out
      clear kp1 r5 L5 y0 y1 y2 y3
      have y0 := HB5.out.cell Y0.out
      have y1 := HB5.out.cell Y1.out
      have y2 := HB5.out.cell Y2.out
      have y3 := HB5.out.cell Y3.out
      obtain ⟨z5, hz5⟩ : ∃ z : Nat, d5.length = z := ⟨_, rfl⟩
      rw [hz5] at HL5 ⊢
      have HZ5 := hid hz5
      have HE5 := hid e5
      clear hz5 e5
      go_wp2_with fail
      refine kp2.mono ?_
      rintro e w6 ⟨v6, d6, rfl, r6, e6⟩
      have HB6 : Hid (Bw W1 w6) := HB5.out.on r6.bel
      have HS6 := hid (HS5.out.below r6.bel)
      have HL6 := hid (HL5.out.below r6.bel)
      obtain ⟨p6, c6, rfl, M6, -⟩ := Rwl.ofOwn r6.own (V := fun x => w5.heap.size ≤ x) (fun d hd => (r6.sv d hd).wide fun x _ h => h.1) (fun x h => h)
      rw [e6] at M6
      have HM6 := hid M6
      obtain ⟨z6, hz6⟩ : ∃ z : Nat, d6.length = z := ⟨_, rfl⟩
      rw [hz6] at HM6 ⊢
      have hn5 : z5 ≤ 1000 := by have h := HL6.out.len; have := HA3.out; have := HLP.out; have := HLL.out; omega
      have hn6 : z6 ≤ 1000 := by have h := HM6.out.len; have := HB3'.out; have := HLQ.out; have := HLM.out; omega
      have hns : sn ≤ 1000000 := by have h := HS6.out.len; have := HCL.out; have := HG1.out; have := HG2.out; omega
      have kt := turned15_ _ _ p5 sa z5 c5 sn sc (rws ps ls) (chg (gth (rws ps ls)) (gth (rws qs ms))) w6 HL6.out HS6.out (by omega) hns
      clear kp2 r6 M6 y0 y1 y2 y3 hz6 e6
      go_wp2_with fail
      refine kt.mono ?_
      rintro e w7 ⟨v7, d7, rfl, r7, e7⟩
      have HB7 : Hid (Bw W1 w7) := HB6.out.on r7.bel
      have HM7 := hid (HM6.out.below r7.bel)
      obtain ⟨p7, c7, rfl, L7, -⟩ := Rwl.ofOwn r7.own (V := fun _ => True) (fun d hd => (r7.sv d hd).below r7.bel) (fun x h => trivial)
      rw [e7] at L7
      have HL7 := hid L7
      have hz7 : d7.length = z6 := by have h := HL7.out.len; have h1 := HM7.out.len; have h2 := HTA.out.1; omega
      rw [hz7] at HL7 ⊢
      clear kt r7 L7 e7 hz7 HS4 HS5 HS6 HL5 HL6 HM6
      go_wp2_with fail
      go_loopw [9] (fun i wr => ∃ j : Nat, j ≤ z6 ∧ i = .int .i64 j ∧ Hid (Bw w7 wr)) (fun i _ => z6 - (intOf i).toNat)
      case atStart => exact ⟨0, by omega, rfl, Below.refl _ _⟩
      case round =>
        obtain ⟨j, hj, rfl, HBr⟩ := hrel
        by_cases hlt : j < z6
        · have hjI : (j : Int) < z6 := by omega
          obtain ⟨b, off, rfl, hc⟩ : ∃ b off, p6 = some ⟨b, off, none⟩ ∧ ∀ i, i < z6 → RowAt wr (fun x => w5.heap.size ≤ x) b (off + i * 2) ((rws qs ms).getD i ([], [])) := by
            rcases (HM7.out.below HBr.out).cells with h0 | ⟨b, off, e, -, h⟩
            · omega
            · exact ⟨b, off, e, h⟩
          have HI : Hid ((rws qs ms).getD j ([], []) ∈ rws qs ms) := by
            have h : j < (rws qs ms).length := by have := HM7.out.len; omega
            have e : (rws qs ms).getD j ([], []) = (rws qs ms)[j] := by simp [List.getD, h]
            show _ ∈ _
            rw [e]
            exact List.getElem_mem h
          obtain ⟨x, HX⟩ : ∃ x, Hid ((rws qs ms).getD j ([], []) = x) := ⟨_, rfl⟩
          have hx := hc j hlt
          rw [HX.out] at hx HI
          obtain ⟨xk, xv⟩ := x
          obtain ⟨ka, kc, va, vc, c0, c1, vk, vv⟩ := hx
          simp only at c0 c1 vk vv
          have ki := in15_ _ p7 ka va z6 c7 xk.length kc xv.length vc _ xk xv wr (HL7.out.below HBr.out) vk.bs vv.bs (by omega) (Nat.le_trans vk.nc vk.cm) (Nat.le_trans vv.nc vv.cm)
          have hA : ((trn (rws ps ls) (chg (gth (rws ps ls)) (gth (rws qs ms)))).any fun p => sameB p.1 xk && sameB p.2 xv) = true := List.any_eq_true.2 ⟨(xk, xv), HTA.out.2 _ HI.out, by simp [sameB]⟩
          rw [hA] at ki
          obtain ⟨xl, Hxl⟩ : ∃ z : Nat, Hid (xk.length = z) := ⟨_, rfl⟩
          obtain ⟨yl, Hyl⟩ : ∃ z : Nat, Hid (xv.length = z) := ⟨_, rfl⟩
          rw [Hxl.out] at c0 ki
          rw [Hyl.out] at c1 ki
          clear hc vk vv hA
          go_wp2_with fail
          refine ki.mono ?_
          rintro e w8 ⟨rfl, g8⟩
          have HB8 : Hid (Bw w7 w8) := HBr.out.on g8
          clear ki g8 c0 c1
          go_wp2_with fail
          go_roundw
          case rel => exact ⟨j + 1, by omega, by go_num, HB8⟩
          case measure => simp [intOf]; omega
        · have hjI : ¬ (j : Int) < z6 := by omega
          have HBz : Hid (Bw W1 wr) := HB7.out.on HBr.out
          have y1 := HBz.out.cell Y1.out
          have y3 := HBz.out.cell Y3.out
          have ks := sets_ qa qa ma ma qn qc qn qc mn mc mn mc qs qs ms ms wr (HQ.out.on HBz.out) (HQ.out.on HBz.out) (HM.out.on HBz.out) (HM.out.on HBz.out) (by omega) (by omega) (by omega) (by omega)
          rw [HR2.out, HCS.out] at ks
          go_wp2_with fail
          refine ks.mono ?_
          rintro e w8 ⟨sa', sn', sc', rfl, s8, -, -, -, g8⟩
          have HB8 : Hid (Bw W1 w8) := HBz.out.on g8
          have hz : sn' = 0 := s8.len.symm
          subst hz
          clear ks g8 s8 y1 y3
          go_wp2_with (first | (go_at_call 7; refine (kn _).mono ?_; rintro en wx ⟨rfl, rfl⟩) | fail)
          go_ret
          exact ⟨rfl, bel_bel HB.out HB.out.size HB8.out⟩
end Go.Proofs.Ytlepbncaicpmjaa
