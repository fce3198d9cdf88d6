import Derived.Test.YtbdkmjjjafbaoaaV9
namespace Go.Proofs.Ytbdkmjjjafbaoaa
open Go.RowKit
set_option linter.unusedVariables false
set_option maxRecDepth 100000

set_option maxHeartbeats 16000000 in
/-- WindowOnce. -/
theorem windowOnce_ (F width : Int) (a : Option Addr) (n cp : Nat) (l : List Int) (w : World) (hF : u64r F) (hw : i64r width) (hl : Ucs w a n l) :
    Calls Try.prog 6 #[.int .u64 F, .int .i64 width, .slice a n cp] w fun e w' => e = .returned (.bool true) ∧ Below w.heap.size w w' := by
  have HL := hid hl
  clear hl
  by_cases hfit : fitP width
  case neg =>
    have HN := hid hfit
    have kq := fun wx => fits_ width wx hw (nofit_q hfit)
    go_enter Try.func6, Try.ntmps6
    go_wp2_with fail
    refine (known_ w).mono ?_
    rintro e w1 ⟨rfl, g1⟩
    have kn := new_no F width w1 hw HN.out
    have HG1 := hid g1
    clear hfit g1
    go_wp2_with fail
    refine kn.mono ?_
    rintro e w2 ⟨rfl, rfl⟩
    have kq2 := kq w2
    clear kq
    go_wp2_with fail
    refine kq2.mono ?_
    rintro e w3 ⟨rfl, rfl⟩
    go_wp2_with fail
    go_ret
    exact ⟨rfl, HG1.out⟩
  obtain ⟨m, hwd, hm1, hm2⟩ := fit_of hfit
  have HFF := hid hF
  have HWD : Hid (width = 64 * (m : Int) ∧ 1 ≤ m ∧ m ≤ 16) := ⟨hwd, hm1, hm2⟩
  clear hfit hwd hm1 hm2 hF
  go_enter Try.func6, Try.ntmps6
  go_wp2_with fail
  refine (known_ w).mono ?_
  rintro e w1 ⟨rfl, g1⟩
  have kn := newW (w0 := w) HFF.out HWD.out.1 HWD.out.2.1 HWD.out.2.2 g1
  clear g1
  go_wp2_with fail
  refine kn.mono ?_
  rintro e w2 ⟨p, g, rfl, h, hb2, hp2, hg2⟩
  have H2 := hid h
  clear kn h hb2 hp2 hg2
  have H3 := hid (Oq.of H2.out)
  clear H2
  go_wp2_with fail
  go_loopw [10, 8, 9] (fun i v tp wr => ∃ (j : Nat) (T : List Int), j ≤ n ∧ (j : Int) ≤ 2000 ∧ i = .int .i64 j ∧ tp = .int .u64 (topI T) ∧ T.length ≤ j ∧ Hid (Oq w wr p g F m T v T) ∧ Hid (∀ i, i < j → tkB F (64 * (m : Int)) T (l.getD i 0) = false)) (fun i _ _ _ => n - (intOf i).toNat)
  case atStart => exact ⟨0, [], by omega, by omega, rfl, rfl, by simp, H3, fun i hi => absurd hi (by omega)⟩
  case round =>
    clear H3
    obtain ⟨j, T, hj, hj2, rfl, rfl, hTl, HT, HST0⟩ := hrel
    obtain ⟨W1, HW1⟩ : ∃ z, Hid (wr = z) := ⟨_, rfl⟩
    rw [HW1.out] at HT ⊢
    clear HW1
    by_cases hlt : j < n ∧ (j : Int) < 2000
    case pos =>
      obtain ⟨hlt, h20⟩ := hlt
      have hjI : (j : Int) < n := by omega
      obtain ⟨b, off, x, rfl, hxr, hlx, hcx⟩ := HL.out.get2 hlt
      have HCX := hid hcx
      have HXR := hid hxr
      have hx1 := hxr.1
      obtain ⟨q, hq⟩ : ∃ q, tkB F (64 * (m : Int)) T x = q := ⟨_, rfl⟩
      have HST : Hid (∀ i, i < j + 1 → tkB F (64 * (m : Int)) (mkT F (64 * (m : Int)) T x) (l.getD i 0) = false) := fun i hi => by
        by_cases e : i = j
        · rw [e, hlx]; exact tk_again
        · exact tk_stay (HST0.out i (by omega))
      have HQ := hid hq
      have hcell := hcx _ HT.out.hw.bel
      have kt := HT.out.takes hxr hq
      clear hcx hxr hq hlx HST0
      go_wp2_with fail
      refine kt.mono ?_
      rintro e w4 ⟨rfl, h4⟩
      have hcell4 := HCX.out _ h4.hw.bel
      have km := h4.mark HXR.out HQ.out rfl
      clear kt h4 hcell HT
      go_wp2_with fail
      refine km.mono ?_
      rintro e w5 ⟨rfl, h5⟩
      have hcell5 := HCX.out _ h5.hw.bel
      have H5 := hid h5
      clear km h5 hcell4
      obtain ⟨L, hL⟩ : ∃ L, T.length = L := ⟨_, rfl⟩
      have hLj : L ≤ j := by omega
      have HLe := hid hL
      clear hL hTl
      cases q with
      | false =>
        rw [mk_no HQ.out] at H5 HST
        obtain ⟨av, cv, hv, -⟩ := H5.out.row.form
        rw [HLe.out] at hv
        subst hv
        go_wp2_with fail
        go_loopw [13] (fun i wr => ∃ k : Nat, k ≤ L ∧ i = .int .i64 k ∧ Hid (Oq w wr p g F m T (.slice av L cv) T)) (fun i _ => L - (intOf i).toNat)
        case atStart => exact ⟨0, by omega, rfl, H5⟩
        case round =>
          clear H5 hcell5
          obtain ⟨k, hk, rfl, HT⟩ := hrel
          by_cases hkl : k < L
          · have hkI : (k : Int) < L := by omega
            have HD := hid fun nq => HT.out.drawn nq
            go_wp2_with fail
            go_quiet (fail)
            go_wp2_with fail
            go_roundw
            case rel => exact ⟨k + 1, by omega, by go_num, HD.out _⟩
            case measure => simp [intOf]; omega
          · have hkI : ¬ (k : Int) < L := by omega
            obtain ⟨qt, hqt⟩ : ∃ q, decide (T ≠ []) = q := ⟨_, rfl⟩
            obtain ⟨tp, htp⟩ : ∃ t, topI T = t := ⟨_, rfl⟩
            have kt := HT.out.top htp hqt
            have hqL : decide ((0 : Int) < L) = qt := by rw [← hqt, ← HLe.out]; cases T <;> simp <;> omega
            have HTP := hid htp
            rw [htp]
            clear hqt htp
            by_cases hL0 : (0 : Int) < L
            · rw [decide_eq_true hL0] at hqL
              subst hqL
              clear hkl
              go_wp2_with fail
              refine kt.mono ?_
              rintro e w7 ⟨rfl, h7⟩
              have H7 := hid h7
              clear kt h7
              go_wp2_with fail
              go_roundw
              case rel => exact ⟨j + 1, _, by omega, by omega, by go_num, by rw [HTP.out], by rw [HLe.out]; omega, H7, HST⟩
              case measure => simp [intOf]; omega

            · rw [decide_eq_false hL0] at hqL
              subst hqL
              obtain rfl : L = 0 := by omega
              clear hkl hL0
              go_wp2_with fail
              refine kt.mono ?_
              rintro e w7 ⟨rfl, h7⟩
              have H7 := hid h7
              clear kt h7
              go_wp2_with fail
              go_roundw
              case rel => exact ⟨j + 1, _, by omega, by omega, by go_num, by rw [HTP.out], by rw [HLe.out]; omega, H7, HST⟩
              case measure => simp [intOf]; omega

      | true =>
        have hFx : F ≤ x := (tk_iff.1 HQ.out).1
        have HNE : Hid (∀ t ∈ T, t ≠ x) := fun t ht => ((tk_iff.1 HQ.out).2 t ht).1
        rw [mk_yes HQ.out] at H5 HST
        obtain ⟨av, cv, hv, hf⟩ := H5.out.row.form
        rw [HLe.out] at hv
        subst hv
        have HB5 := hid hcell5
        go_wp2_with fail
        go_loopw [13] (fun i wr => ∃ k : Nat, k ≤ L ∧ i = .int .i64 k ∧ Hid (Oq w wr p g F m (T ++ [x]) (.slice av L cv) T)) (fun i _ => L - (intOf i).toNat)
        case atStart => exact ⟨0, by omega, rfl, H5⟩
        case round =>
          clear H5 hcell5 HB5 hf
          obtain ⟨k, hk, rfl, HT⟩ := hrel
          have hcell6 := HCX.out _ HT.out.hw.bel
          by_cases hkl : k < L
          · have hkI : (k : Int) < L := by omega
            have HD := hid fun nq => HT.out.drawn nq
            obtain ⟨av2, cv2, hv2, hf⟩ := HT.out.row.form
            rw [HLe.out] at hv2 hf
            injection hv2 with hv3 hv4 hv5
            subst hv3
            rcases hf with hf | ⟨b3, rfl, hf⟩
            · omega
            have hcell7 := hf k hkl
            have hne : (T.getD k 0 == x) = false := by
              have hm : T.getD k 0 ∈ T := by rw [show T.getD k 0 = T[k]'(by rw [HLe.out]; exact hkl) from by simp [List.getD, show k < T.length by rw [HLe.out]; exact hkl]]; exact List.getElem_mem _
              simpa using HNE.out _ hm
            obtain ⟨y, Hy⟩ : ∃ y, Hid (T.getD k 0 = y) := ⟨_, rfl⟩
            rw [Hy.out] at hcell7 hne
            clear hf hv4 hv5
            go_wp2_with fail
            go_quiet (fail)
            go_wp2_with fail
            go_roundw
            case rel => exact ⟨k + 1, by omega, by go_num, HD.out _⟩
            case measure => simp [intOf]; omega
          · have hkI : ¬ (k : Int) < L := by omega
            obtain ⟨tp, htp⟩ : ∃ t, topI T = t := ⟨_, rfl⟩
            have HTP := hid htp
            rw [htp]
            have htr : u64r tp := by rw [← htp]; by_cases e : T = []; (rw [e]; exact u64c 0 (by decide)); exact HT.out.hw.wn.ok _ (List.mem_append_left _ (top_mem e fun t ht => (HT.out.hw.wn.ok t (List.mem_append_left _ ht)).1))
            have ht1 := htr.1
            have HLN : Hid (T.length ≤ 100000) := by show _ ≤ _; rw [HLe.out]; omega
            clear htp htr hkl
            go_upto_region 22 with (at_builtin; refine wpList_appU (w0 := w) (wr := wr) rfl _ _ rfl (.slice av L cv) T x rfl HT.out.row rfl HLN.out HT.out.hw.bel.size ?_; intro v' w9 hu hg hs hy; have HU := hid hu; have HG := hid hg; have HY := hid hy; clear hu hg hs hy)
            have H9 := hid (HT.out.app HU.out HG.out HY.out)
            have hcell9 := HCX.out _ H9.out.hw.bel
            obtain ⟨av2, cv2, hv2, -⟩ := H9.out.row.form
            obtain ⟨L2, hL2⟩ : ∃ z, (T ++ [x]).length = z := ⟨_, rfl⟩
            have HL2 : Hid (L2 = L + 1) := by show _ = _; rw [← hL2, ← HLe.out]; simp
            rw [hL2] at hv2
            subst hv2
            have HL2e := hid hL2
            have h0L : (0 : Int) < L2 := by have := HL2.out; omega
            have h0Lb : decide ((0 : Int) < L2) = true := decide_eq_true h0L
            have HL2b : Hid (L2 ≤ j + 1) := by have := HL2.out; show _ ≤ _; omega
            obtain ⟨t2, ht2⟩ : ∃ t, topI (T ++ [x]) = t := ⟨_, rfl⟩
            have hmx : Hid (max tp x = t2) := by show _ = _; rw [← HTP.out, ← top_app, ht2]
            have kt := H9.out.top ht2 (q := true) (by simp)
            have HT2 := hid ht2
            clear hL2 ht2 HU HG HY HT hcell6
            by_cases hLe : L = 0
            · have hb1 : ((L2 : Int) == 1) = true := by have := HL2.out; simp; omega
              have hxt : x = t2 := by
                have h1 := hmx.out
                have h2 : T = [] := List.length_eq_zero_iff.1 (HLe.out.trans hLe)
                have h3 := HTP.out
                rw [h2, top_nil] at h3
                omega
              subst hxt
              clear hLe hmx
              go_wp2_with fail
              refine kt.mono ?_
              rintro e w7 ⟨rfl, h7⟩
              have H7 := hid h7
              clear kt h7
              go_wp2_with fail
              go_roundw
              case rel => exact ⟨j + 1, _, by omega, by omega, by go_num, by rw [HT2.out], by rw [HL2e.out]; exact HL2b.out, H7, HST⟩
              case measure => simp [intOf]; omega

            · have hb1 : ((L2 : Int) == 1) = false := by have := HL2.out; simp; omega
              by_cases hgt : tp < x
              · have hxt : x = t2 := by have h1 := hmx.out; omega
                subst hxt
                clear hLe hmx
                go_wp2_with fail
                refine kt.mono ?_
                rintro e w7 ⟨rfl, h7⟩
                have H7 := hid h7
                clear kt h7
                go_wp2_with fail
                go_roundw
                case rel => exact ⟨j + 1, _, by omega, by omega, by go_num, by rw [HT2.out], by rw [HL2e.out]; exact HL2b.out, H7, HST⟩
                case measure => simp [intOf]; omega

              · have hxt : tp = t2 := by have h1 := hmx.out; omega
                subst hxt
                clear hLe hmx
                go_wp2_with fail
                refine kt.mono ?_
                rintro e w7 ⟨rfl, h7⟩
                have H7 := hid h7
                clear kt h7
                go_wp2_with fail
                go_roundw
                case rel => exact ⟨j + 1, _, by omega, by omega, by go_num, by rw [HT2.out], by rw [HL2e.out]; exact HL2b.out, H7, HST⟩
                case measure => simp [intOf]; omega

    case neg =>
      have hor : (j : Int) < n ∧ ¬ (j : Int) < 2000 ∨ ¬ (j : Int) < n := by omega
      have HJ : Hid (∀ k, k < n → (k : Int) < 2000 → k < j) := fun k h1 h2 => by omega
      have HW2 := hid HT.out.hw
      clear hlt HT
      rcases hor with ⟨hjI, h20⟩ | hjI
      all_goals
        go_wp2_with fail
        go_loopw [16] (fun i wr => ∃ k : Nat, k ≤ n ∧ i = .int .i64 k ∧ Hid (Hw w wr p g F m T)) (fun i _ => n - (intOf i).toNat)
        case atStart => exact ⟨0, by omega, rfl, HW2⟩
        case round =>
          clear HW2
          obtain ⟨k, hk, rfl, HT⟩ := hrel
          by_cases hlk : k < n ∧ (k : Int) < 2000
          case pos =>
            obtain ⟨hlk, h2k⟩ := hlk
            have hkI : (k : Int) < n := by omega
            obtain ⟨b2, off2, x2, rfl, hxr2, hlx, hcx2⟩ := HL.out.get2 hlk
            have hcell := hcx2 _ HT.out.bel
            have hno := HST0.out k (HJ.out k hlk h2k)
            rw [hlx] at hno
            have kt := takesH HT.out hxr2 hno
            clear hcx2 hxr2 hno hlx
            go_wp2_with fail
            refine kt.mono ?_
            rintro e w4 ⟨rfl, h4⟩
            have H4 := hid h4
            clear kt h4 hcell
            go_wp2_with fail
            go_roundw
            case rel => exact ⟨k + 1, by omega, by go_num, H4⟩
            case measure => simp [intOf]; omega
          case neg =>
            have hor : (k : Int) < n ∧ ¬ (k : Int) < 2000 ∨ ¬ (k : Int) < n := by omega
            clear hlk
            have HB := hid HT.out.bel
            have kf := floorH HT.out
            rcases hor with ⟨hkI, h2k⟩ | hkI
            all_goals
              go_wp2_with fail
              refine kf.mono ?_
              rintro e w5 ⟨rfl, rfl⟩
              go_wp2_with fail
              go_ret
              exact ⟨by first | rfl | exact ret_bool (by simp), HB.out⟩
end Go.Proofs.Ytbdkmjjjafbaoaa
