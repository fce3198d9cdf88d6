import Derived.Test.YtbdkmjjjafbaoabV8
namespace Go.Proofs.Ytbdkmjjjafbaoab
open Go.RowKit
set_option linter.unusedVariables false
set_option maxRecDepth 100000

set_option maxHeartbeats 16000000 in
/-- WindowLooks. -/
theorem windowLooks_ (F width : Int) (a : Option Addr) (n cp : Nat) (l : List Int) (a2 : Option Addr) (n2 cp2 : Nat) (l2 : List Int) (w : World) (hF : u64r F) (hw : i64r width) (hl : Ucs w a n l) (hl2 : Ucs w a2 n2 l2) :
    Calls Try.prog 4 #[.int .u64 F, .int .i64 width, .slice a n cp, .slice a2 n2 cp2] w fun e w' => e = .returned (.bool true) ∧ Below w.heap.size w w' := by
  have HL := hid hl
  have HL2 := hid hl2
  have HFF := hid hF
  clear hl hl2 hF
  go_enter Try.func4, Try.ntmps4
  go_wp2_with fail
  refine (known_ w).mono ?_
  rintro e w1 ⟨rfl, g1⟩
  have HG1 := hid g1
  clear g1
  by_cases hfit : fitP width
  case neg =>
    have kn := new_no F width w1 hw hfit
    have kq := fits_ width w1 hw (nofit_q hfit)
    clear hfit
    go_wp2_with fail
    refine kn.mono ?_
    rintro e w2 ⟨rfl, rfl⟩
    go_wp2_with fail
    refine kn.mono ?_
    rintro e w3 ⟨rfl, rfl⟩
    go_wp2_with fail
    refine kq.mono ?_
    rintro e w4 ⟨rfl, rfl⟩
    go_wp2_with fail
    go_ret
    exact ⟨rfl, HG1.out⟩
  obtain ⟨m, hwd, hm1, hm2⟩ := fit_of hfit
  have HWD : Hid (width = 64 * (m : Int) ∧ 1 ≤ m ∧ m ≤ 16) := ⟨hwd, hm1, hm2⟩
  clear hfit hwd hm1 hm2
  have kn := newW (w0 := w) HFF.out HWD.out.1 HWD.out.2.1 HWD.out.2.2 HG1.out
  go_wp2_with fail
  refine kn.mono ?_
  rintro e w2 ⟨p, g, rfl, h, hb2, hp2, hg2⟩
  have kn2 := newW (w0 := w) HFF.out HWD.out.1 HWD.out.2.1 HWD.out.2.2 h.bel
  have H2 := hid h
  clear kn h hb2 hp2 hg2 HG1
  go_wp2_with fail
  refine kn2.mono ?_
  rintro e w3 ⟨p', g', rfl, h, hb2, hp2, hg2⟩
  have H3 := hid (P2.of H2.out h hb2 hp2 hg2)
  clear kn2 h hb2 hp2 hg2 H2
  go_wp2_with fail
  go_loopw [11] (fun i wr => ∃ (j : Nat) (T : List Int), j ≤ n ∧ i = .int .i64 j ∧ Hid (P2 w wr p g F m T p' g' F m T)) (fun i _ => n - (intOf i).toNat)
  case atStart => exact ⟨0, [], by omega, rfl, H3⟩
  case round =>
    clear H3
    obtain ⟨j, T, hj, rfl, HT⟩ := hrel
    obtain ⟨W1, HW1⟩ : ∃ z, Hid (wr = z) := ⟨_, rfl⟩
    rw [HW1.out] at HT ⊢
    clear HW1
    by_cases hlt : j < n ∧ (j : Int) < 2000
    case pos =>
      obtain ⟨hlt, h20⟩ := hlt
      have hjI : (j : Int) < n := by omega
      obtain ⟨b, off, x, rfl, hxr, -, hcx⟩ := HL.out.get2 hlt
      have HCX := hid hcx
      have HXR := hid hxr
      clear hcx hxr
      go_wp2_with fail
      go_loopw [12] (fun i wr => ∃ k : Nat, k ≤ n2 ∧ i = .int .i64 k ∧ Hid (P2 w wr p g F m T p' g' F m T)) (fun i _ => n2 - (intOf i).toNat)
      case atStart => exact ⟨0, by omega, rfl, HT⟩
      case round =>
        clear HT
        obtain ⟨k, hk, rfl, HT⟩ := hrel
        by_cases hlk : k < n2 ∧ (k : Int) < 20
        case pos =>
          obtain ⟨hlk, h2k⟩ := hlk
          have hkI : (k : Int) < n2 := by omega
          obtain ⟨b2, off2, x2, rfl, hxr2, -, hcx2⟩ := HL2.out.get2 hlk
          have hcell := hcx2 _ HT.out.a.bel
          have kt := HT.out.takesB hxr2 rfl
          clear hcx2
          go_wp2_with fail
          refine kt.mono ?_
          rintro e w4 ⟨rfl, h4⟩
          have kt2 := h4.topB rfl rfl
          clear kt h4 hcell
          go_wp2_with fail
          refine kt2.mono ?_
          rintro e w5 ⟨rfl, h5⟩
          have kt3 := floorH h5.b
          have H5 := hid h5
          clear kt2 h5
          go_wp2_with fail
          refine kt3.mono ?_
          rintro e w6 ⟨rfl, rfl⟩
          clear kt3
          go_wp2_with fail
          go_roundw
          case rel => exact ⟨k + 1, by omega, by go_num, H5⟩
          case measure => simp [intOf]; omega
        case neg =>
          have hor : (k : Int) < n2 ∧ ¬ (k : Int) < 20 ∨ ¬ (k : Int) < n2 := by omega
          clear hlk
          have hcell := HCX.out _ HT.out.a.bel
          obtain ⟨q, hq⟩ : ∃ q, tkB F (64 * (m : Int)) T x = q := ⟨_, rfl⟩
          obtain ⟨T1, hT1⟩ : ∃ T1, mkT F (64 * (m : Int)) T x = T1 := ⟨_, rfl⟩
          obtain ⟨t, HTP⟩ : ∃ t, Hid (topI T1 = t) := ⟨_, rfl⟩
          obtain ⟨qt, HQT⟩ : ∃ q, Hid (decide (T1 ≠ []) = q) := ⟨_, rfl⟩
          have HQ := hid hq
          have HT1 := hid hT1
          have km := HT.out.markA HXR.out hq hT1
          clear hq hT1
          rcases hor with ⟨hkI, h2k⟩ | hkI
          all_goals
            go_wp2_with fail
            refine km.mono ?_
            rintro e w4 ⟨rfl, h4⟩
            have hcell4 := HCX.out _ h4.a.bel
            have km2 := h4.markB HXR.out HQ.out HT1.out
            clear km h4 hcell
            go_wp2_with fail
            refine km2.mono ?_
            rintro e w5 ⟨rfl, h5⟩
            have kt := h5.topA HTP.out HQT.out
            clear km2 h5 hcell4
            go_wp2_with fail
            refine kt.mono ?_
            rintro e w6 ⟨rfl, h6⟩
            have kt2 := h6.topB HTP.out HQT.out
            clear kt h6
            go_wp2_with fail
            refine kt2.mono ?_
            rintro e w7 ⟨rfl, h7⟩
            have H7 := hid h7
            clear kt2 h7
            cases q <;> cases qt
            all_goals
              go_wp2_with fail
              go_roundw
              case rel => exact ⟨j + 1, T1, by omega, by go_num, H7⟩
              case measure => simp [intOf]; omega
    case neg =>
      have hor : (j : Int) < n ∧ ¬ (j : Int) < 2000 ∨ ¬ (j : Int) < n := by omega
      clear hlt
      rcases hor with ⟨hjI, h20⟩ | hjI
      all_goals
        go_wp2_with fail
        go_loopw [19] (fun i wr => ∃ k : Nat, k ≤ n2 ∧ i = .int .i64 k ∧ Hid (P2 w wr p g F m T p' g' F m T)) (fun i _ => n2 - (intOf i).toNat)
        case atStart => exact ⟨0, by omega, rfl, HT⟩
        case round =>
          clear HT
          obtain ⟨k, hk, rfl, HT⟩ := hrel
          by_cases hlk : k < n2 ∧ (k : Int) < 2000
          case pos =>
            obtain ⟨hlk, h2k⟩ := hlk
            have hkI : (k : Int) < n2 := by omega
            obtain ⟨b2, off2, x2, rfl, hxr2, -, hcx2⟩ := HL2.out.get2 hlk
            have HCX2 := hid hcx2
            have HXR2 := hid hxr2
            have hcell := hcx2 _ HT.out.a.bel
            obtain ⟨q, hq⟩ : ∃ q, tkB F (64 * (m : Int)) T x2 = q := ⟨_, rfl⟩
            have HQ := hid hq
            have kt := HT.out.takesA hxr2 hq
            clear hcx2 hxr2 hq
            go_wp2_with fail
            refine kt.mono ?_
            rintro e w4 ⟨rfl, h4⟩
            have kt2 := h4.takesB HXR2.out HQ.out
            have hcell4 := HCX2.out _ h4.a.bel
            clear kt h4 hcell
            go_wp2_with fail
            refine kt2.mono ?_
            rintro e w5 ⟨rfl, h5⟩
            have H5 := hid h5
            clear kt2 h5 hcell4
            cases q
            all_goals
              go_wp2_with fail
              go_roundw
              case rel => exact ⟨k + 1, by omega, by go_num, H5⟩
              case measure => simp [intOf]; omega
          case neg =>
            have hor : (k : Int) < n2 ∧ ¬ (k : Int) < 2000 ∨ ¬ (k : Int) < n2 := by omega
            clear hlk
            have HB := hid HT.out.a.bel
            rcases hor with ⟨hkI, h2k⟩ | hkI
            all_goals
              go_wp2_with fail
              go_ret
              exact ⟨rfl, HB.out⟩
end Go.Proofs.Ytbdkmjjjafbaoab
