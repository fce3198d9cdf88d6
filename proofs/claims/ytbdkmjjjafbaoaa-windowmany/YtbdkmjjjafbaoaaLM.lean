import Derived.Test.YtbdkmjjjafbaoaaLM0
namespace Go.Proofs.Ytbdkmjjjafbaoaa
open Go.RowKit
set_option linter.unusedVariables false
set_option maxRecDepth 100000

set_option maxHeartbeats 8000000 in
/-- WindowMany. -/
theorem windowMany_ (F width : Int) (a : Option Addr) (n cp : Nat) (l : List Int) (w : World) (hF : u64r F) (hw : i64r width) (hl : Ucs w a n l) :
    Calls Try.prog 5 #[.int .u64 F, .int .i64 width, .slice a n cp] w fun e w' => e = .returned (.bool true) ∧ Below w.heap.size w w' := by
  have HL := hid hl
  clear hl
  by_cases hfit : fitP width
  case neg =>
    have HK := hid fun wx hb => begin_no w F width 0 wx hb hw hfit
    clear hfit
    go_enter Try.func5, Try.ntmps5
    go_wp2_with fail
    refine (known_ w).mono ?_
    rintro e w1 ⟨rfl, g1⟩
    have HG := hid g1
    clear g1
    go_wp2_with fail
    go_loopw [8] (fun i wr => i = .int .i64 0 ∧ Hid (Below w.heap.size w wr)) (fun i _ => 1)
    case atStart => exact ⟨rfl, HG⟩
    case round =>
      clear HG
      obtain ⟨rfl, HB⟩ := hrel
      have k1 := HK.out wr HB.out
      go_wp2_with fail
      refine k1.mono ?_
      rintro e w2 ⟨q, X, rfl, h2, b2, x2⟩
      have n0 := (h2.no rfl).c0
      have HBB := hid h2.bel
      clear k1 h2 b2 x2
      go_wp2_with fail
      go_ret
      exact ⟨rfl, HBB.out⟩
  obtain ⟨m, hwd, hm1, hm2⟩ := fit_of hfit
  have HK := hid fun wx hb => begin_yes w F width m wx hb hF hwd hm1 hm2
  clear hfit hwd hm1 hm2
  go_enter Try.func5, Try.ntmps5
  go_wp2_with fail
  refine (known_ w).mono ?_
  rintro e w1 ⟨rfl, g1⟩
  have H0 := hid (Mn.nil (F := F) (m := m) (N := 0) g1)
  clear g1
  go_wp2_with fail
  go_loopw [8, 7] (fun i v wr => ∃ (j : Nat) (qs : List Nat), j ≤ 20 ∧ i = .int .i64 j ∧ qs.length = j ∧ Hid (Mn w wr v qs F m 0)) (fun i _ _ => 20 - (intOf i).toNat)
  case atStart => exact ⟨0, [], by omega, rfl, rfl, H0⟩
  case round =>
    clear H0
    obtain ⟨j, qs, hj, rfl, hqs, HM⟩ := hrel
    obtain ⟨W1, HW1⟩ : ∃ z, Hid (wr = z) := ⟨_, rfl⟩
    rw [HW1.out] at HM ⊢
    clear HW1
    by_cases hlt : j < 20
    · have hjI : (j : Int) < 20 := by omega
      have k1 := HK.out W1 HM.out.bel
      have HQS := hid hqs
      clear hqs
      go_wp2_with fail
      refine k1.mono ?_
      rintro e w2 ⟨q, X, rfl, h2, b2, x2⟩
      obtain ⟨p, n0⟩ := h2.c0
      have HP := hid h2
      have HB2 := hid b2
      have HX2 := hid x2
      have HM2 := hid (HM.out.on b2)
      have HLN : Hid (qs.length ≤ 100000) := by show _ ≤ _; rw [HQS.out]; omega
      clear k1 h2 b2 x2
      go_upto_region 6 with (at_builtin; refine wpList_appQ (w0 := w) (wr := w2) rfl _ _ rfl u7 qs q rfl HM2.out.row rfl HLN.out HM2.out.bel.size ?_; intro v' w9 hu hg hs hy; have HU := hid hu; have HG := hid hg; have HY := hid hy; clear hu hg hs hy)
      have H9 := hid (HM.out.app HB2.out HP.out HX2.out HU.out HG.out HY.out)
      clear HU HG HY HM HM2 HP HB2 HX2 n0
      go_wp2_with fail
      go_roundw
      case rel => exact ⟨j + 1, qs ++ [q], by omega, by go_num, by have := HQS.out; simp; omega, H9⟩
      case measure => simp [intOf]; omega
    · have hjI : ¬ (j : Int) < 20 := by omega
      obtain rfl : j = 20 := by omega
      rw [show ((20 : Nat) : Int) = (20 : Int) from rfl]
      obtain ⟨av, cv, hv, hf⟩ := HM.out.row.form
      rw [hqs] at hv hf
      subst hv
      rcases hf with hf | ⟨b, rfl, -⟩
      · omega
      have HQS := hid hqs
      clear hqs hlt hj hjI HK
      go_wp2_with fail
      go_loopw [11] (fun i wr => ∃ j : Nat, j ≤ n ∧ (j : Int) ≤ 2000 ∧ i = .int .i64 j ∧ Hid (Mn w wr (.slice (some ⟨b, 0, none⟩) 20 cv) qs F m j)) (fun i _ => n - (intOf i).toNat)
      case atStart => exact ⟨0, by omega, by omega, rfl, HM⟩
      case round =>
        clear HM
        obtain ⟨j, hj, hj2, rfl, HM⟩ := hrel
        obtain ⟨W1, HW1⟩ : ∃ z, Hid (wr = z) := ⟨_, rfl⟩
        rw [HW1.out] at HM ⊢
        clear HW1
        by_cases hlt : j < n ∧ (j : Int) < 2000
        case pos =>
          obtain ⟨hlt, h20⟩ := hlt
          have hjI : (j : Int) < n := by omega
          have HJ : Hid (j ≤ 99999) := by show _ ≤ _; omega
          obtain ⟨b2, off2, x, rfl, hxr, -, hcx⟩ := HL.out.get2 hlt
          have hcell := hcx _ HM.out.bel
          have HXR := hid hxr
          obtain ⟨K, hK⟩ : ∃ K : Nat, (7 * (j : Int)).tmod 20 = K := ⟨((7 * (j : Int)) % 20).toNat, by rw [Int.tmod_eq_emod_of_nonneg (by omega)]; omega⟩
          have hK2 : (7 * (j : Int)) % 20 = K := by rw [← hK]; exact (Int.tmod_eq_emod_of_nonneg (by omega)).symm
          have hK20 : (K : Int) < 20 := by omega
          have h7 : IntKind.i64.wrap (7 * (j : Int)) = 7 * (j : Int) := by rw [IntKind.wrap_i64]; omega
          have pc : W1.cell? ⟨b, K, none⟩ = some (.pointer (some ⟨qs.getD K 0, 0, none⟩)) := by
            obtain ⟨av2, cv2, hv2, hf⟩ := HM.out.row.form
            injection hv2 with e1 e2 e3
            rcases hf with hf | ⟨b3, e4, hf⟩
            · have := HQS.out; omega
            · rw [e4] at e1
              have e5 := Option.some.inj e1
              injection e5 with e6
              rw [e6]; exact hf K (by rw [HQS.out]; omega)
          have HKP := hid fun nq => (HM.out.drawn nq).plays HJ.out (i := K) (by rw [HQS.out]; omega) 1 HXR.out
          obtain ⟨qk, HQK⟩ : ∃ z, Hid (qs.getD K 0 = z) := ⟨_, rfl⟩
          rw [HQK.out] at pc HKP
          clear hcx hxr
          go_wp2_with fail
          go_region_with (go_at_call 11; refine (HKP.out _).mono ?_; rintro e w4 ⟨rfl, h4⟩; have H4 := hid h4; clear h4)
          all_goals
            clear HKP HM pc hcell hK hK2 h7 hK20
            go_wp2_with fail
            go_roundw
            case rel => exact ⟨j + 1, by omega, by omega, by go_num, H4⟩
            case measure => simp [intOf]; omega
        case neg =>
          have hor : (j : Int) < n ∧ ¬ (j : Int) < 2000 ∨ ¬ (j : Int) < n := by omega
          have HJJ : Hid (j ≤ 2000) := by show _ ≤ _; omega
          clear hlt
          rcases hor with ⟨hjI, h20⟩ | hjI
          all_goals
            go_wp2_with fail
            go_loopw [13] (fun i wr => ∃ (k N : Nat), k ≤ n ∧ (k : Int) ≤ 40 ∧ N ≤ 2000 + 40 * k ∧ i = .int .i64 k ∧ Hid (Mn w wr (.slice (some ⟨b, 0, none⟩) 20 cv) qs F m N)) (fun i _ => n - (intOf i).toNat)
            case atStart => exact ⟨0, j, by omega, by omega, by have := HJJ.out; omega, rfl, HM⟩
            case round =>
              clear HM
              obtain ⟨k, N, hk, hk2, hN, rfl, HM⟩ := hrel
              obtain ⟨W2, HW1⟩ : ∃ z, Hid (wr = z) := ⟨_, rfl⟩
              rw [HW1.out] at HM ⊢
              clear HW1
              by_cases hlk : k < n ∧ (k : Int) < 40
              case pos =>
                obtain ⟨hlk, h40⟩ := hlk
                have hkI : (k : Int) < n := by omega
                obtain ⟨b2, off2, x, rfl, hxr, -, hcx⟩ := HL.out.get2 hlk
                have HXR := hid hxr
                have HCX := hid hcx
                clear hcx hxr
                go_wp2_with fail
                go_loopw [14] (fun i wr => ∃ (z N : Nat), z ≤ 20 ∧ N ≤ 2000 + 40 * k + 2 * z ∧ i = .int .i64 z ∧ Hid (Mn w wr (.slice (some ⟨b, 0, none⟩) 20 cv) qs F m N)) (fun i _ => 20 - (intOf i).toNat)
                case atStart => exact ⟨0, N, by omega, by omega, rfl, HM⟩
                case round =>
                  clear HM hN
                  obtain ⟨z, N, hz, hN, rfl, HM⟩ := hrel
                  by_cases hlz : z < 20
                  · have hzI : (z : Int) < 20 := by omega
                    have hcell := HCX.out _ HM.out.bel
                    have PC : Hid (∀ wx, Mn w wx (.slice (some ⟨b, 0, none⟩) 20 cv) qs F m N → wx.cell? ⟨b, z, none⟩ = some (.pointer (some ⟨qs.getD z 0, 0, none⟩))) := fun wx hm => by
                      obtain ⟨av2, cv2, hv2, hf⟩ := hm.row.form
                      injection hv2 with e1 e2 e3
                      rcases hf with hf | ⟨b3, e4, hf⟩
                      · have := HQS.out; omega
                      · rw [e4] at e1
                        have e5 := Option.some.inj e1
                        injection e5 with e6
                        rw [e6]; exact hf z (by rw [HQS.out]; omega)
                    have PC2 : Hid (∀ wx, Mn w wx (.slice (some ⟨b, 0, none⟩) 20 cv) qs F m (N + 1) → wx.cell? ⟨b, z, none⟩ = some (.pointer (some ⟨qs.getD z 0, 0, none⟩))) := fun wx hm => by
                      obtain ⟨av2, cv2, hv2, hf⟩ := hm.row.form
                      injection hv2 with e1 e2 e3
                      rcases hf with hf | ⟨b3, e4, hf⟩
                      · have := HQS.out; omega
                      · rw [e4] at e1
                        have e5 := Option.some.inj e1
                        injection e5 with e6
                        rw [e6]; exact hf z (by rw [HQS.out]; omega)
                    have pc := PC.out _ HM.out
                    have HKP := hid fun nq => (HM.out.drawn nq).plays (by omega) (i := z) (by rw [HQS.out]; omega) 2 HXR.out
                    have HN5 : Hid (N + 1 ≤ 99999) := by show _ ≤ _; omega
                    have HZL : Hid (z < qs.length) := by show _ < _; rw [HQS.out]; omega
                    obtain ⟨qk, HQK⟩ : ∃ z1, Hid (qs.getD z 0 = z1) := ⟨_, rfl⟩
                    rw [HQK.out] at pc HKP PC2
                    go_wp2_with fail
                    go_region_with (go_at_call 11; refine (HKP.out _).mono ?_; rintro e w4 ⟨rfl, h4⟩; have H4 := hid h4; clear h4)
                    all_goals
                      have pc4 := PC2.out _ H4.out
                      have kp := H4.out.plays HN5.out HZL.out 3 (u64c 0 (by decide))
                      rw [HQK.out] at kp
                      clear HKP HM pc hcell
                      go_wp2_with fail
                      refine kp.mono ?_
                      rintro e w5 ⟨rfl, h5⟩
                      have H5 := hid h5
                      clear kp h5 H4 pc4
                      go_wp2_with fail
                      go_roundw
                      case rel => exact ⟨z + 1, N + 1 + 1, by omega, by omega, by go_num, H5⟩
                      case measure => simp [intOf]; omega
                  · have hzI : ¬ (z : Int) < 20 := by omega
                    go_wp2_with fail
                    go_roundw
                    case rel => exact ⟨k + 1, N, by omega, by omega, by omega, by go_num, HM⟩
                    case measure => simp [intOf]; omega
              case neg =>
                have hor : (k : Int) < n ∧ ¬ (k : Int) < 40 ∨ ¬ (k : Int) < n := by omega
                have HB := hid HM.out.bel
                clear hlk
                rcases hor with ⟨hkI, h40⟩ | hkI
                all_goals
                  go_wp2_with fail
                  go_ret
                  exact ⟨rfl, HB.out⟩
end Go.Proofs.Ytbdkmjjjafbaoaa
