import Derived.Test.YtacjhbhmhgekhaaLM0
import Derived.Deep.RegionHeld3
namespace Go.Proofs.Ytacjhbhmhgekhaa
open Go.RowKit
set_option linter.unusedVariables false
set_option maxRecDepth 100000

set_option maxHeartbeats 8000000 in
/-- NetMany. -/
theorem netMany_ (a : Option Addr) (n cp : Nat) (l : List Wop) (w : World) (hl : Opl w a n l) :
    Calls Try.prog 5 #[.slice a n cp] w fun e w' => e = .returned (.bool true) ∧ Below w.heap.size w w' := by
  have HL := hid hl
  clear hl
  go_enter Try.func5, Try.ntmps5
  go_wp2_with fail
  refine (known_ w).mono ?_
  rintro e w1 ⟨rfl, g1⟩
  have HM0 : Hid (Mn w w1 (.slice none 0 0) [] 0) := Mn.nil g1
  clear g1
  go_wp2_with fail
  go_loopw [4, 3] (fun i v wr => ∃ (j : Nat) (qs : List Nat), (j : Int) ≤ 20 ∧ i = .int .i64 j ∧ Hid (qs.length = j) ∧ Hid (Mn w wr v qs 0)) (fun i _ _ => 20 - (intOf i).toNat)
  case atStart => exact ⟨0, [], by omega, rfl, rfl, HM0⟩
  case round =>
    clear HM0
    obtain ⟨j, qs, hj, rfl, HJ, HM⟩ := hrel
    by_cases hlt : (j : Int) < 20
    · have k1 := begin_ w wr HM.out.bel
      go_wp2_with fail
      refine k1.mono ?_
      rintro e w2 ⟨q, p, r, rfl, h2, g2⟩
      have HQ := hid (Pq.begin HM.out.bel h2 g2)
      have G2 := hid g2
      have HM2 := hid (HM.out.on g2)
      obtain ⟨av, cv, hv, -⟩ := HM2.out.row.form
      rw [HJ.out] at hv
      subst hv
      have HSB : Hid (w.heap.size ≤ w2.heap.size) := HM2.out.bel.size
      clear k1 h2 g2
      go_wp2_with (first | (at_builtin; refine wpList_appQ (w0 := w) (wr := w2) rfl _ _ rfl (.slice av j cv) qs q rfl HM2.out.row rfl (by have := HJ.out; omega) HSB.out ?_; intro v3 w3 hu hg hs3 hy; have HM3 := hid (HM.out.app G2.out HQ.out (fun k e => e.1) hu hg hy); clear hu hg hs3 hy) | fail)
      have HJ2 : Hid ((qs ++ [q]).length = j + 1) := by show _ = _; rw [List.length_append, HJ.out]; rfl
      go_roundw
      case rel => exact ⟨j + 1, qs ++ [q], by omega, by go_num, HJ2, HM3⟩
      case measure => simp [intOf]; omega
    · obtain rfl : j = 20 := by omega
      obtain ⟨av, cv, hv, hcs⟩ := HM.out.row.form
      rw [HJ.out] at hv
      subst hv
      obtain ⟨b, rfl⟩ : ∃ b, av = some ⟨b, 0, none⟩ := by
        rcases hcs with h | ⟨b, e, _⟩
        · have := HJ.out; omega
        · exact ⟨b, e⟩
      clear hcs
      have HCL : Hid (∀ wx N, Mn w wx (.slice (some ⟨b, 0, none⟩) 20 cv) qs N → ∀ i, i < 20 → wx.cell? ⟨b, i, none⟩ = some (.pointer (some ⟨qs.getD i 0, 0, none⟩))) := fun wx N hm i hi => by
        obtain ⟨av2, cv2, hv2, hf⟩ := hm.row.form
        injection hv2 with e1 e2 e3
        rcases hf with hf | ⟨b3, e4, hf⟩
        · have := HJ.out; omega
        · rw [e4] at e1
          have e5 := Option.some.inj e1
          injection e5 with e6
          rw [e6]; exact hf i (by rw [HJ.out]; omega)
      go_wp2_with fail
      go_loopw [6] (fun i wr => ∃ j : Nat, j ≤ n ∧ (j : Int) ≤ 2000 ∧ i = .int .i64 j ∧ Hid (Mn w wr (.slice (some ⟨b, 0, none⟩) 20 cv) qs (1100 * (j : Int)))) (fun i _ => n - (intOf i).toNat)
      case atStart => exact ⟨0, by omega, by omega, rfl, HM⟩
      case round =>
        clear HM hj hlt
        obtain ⟨j, hj, hj2, rfl, HM⟩ := hrel
        by_cases hlt : j < n ∧ (j : Int) < 2000
        case neg =>
          have hor : (j : Int) < n ∧ ¬ (j : Int) < 2000 ∨ ¬ (j : Int) < n := by omega
          clear hlt
          rcases hor with ⟨hjI, h20⟩ | hjI
          all_goals
            go_wp2_with fail
            go_loopw [8] (fun i wr => ∃ z : Nat, (z : Int) ≤ 20 ∧ i = .int .i64 z ∧ Hid (Mn w wr (.slice (some ⟨b, 0, none⟩) 20 cv) qs (1100 * (j : Int)))) (fun i _ => 20 - (intOf i).toNat)
            case atStart => exact ⟨0, by omega, rfl, HM⟩
            case round =>
              clear HM
              obtain ⟨z, hz, rfl, HM⟩ := hrel
              by_cases hlz : (z : Int) < 20
              · have pc := HCL.out _ _ HM.out z (by omega)
                have k1 := HM.out.under (i := z) (by rw [HJ.out]; omega)
                obtain ⟨qk, HQK⟩ : ∃ y, Hid (qs.getD z 0 = y) := ⟨_, rfl⟩
                rw [HQK.out] at pc k1
                go_wp2_with fail
                refine k1.mono ?_
                rintro e w4 ⟨rfl, h4⟩
                have H4 := hid h4
                clear k1 h4 pc
                go_wp2_with fail
                go_roundw
                case rel => exact ⟨z + 1, by omega, by go_num, H4⟩
                case measure => simp [intOf]; omega
              · have HB := hid HM.out.bel
                go_wp2_with fail
                go_ret
                exact ⟨rfl, HB.out⟩
        case pos =>
          obtain ⟨hlt, h20⟩ := hlt
          have hjI : (j : Int) < n := by omega
          obtain ⟨ba, off, y, rfl, hok, hat⟩ := HL.out.get hlt
          have hx := hat wr HM.out.bel
          have o0 := hx.1.o0
          have o1 := hx.1.o1
          have o2 := hx.1.o2
          have o3 := hx.1.o3
          have o4 := hx.1.o4
          have o5 := hx.1.o5
          have o6 := hx.1.o6
          have hmod : ((3 * (j : Int)).tmod 20) = ((3 * j % 20 : Nat) : Int) := by
            rw [Int.tmod_eq_emod_of_nonneg (by omega)]
            omega
          obtain ⟨t, HTT⟩ : ∃ t, Hid (3 * j % 20 = t) := ⟨_, rfl⟩
          rw [HTT.out] at hmod
          have hmod2 : (3 * (j : Int)) % 20 = (t : Int) := by have := HTT.out; omega
          have ht20 : t < 20 := by have := HTT.out; omega
          have ht20I : (t : Int) < 20 := by omega
          have ht0I : (0 : Int) ≤ t := by omega
          have hw3 : IntKind.i64.wrap (3 * (j : Int)) = 3 * (j : Int) := by rw [IntKind.wrap_i64]; omega
          have hwt : IntKind.i64.wrap (t : Int) = t := by rw [IntKind.wrap_i64]; omega
          have hwm : IntKind.i64.wrap ((3 * (j : Int)).tmod 20) = t := by rw [hmod]; exact hwt
          have HM2 : Hid (Mn w wr (.slice (some ⟨b, 0, none⟩) 20 cv) qs (1100 * ((j + 1 : Nat) : Int))) := by
            obtain ⟨Xs, q1, q2, q3⟩ := HM.out.ex
            exact ⟨HM.out.row, HM.out.bel, Xs, fun i hi => (q1 i hi).more (by omega), q2, q3⟩
          by_cases hk : y.kd = 7
          · have hkb : (y.kd == 7) = true := by simp [hk]
            clear hk hat hx hok
            go_wp2_with fail
            go_roundw
            case rel => exact ⟨j + 1, by omega, by omega, by go_num, HM2⟩
            case measure => simp [intOf]; omega
          · have hkb : (y.kd == 7) = false := by simp [hk]
            have pc := HCL.out _ _ HM.out t ht20
            have HKP := hid ((HM.out.drawn 1).plays (by omega) (i := t) (by rw [HJ.out]; exact ht20) hok ((hx.2).step fun k hk _ _ => rfl))
            obtain ⟨qk, HQK⟩ : ∃ y, Hid (qs.getD t 0 = y) := ⟨_, rfl⟩
            rw [HQK.out] at pc HKP
            unfold Wop.v at HKP
            have HAT : Hid (∀ wx, Below w.heap.size w wx → OpAt wx ba (off + j * 7) y) := fun wx hb => (hat wx hb).1
            have HCX : Hid (∀ wx N, Mn w wx (.slice (some ⟨b, 0, none⟩) 20 cv) qs N → wx.cell? ⟨b, t, none⟩ = some (.pointer (some ⟨qk, 0, none⟩))) := fun wx N hm => by rw [← HQK.out]; exact HCL.out wx N hm t ht20
            clear hk hat hx hok HM2
            go_wp2_with fail
            go_region_held3 (fun wx => wx.cell? ⟨b, t, none⟩ = some (.pointer (some ⟨qk, 0, none⟩)) ∧ wx.cell? ⟨ba, off + j * 7, none⟩ = some (.int .i64 y.kd) ∧ wx.cell? ⟨ba, off + j * 7 + 1, none⟩ = some (.bool y.sc) ∧ wx.cell? ⟨ba, off + j * 7 + 2, none⟩ = some (.int .i64 y.t) ∧ wx.cell? ⟨ba, off + j * 7 + 3, none⟩ = some (.int .i64 y.no) ∧ wx.cell? ⟨ba, off + j * 7 + 4, none⟩ = some (.int .i64 y.x) ∧ wx.cell? ⟨ba, off + j * 7 + 5, none⟩ = some (.int .i64 y.at') ∧ wx.cell? ⟨ba, off + j * 7 + 6, none⟩ = some (.slice y.a y.n y.c)) (go_keep) (first | (go_at_call 11; refine HKP.out.mono ?_; rintro e w4 ⟨rfl, h4⟩; have H4 := hid h4; have hz := HAT.out w4 h4.bel; have z0 := hz.o0; have z1 := hz.o1; have z2 := hz.o2; have z3 := hz.o3; have z4 := hz.o4; have z5 := hz.o5; have z6 := hz.o6; have zc := HCX.out _ _ h4; clear h4 hz))
            all_goals
              have H5 : Hid (Mn w w4 (.slice (some ⟨b, 0, none⟩) 20 cv) qs (1100 * ((j + 1 : Nat) : Int))) := by rw [show 1100 * ((j + 1 : Nat) : Int) = 1100 * (j : Int) + 1100 by omega]; exact H4.out
              clear HKP pc o0 o1 o2 o3 o4 o5 o6 z0 z1 z2 z3 z4 z5 z6 zc H4
              go_wp2_with fail
              go_roundw
              case rel => exact ⟨j + 1, by omega, by omega, by go_num, H5⟩
              case measure => simp [intOf]; omega
end Go.Proofs.Ytacjhbhmhgekhaa
