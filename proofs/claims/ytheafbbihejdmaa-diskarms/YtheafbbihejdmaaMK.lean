import Derived.Test.YtheafbbihejdmaaMJ
namespace Go.Proofs.Ytheafbbihejdmaa
set_option maxRecDepth 100000
open Go.RowKit Go.Shelf
set_option linter.unusedVariables false

set_option maxHeartbeats 16000000 in
theorem diskArms_ (a1 a3 : Option Addr) (m1 c1 m3 c3 : Nat) (fs more : List (Int × Int)) (cnt : Int) (w : World) (h1 : Fs w a1 m1 fs) (h3 : Fs w a3 m3 more) (hm1 : m1 * 16 ≤ 140737488355328) (hm3 : m3 * 16 ≤ 140737488355328) (hcnt : -9223372036854775808 ≤ cnt ∧ cnt ≤ 9223372036854775807) :
    Calls Try.prog 7 #[.slice a1 m1 c1, .int .i64 cnt, .slice a3 m3 c3] w fun e w' => e = .returned (.bool true) ∧ Below w.heap.size w w' := by
  have hlen := h1.1
  have H1 := hid h1
  have H3 := hid h3
  have hm : m1 ≤ 140737488355328 := by omega
  clear h1 h3
  go_enter Try.func7, Try.ntmps7
  go_wp2_with fail
  refine (first_ w).mono ?_
  rintro e w1 ⟨rfl, B1⟩
  go_wp2_with fail
  refine (new_ 32 w1 (by decide) (by decide)).mono ?_
  rintro e w2 ⟨d, rfl, D2, g2⟩
  have B2 := bel_bel B1 B1.size g2
  have S0 : Sd w w2 d (st0 32) _ := ⟨D2, fun b hb => Nat.le_trans B1.size hb.1, B2⟩
  generalize (fun b => w1.heap.size ≤ b ∧ b < w2.heap.size) = Q0 at *
  have ka := arm_ d (st0 32) Q0 a1 m1 c1 fs w2 S0.dev (H1.out.below S0.bel) hm1
  have HS0 := hid S0
  clear B1 g2 D2 B2 S0
  go_wp2_with fail
  refine ka.mono ?_
  rintro e wA ⟨rfl, DA, FA⟩
  have SA := HS0.out.step DA FA
  generalize (fun b => Q0 b ∨ (w2.heap.size ≤ b ∧ b < wA.heap.size)) = QA at *
  have HSA := hid SA
  obtain ⟨E, HE⟩ : ∃ E, Hid (arE (st0 32) fs = E) := ⟨_, rfl⟩
  rw [HE.out]
  clear ka DA FA SA HS0
  go_wp2_with fail
  go_loopw [10, 11] (fun bd i wr => ∃ (j : Nat) (b : Bool), j ≤ m1 ∧ bd = .bool b ∧ i = .int .i64 j ∧ Drawn wA wr ∧ (b = true → ¬ okF fs) ∧ (b = false → Gd fs j)) (fun _ i _ => m1 - (intOf i).toNat)
  case atStart => exact ⟨0, false, Nat.zero_le _, rfl, rfl, ⟨rfl, rfl, rfl, rfl⟩, fun h => (by cases h), fun _ => ⟨fun i hi => by omega, fun _ i hi => by omega⟩⟩
  case round =>
    obtain ⟨j, bd, hj, rfl, rfl, hd, hbt, hbf⟩ := hrel
    by_cases hlt : j < m1
    · have hjI : (j : Int) < (m1 : Int) := by omega
      have hB := bel_bel HSA.out.bel HSA.out.bel.size hd.below
      obtain ⟨b, off, rfl, hc⟩ := H1.out.cells hlt hB
      obtain ⟨x0, x1⟩ := hc j hlt
      have HC := hid hc
      have HD := hid hd
      have HGT := hid hbt
      have HGF := hid hbf
      have HWL : Hid (okF fs → Wl (fs.getD j (0, 0))) := fun h => okF_wl h (by omega)
      unfold Wl at HWL
      have HGS : Hid (∀ t : Nat, Gd fs j → Wl (fs.getD j (0, 0)) → (t = j ∨ 200 ≤ j) → (∀ k, k < t → (fs.getD k (0, 0)).1 ≠ (fs.getD j (0, 0)).1) → Gd fs (j + 1)) := fun t g1 g2 ht g3 => by
        refine ⟨fun i hi => ?_, fun h2 i hi k hk => ?_⟩
        · by_cases h : i = j
          · rw [h]; exact g2
          · exact g1.w i (by omega)
        · by_cases h : i = j
          · rw [h]; exact g3 k (by omega)
          · exact g1.a (by omega) i (by omega) k hk
      unfold Wl at HGS
      obtain ⟨A, HA⟩ : ∃ A, Hid ((fs.getD j (0, 0)).1 = A) := ⟨_, rfl⟩
      obtain ⟨K, HK⟩ : ∃ K, Hid ((fs.getD j (0, 0)).2 = K) := ⟨_, rfl⟩
      rw [HA.out] at x0 HWL
      rw [HK.out] at x1 HWL
      simp only [HA.out, HK.out] at HGS
      clear hd hbt hbf hc hB
      have cs : (bd = true ∨ (bd = false ∧ A < 1) ∨ (bd = false ∧ ¬ A < 1 ∧ K < 1) ∨ (bd = false ∧ ¬ A < 1 ∧ ¬ K < 1 ∧ 2 < K)) ∨ (bd = false ∧ ¬ A < 1 ∧ ¬ K < 1 ∧ ¬ 2 < K) := by
        cases bd
        · by_cases q1 : A < 1
          · exact .inl (.inr (.inl ⟨rfl, q1⟩))
          · by_cases q2 : K < 1
            · exact .inl (.inr (.inr (.inl ⟨rfl, q1, q2⟩)))
            · by_cases q3 : 2 < K
              · exact .inl (.inr (.inr (.inr ⟨rfl, q1, q2, q3⟩)))
              · exact .inr ⟨rfl, q1, q2, q3⟩
        · exact .inl (.inl rfl)
      rcases cs with cs | ⟨rfl, q1, q2, q3⟩
      · have HNO : Hid (¬ okF fs) := fun ho => by
          have hw := HWL.out ho
          rcases cs with rfl | ⟨_, q⟩ | ⟨_, _, q⟩ | ⟨_, _, _, q⟩
          · exact HGT.out rfl ho
          · omega
          · omega
          · omega
        clear HGT HGF HGS HWL HC
        rcases cs with rfl | ⟨rfl, q1⟩ | ⟨rfl, q1, q2⟩ | ⟨rfl, q1, q2, q3⟩
        all_goals
          go_wp2_with fail
          go_loopw [10, 12] (fun bd k wx => bd = .bool true ∧ k = .int .i64 0 ∧ Drawn wA wx) (fun _ _ _ => 0)
          case atStart => exact ⟨rfl, rfl, HD.out⟩
          case round =>
            obtain ⟨rfl, rfl, hd⟩ := hrel
            have HD2 := hid hd
            clear hd
            have cs2 : ¬ (0 : Int) < (j : Int) ∨ ((0 : Int) < (j : Int) ∧ ¬ (j : Int) < 200) ∨ ((0 : Int) < (j : Int) ∧ (j : Int) < 200) := by omega
            rcases cs2 with p1 | ⟨p1, p2⟩ | ⟨p1, p2⟩
            all_goals
              go_wp2_with fail
              go_roundw
              case rel => exact ⟨j + 1, true, by omega, rfl, by go_num, HD2.out, fun _ => HNO.out, fun h => (by cases h)⟩
              case measure => simp [intOf]; omega
      · have HW : Hid (1 ≤ A ∧ (K = 1 ∨ K = 2)) := by
          show _ ∧ _
          omega
        have HG0 := hid (HGF.out rfl)
        clear HGT HGF HWL
        go_wp2_with fail
        go_loopw [10, 12] (fun bd k wx => ∃ (t : Nat) (b : Bool), t ≤ j ∧ bd = .bool b ∧ k = .int .i64 t ∧ Drawn wA wx ∧ (b = true → ¬ okF fs) ∧ (b = false → ∀ k, k < t → (fs.getD k (0, 0)).1 ≠ A)) (fun _ k _ => j - (intOf k).toNat)
        case atStart => exact ⟨0, false, Nat.zero_le _, rfl, rfl, HD.out, fun h => (by cases h), fun _ k hk => by omega⟩
        case round =>
          clear x0 x1
          obtain ⟨t, bt, ht, rfl, rfl, hd, hbt, hbf⟩ := hrel
          by_cases hgo : t < j ∧ j < 200 ∧ bt = false
          · obtain ⟨p1, p2, rfl⟩ := hgo
            have p1I : (t : Int) < (j : Int) := by omega
            have p2I : (j : Int) < 200 := by omega
            have ptI : (t : Int) < (m1 : Int) := by omega
            have hB := bel_bel HSA.out.bel HSA.out.bel.size hd.below
            obtain ⟨b', off', eb, hc⟩ := H1.out.cells hlt hB
            obtain ⟨rfl, rfl⟩ : b = b' ∧ off = off' := by simpa using eb
            have y0 := (hc t (by omega)).1
            have z0 := (hc j hlt).1
            rw [HA.out] at z0
            have HNE : Hid (okF fs → (fs.getD t (0, 0)).1 ≠ A) := fun ho => by
              have := okF_ne ho (show j < fs.length by omega) p1
              rwa [HA.out] at this
            obtain ⟨B, HB⟩ : ∃ B, Hid ((fs.getD t (0, 0)).1 = B) := ⟨_, rfl⟩
            rw [HB.out] at y0 HNE
            have HBF := hid (hbf rfl)
            have HD2 := hid hd
            clear hd hbt hbf hc eb hB
            by_cases hBA : B = A
            · subst hBA
              have te : (B == B) = true := by simp
              go_wp2_with fail
              go_quiet (fail)
              go_wp2_with fail
              go_roundw
              case rel => exact ⟨t + 1, true, by omega, by first | rfl | simp, by go_num, ⟨HD2.out.os, HD2.out.tape, HD2.out.output, HD2.out.heap⟩, fun _ ho => HNE.out ho rfl, fun h => (by cases h)⟩
              case measure => simp [intOf]; omega
            · have te : (B == A) = false := by simpa using hBA
              go_wp2_with fail
              go_quiet (fail)
              go_wp2_with fail
              go_roundw
              case rel => exact ⟨t + 1, false, by omega, by first | rfl | simp [te], by go_num, ⟨HD2.out.os, HD2.out.tape, HD2.out.output, HD2.out.heap⟩, fun h => (by cases h), fun _ k hk => by
                by_cases h : k = t
                · rw [h, HB.out]; exact hBA
                · exact HBF.out k (by omega)⟩
              case measure => simp [intOf]; omega
          · have cs2 : ¬ (t : Int) < (j : Int) ∨ ((t : Int) < (j : Int) ∧ ¬ (j : Int) < 200) ∨ ((t : Int) < (j : Int) ∧ (j : Int) < 200 ∧ bt = true) := by
              by_cases p1 : t < j
              · by_cases p2 : j < 200
                · refine .inr (.inr ⟨by omega, by omega, ?_⟩)
                  cases bt
                  · exact absurd ⟨p1, p2, rfl⟩ hgo
                  · rfl
                · exact .inr (.inl ⟨by omega, by omega⟩)
              · exact .inl (by omega)
            have HN : Hid (bt = true → ¬ okF fs) := hbt
            have HF : Hid (bt = false → Gd fs (j + 1)) := fun e => HGS.out t HG0.out HW.out (by
              rcases cs2 with p | ⟨p, q⟩ | ⟨p, q, r⟩
              · exact .inl (by omega)
              · exact .inr (by omega)
              · rw [e] at r; cases r) (hbf e)
            have HD2 := hid hd
            clear hd hbt hbf hgo HG0 HW HGS
            rcases cs2 with p1 | ⟨p1, p2⟩ | ⟨p1, p2, rfl⟩
            all_goals
              go_wp2_with fail
              go_roundw
              case rel => exact ⟨j + 1, _, by omega, rfl, by go_num, HD2.out, HN.out, HF.out⟩
              case measure => simp [intOf]; omega
    · have hjI : ¬ (j : Int) < (m1 : Int) := by omega
      have hjm : j = m1 := by omega
      have HD := hid hd
      by_cases h200 : 200 < m1
      · have t200 : (200 : Int) < (m1 : Int) := by omega
        have B := bel_bel HSA.out.bel HSA.out.bel.size HD.out.below
        have HB := hid B
        clear B hbt hbf hd
        go_wp2_with fail
        go_ret
        exact ⟨rfl, HB.out⟩
      · have t200 : ¬ (200 : Int) < (m1 : Int) := by omega
        cases bd with
        | true =>
          have hE : E = 105 := by
            have := HE.out
            unfold arE at this
            rw [if_neg (hbt rfl)] at this
            exact this.symm
          subst hE
          have HB := hid (bel_bel HSA.out.bel HSA.out.bel.size HD.out.below)
          clear hbt hbf hd HD
          go_wp2_with (go_at_call 19; refine (num_ _ _).mono ?_; rintro e w' ⟨rfl, hw⟩; obtain rfl := hw.symm; clear hw)
          go_ret
          exact ⟨rfl, HB.out⟩
        | false =>
          have HOK : Hid (okF fs) := Gd.ok (by have := hbf rfl; rw [hjm, ← hlen] at this; exact this) (by omega)
          have hE : E = 0 := by
            have := HE.out
            unfold arE at this
            rw [if_pos HOK.out] at this
            exact this.symm
          subst hE
          obtain ⟨s1, HS1⟩ : ∃ s1, Hid (arS (st0 32) fs = s1) := ⟨_, rfl⟩
          have hs1 : s1.F = lookF fs ∧ s1.P = [] ∧ s1.c = 0 ∧ s1.on = true := by
            have e := HS1.out
            unfold arS at e
            rw [if_pos ⟨HOK.out, rfl⟩] at e
            rw [← e]
            exact ⟨rfl, rfl, rfl, rfl⟩
          rw [HS1.out] at HSA
          have SB := hid (HSA.out.below HD.out.below)
          obtain ⟨z1, z2, z3, z4⟩ := hs1
          clear hbt hbf hd HD HSA HS1 HE hjI hjm hj
          go_wp2_with (go_at_call 19; refine (num_ _ _).mono ?_; rintro e w' ⟨rfl, hw⟩; obtain rfl := hw.symm; clear hw)
          go_loopw [9, 13, 14, 15] (fun ev on dn iv wr => ∃ (i : Nat) (s : St) (Q : Nat → Prop) (x : Int), 1 ≤ i ∧ i ≤ 61 ∧ ev = .int .i64 x ∧ on = .bool s.on ∧ dn = .int .i64 s.c ∧ iv = .int .i64 i ∧ Sd w wr d s Q ∧ s.F = lookF fs ∧ s.P = [] ∧ s.c + 1 ≤ i ∧ (s.on = true → s.c + 1 = i)) (fun _ _ _ iv _ => 61 - (intOf iv).toNat)
          case atStart => exact ⟨1, s1, QA, 0, by decide, by decide, rfl, by rw [z4], by rw [z3]; rfl, rfl, SB.out, z1, z2, by omega, fun _ => by omega⟩
          case round =>
            clear SB z1 z2 z3 z4
            obtain ⟨i, s, Q, x, hi1, hi2, rfl, rfl, rfl, rfl, hs, hF, hP, hc1, hc2⟩ := hrel
            have HS := hid hs
            clear hs
            by_cases hlt : (i : Int) ≤ cnt ∧ (i : Int) ≤ 60
            · obtain ⟨hl1, hl2⟩ := hlt
              go_wp2_with fail
              go_loopw [16, 17] (fun wv kv wx => ∃ k : Nat, k ≤ m1 ∧ wv = .int .i64 (errOf (lookF (fs.take k) i)) ∧ kv = .int .i64 k ∧ wr = wx) (fun _ kv _ => m1 - (intOf kv).toNat)
              case atStart => exact ⟨0, Nat.zero_le _, by rw [List.take_zero]; rfl, rfl, rfl⟩
              case round =>
                obtain ⟨k, hk, rfl, rfl, rfl⟩ := hrel
                by_cases hkl : k < m1
                · have hkI : (k : Int) < (m1 : Int) := by omega
                  obtain ⟨b, off, rfl, hc⟩ := H1.out.cells hkl HS.out.bel
                  obtain ⟨x0, x1⟩ := hc k hkl
                  have HT := hid (lookF_take HOK.out (show k < fs.length by omega) (i : Int))
                  have hw := okF_wl HOK.out (show k < fs.length by omega)
                  unfold Wl at hw
                  clear hc
                  generalize fs.getD k (0, 0) = f at *
                  obtain ⟨A, K⟩ := f
                  simp only at *
                  obtain ⟨W, HW⟩ : ∃ W, Hid (errOf (lookF (fs.take k) i) = W) := ⟨_, rfl⟩
                  rw [HW.out]
                  by_cases hA : A = (i : Int)
                  · have ta : (A == (i : Int)) = true := by simpa using hA
                    rcases hw.2 with rfl | rfl
                    · go_wp2_with fail
                      go_roundw
                      case rel => exact ⟨k + 1, by omega, by rw [HT.out, if_pos hA]; rfl, by go_num, by first | rfl | trivial⟩
                      case measure => simp [intOf]; omega
                    · go_wp2_with fail
                      go_roundw
                      case rel => exact ⟨k + 1, by omega, by rw [HT.out, if_pos hA]; rfl, by go_num, by first | rfl | trivial⟩
                      case measure => simp [intOf]; omega
                  · have ta : (A == (i : Int)) = false := by simpa using hA
                    go_wp2_with fail
                    go_roundw
                    case rel => exact ⟨k + 1, by omega, by rw [HT.out, if_neg hA, HW.out], by go_num, by first | rfl | trivial⟩
                    case measure => simp [intOf]; omega
                · have hkI : ¬ (k : Int) < (m1 : Int) := by omega
                  rw [List.take_of_length_le (show fs.length ≤ k by omega)]
                  have kl := flush_ d s Q wr HS.out.dev (by omega) (by rw [hP]; exact Nat.zero_le _)
                  have f1 := flS_c s
                  have f2 := flS_on s
                  have f3 := flS_P hP
                  have f4 := flS_F s
                  rw [hF] at f4
                  have ts : ((s.c : Int) != (s.c : Int)) = false := by simp
                  have ts1 : (((s.c : Int) + 1) != ((s.c : Int) + 1)) = false := by simp
                  cases hon : s.on with
                  | false =>
                    rw [opE_off hon] at kl
                    rw [opS_off hon] at f1 f2
                    rw [hon] at f2
                    obtain ⟨s', HS'⟩ : ∃ s', Hid (flS s = s') := ⟨_, rfl⟩
                    rw [HS'.out] at kl f1 f2 f3 f4
                    go_wp2_with fail
                    refine kl.mono ?_
                    rintro e w3 ⟨rfl, D3, F3⟩
                    have S3 := HS.out.step0 D3 F3
                    have kp := powerD S3.dev
                    have kd := doneD S3.dev
                    rw [f2] at kp
                    rw [f1] at kd
                    have HS3 := hid S3
                    clear kl D3 F3 S3 HS
                    go_wp2_with (first | (go_at_call 19; refine (num_ _ _).mono ?_; rintro e w' ⟨rfl, hw⟩; obtain rfl := hw.symm; clear hw) | (go_at_call 31; refine kp.mono ?_; rintro e w' ⟨rfl, hw⟩; obtain rfl := hw.symm; clear hw) | (go_at_call 32; refine kd.mono ?_; rintro e w' ⟨rfl, hw⟩; obtain rfl := hw.symm; clear hw))
                    go_roundw
                    case rel => exact ⟨i + 1, s', Q, 104, by omega, by omega, rfl, by rw [f2], by rw [f1], by go_num, HS3.out, f4, f3, by omega, fun h => (by rw [f2] at h; cases h)⟩
                    case measure => simp [intOf]; omega
                  | true =>
                    have hci := hc2 hon
                    have hex : opE s = errOf (lookF fs i) := by
                      rw [opE_on hon, hF]
                      congr 2
                      omega
                    rw [hex] at kl
                    have g1 := opS_on_c hon
                    have g2 := opS_on_on hon
                    rw [hF, show ((s.c : Int) + 1) = (i : Int) by omega] at g2
                    rw [g1] at f1
                    rw [g2] at f2
                    have f1I : ((flS s).c : Int) = (s.c : Int) + 1 := by rw [f1]; omega
                    obtain ⟨W, HW⟩ : ∃ W, Hid (errOf (lookF fs i) = W) := ⟨_, rfl⟩
                    rw [HW.out] at kl f2
                    rw [HW.out]
                    obtain ⟨s', HS'⟩ : ∃ s', Hid (flS s = s') := ⟨_, rfl⟩
                    rw [HS'.out] at kl f1 f1I f2 f3 f4
                    have tw : (W != W) = false := by simp
                    clear g1 g2 hex
                    by_cases hW : W = 104
                    · have tq : (W != 104) = false := by simpa using hW
                      rw [decide_eq_false (fun h => h hW)] at f2
                      go_wp2_with fail
                      refine kl.mono ?_
                      rintro e w3 ⟨rfl, D3, F3⟩
                      have S3 := HS.out.step0 D3 F3
                      have kp := powerD S3.dev
                      have kd := doneD S3.dev
                      rw [f2] at kp
                      rw [f1I] at kd
                      have HS3 := hid S3
                      clear kl D3 F3 S3 HS
                      go_wp2_with (first | (go_at_call 19; refine (num_ _ _).mono ?_; rintro e w' ⟨rfl, hw⟩; obtain rfl := hw.symm; clear hw) | (go_at_call 31; refine kp.mono ?_; rintro e w' ⟨rfl, hw⟩; obtain rfl := hw.symm; clear hw) | (go_at_call 32; refine kd.mono ?_; rintro e w' ⟨rfl, hw⟩; obtain rfl := hw.symm; clear hw))
                      go_roundw
                      case rel => exact ⟨i + 1, s', Q, 104, by omega, by omega, rfl, by rw [f2], by rw [f1I], by go_num, HS3.out, f4, f3, by omega, fun h => (by rw [f2] at h; cases h)⟩
                      case measure => simp [intOf]; omega
                    · have tq : (W != 104) = true := by simpa using hW
                      rw [decide_eq_true hW] at f2
                      go_wp2_with fail
                      refine kl.mono ?_
                      rintro e w3 ⟨rfl, D3, F3⟩
                      have S3 := HS.out.step0 D3 F3
                      have kp := powerD S3.dev
                      have kd := doneD S3.dev
                      rw [f2] at kp
                      rw [f1I] at kd
                      have HS3 := hid S3
                      clear kl D3 F3 S3 HS
                      go_wp2_with (first | (go_at_call 19; refine (num_ _ _).mono ?_; rintro e w' ⟨rfl, hw⟩; obtain rfl := hw.symm; clear hw) | (go_at_call 31; refine kp.mono ?_; rintro e w' ⟨rfl, hw⟩; obtain rfl := hw.symm; clear hw) | (go_at_call 32; refine kd.mono ?_; rintro e w' ⟨rfl, hw⟩; obtain rfl := hw.symm; clear hw))
                      go_roundw
                      case rel => exact ⟨i + 1, s', Q, W, by omega, by omega, rfl, by rw [f2], by rw [f1I], by go_num, HS3.out, f4, f3, by omega, fun _ => by omega⟩
                      case measure => simp [intOf]; omega
            · have hjj : ¬ (i : Int) ≤ cnt ∨ ((i : Int) ≤ cnt ∧ ¬ (i : Int) ≤ 60) := by omega
              have ka := arm_ d s Q a3 m3 c3 more wr HS.out.dev (H3.out.below HS.out.bel) hm3
              have ts : ((s.c : Int) == (s.c : Int)) = true := by simp
              clear hlt
              by_cases hok : okF more ∧ s.on = true
              · have e1 : arE s more = 0 := by unfold arE; rw [if_pos hok.1, if_pos hok.2]
                have e2 : (arS s more).c = 0 := by unfold arS; rw [if_pos hok]
                rw [e1] at ka
                rw [hok.2]
                rcases hjj with p1 | ⟨p1, p2⟩
                all_goals
                  go_wp2_with fail
                  refine ka.mono ?_
                  rintro e w3 ⟨rfl, D3, F3⟩
                  have S3 := HS.out.step D3 F3
                  have kd := doneD S3.dev
                  rw [e2] at kd
                  have HS3 := hid S3
                  clear ka D3 F3 S3 HS
                  go_wp2_with (first | (go_at_call 19; refine (num_ _ _).mono ?_; rintro e w' ⟨rfl, hw⟩; obtain rfl := hw.symm; clear hw) | (go_at_call 32; refine kd.mono ?_; rintro e w' ⟨rfl, hw⟩; obtain rfl := hw.symm; clear hw))
                  go_ret
                  exact ⟨rfl, HS3.out.bel⟩
              · have e2 : arS s more = s := by unfold arS; rw [if_neg hok]
                have e1 : (arE s more == 0) = false := by
                  unfold arE
                  by_cases h1 : okF more
                  · rw [if_pos h1, if_neg (fun h2 => hok ⟨h1, h2⟩)]; rfl
                  · rw [if_neg h1]; rfl
                rw [e2] at ka
                obtain ⟨E, HE⟩ : ∃ E, Hid (arE s more = E) := ⟨_, rfl⟩
                rw [HE.out] at ka e1
                rcases hjj with p1 | ⟨p1, p2⟩
                all_goals
                  go_wp2_with fail
                  refine ka.mono ?_
                  rintro e w3 ⟨rfl, D3, F3⟩
                  have S3 := HS.out.step D3 F3
                  generalize (fun b => Q b ∨ (wr.heap.size ≤ b ∧ b < w3.heap.size)) = Q3 at *
                  have kd := doneD S3.dev
                  have kc := crash_ d s Q3 none 0 0 [] w3 S3.dev (by rw [hP]; exact Nat.zero_le _) ⟨rfl, .inl rfl⟩ (fun ad h _ => by cases h) (by decide)
                  have HS3 := hid S3
                  clear ka D3 F3 S3 HS
                  go_wp2_with (first | (go_at_call 19; refine (num_ _ _).mono ?_; rintro e w' ⟨rfl, hw⟩; obtain rfl := hw.symm; clear hw) | (go_at_call 32; refine kd.mono ?_; rintro e w' ⟨rfl, hw⟩; obtain rfl := hw.symm; clear hw))
                  refine kc.mono ?_
                  rintro e w4 ⟨rfl, D4, F4⟩
                  have S4 := HS3.out.step D4 F4
                  generalize (fun b => Q3 b ∨ (w3.heap.size ≤ b ∧ b < w4.heap.size)) = Q4 at *
                  have kd : Calls Try.prog 32 #[.pointer (some ⟨d, 0, none⟩)] w4 fun e w' => e = .returned (.int .i64 0) ∧ w' = w4 := doneD S4.dev
                  have kl : Calls Try.prog 30 #[.pointer (some ⟨d, 0, none⟩)] w4 fun e w' => e = .returned (.int .i64 0) ∧ Dev w' d (flS (crS s [])) Q4 ∧ Fr Q4 w4 w' := flush_ d _ Q4 w4 S4.dev (Nat.zero_le _) (Nat.zero_le _)
                  have HS4 := hid S4
                  clear kc D4 F4 S4 HS3
                  go_wp2_with (first | (go_at_call 19; refine (num_ _ _).mono ?_; rintro e w' ⟨rfl, hw⟩; obtain rfl := hw.symm; clear hw) | (go_at_call 32; refine kd.mono ?_; rintro e w' ⟨rfl, hw⟩; obtain rfl := hw.symm; clear hw))
                  refine kl.mono ?_
                  rintro e w5 ⟨rfl, D5, F5⟩
                  have S5 := HS4.out.step0 D5 F5
                  have kp : Calls Try.prog 31 #[.pointer (some ⟨d, 0, none⟩)] w5 fun e w' => e = .returned (.bool true) ∧ w' = w5 := powerD S5.dev
                  have HS5 := hid S5
                  clear kl kd D5 F5 S5 HS4
                  go_wp2_with (first | (go_at_call 19; refine (num_ _ _).mono ?_; rintro e w' ⟨rfl, hw⟩; obtain rfl := hw.symm; clear hw) | (go_at_call 31; refine kp.mono ?_; rintro e w' ⟨rfl, hw⟩; obtain rfl := hw.symm; clear hw))
                  go_ret
                  exact ⟨rfl, HS5.out.bel⟩
end Go.Proofs.Ytheafbbihejdmaa
