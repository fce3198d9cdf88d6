import Derived.Test.YtcaecfdeieoenaaP2
namespace Go.Proofs.Ytcaecfdeieoenaa
open Go.RowKit
set_option linter.unusedVariables false

theorem panew (w : World) (F H L B F' H' L' : Int) : Below w.heap.size w ((w.alloc (.cells #[.int .i64 F, .int .u64 H, .int .u64 L, .int .i64 B] 32)).alloc (.cells #[.int .i64 F', .int .u64 H', .int .u64 L'] 30)) ∧ Pm ((w.alloc (.cells #[.int .i64 F, .int .u64 H, .int .u64 L, .int .i64 B] 32)).alloc (.cells #[.int .i64 F', .int .u64 H', .int .u64 L'] 30)) w.heap.size F H L B ∧ Am ((w.alloc (.cells #[.int .i64 F, .int .u64 H, .int .u64 L, .int .i64 B] 32)).alloc (.cells #[.int .i64 F', .int .u64 H', .int .u64 L'] 30)) (w.heap.size + 1) F' H' L' := by
  refine ⟨(pnew w F H L B).alloc (by simp) _, (Pm.new w F H L B).alloc _, ?_⟩
  have := Am.new (w.alloc (.cells #[.int .i64 F, .int .u64 H, .int .u64 L, .int .i64 B] 32)) F' H' L'
  simpa using this
theorem ho_bad {F H L B F' H' L' : Int} (h : vp F H L B = false ∨ va F' H' L' = false ∨ F ≠ F') : ho F H L B F' H' L' = false := by
  unfold ho
  rcases h with h | h | h
  · rw [h]; rfl
  · rw [h, Bool.false_and, Bool.and_false]
  · rw [decide_eq_false (fun h' => h h'.1), Bool.and_false, Bool.and_false]
theorem ho_iff {F H L B H' L' : Int} (h : vp F H L B = true) (h' : va F H' L' = true) (hH : InU H) (hL : InU L) (hH' : InU H') (hL' : InU L') (b : Nat) (hb : B = b) : ho F H L B F H' L' = true ↔ ∀ i, i < b → bt (nb F) (ad H L) i = bt (nb F) (ad H' L') i := by
  obtain ⟨h1, h2, h3, _⟩ := vp_in h
  rw [head_same (nb F) _ _ (va_in h1 hH hL).2 (va_in h' hH' hL').2 b (by omega)]
  unfold ho
  rw [h, h', Bool.true_and, Bool.true_and, decide_eq_true_iff, hb, Int.toNat_natCast]
  exact ⟨fun h => h.2, fun h => ⟨rfl, h⟩⟩
set_option maxHeartbeats 1000000 in
theorem refHolds_ (F H L B F' H' L' : Int) (w : World) (hH : InU H) (hL : InU L) (hB : InI B) (hH' : InU H') (hL' : InU L') :
    Calls Try.prog 14 #[.agg #[.int .i64 F, .int .u64 H, .int .u64 L, .int .i64 B], .agg #[.int .i64 F', .int .u64 H', .int .u64 L']] w fun e w' => e = .returned (.bool (ho F H L B F' H' L')) ∧ Below w.heap.size w w' := by
  obtain ⟨B0, m0, m1⟩ := panew w F H L B F' H' L'
  have k1 := fun w => refValid_ F H L B w hH hL hB
  have k2 := fun w => refValidAddr_ F' H' L' w hL'
  have c0 := m0.c0
  have c1 := m0.c1
  have c2 := m0.c2
  have c3 := m0.c3
  have d0 := m1.c0
  have d1 := m1.c1
  have d2 := m1.c2
  go_enter Try.func14, Try.ntmps14
  go_wp2_with fail
  clear c0 c1 c2 c3 d0 d1 d2
  refine (k1 _).mono ?_
  rintro e w1 ⟨rfl, g2⟩
  replace m0 := m0.kept g2
  replace m1 := m1.kept g2
  replace B0 := bel_bel B0 B0.size g2
  clear g2 k1
  have d0 := m1.c0
  have d1 := m1.c1
  have d2 := m1.c2
  go_wp2_with fail
  clear d0 d1 d2
  refine (k2 _).mono ?_
  rintro e w2 ⟨rfl, g2⟩
  replace m0 := m0.kept g2
  replace m1 := m1.kept g2
  replace B0 := bel_bel B0 B0.size g2
  clear g2 k2
  have HBD := hid (ho_bad (F := F) (H := H) (L := L) (B := B) (F' := F') (H' := H') (L' := L'))
  cases hv : vp F H L B with
  | false =>
    have HE := hid (HBD.out (.inl hv))
    go_wp2_with fail
    go_ret
    exact ⟨ret_bool HE.out.symm, B0⟩
  | true =>
    cases hv' : va F' H' L' with
    | false =>
      have HE := hid (HBD.out (.inr (.inl hv')))
      go_wp2_with fail
      go_ret
      exact ⟨ret_bool HE.out.symm, B0⟩
    | true =>
      have c0 := m0.c0
      have d0 := m1.c0
      by_cases hF : F = F'
      · subst hF
        obtain ⟨h1, h2, h3, _⟩ := vp_in hv
        obtain ⟨hn, _⟩ := va_in h1 hH hL
        have HI := hid (fun b hb => ho_iff (B := B) hv hv' hH hL hH' hL' b hb)
        have k3 := fun i hi w => refBit_ F H L i w hL hH hn hi
        have k4 := fun i hi w => refBit_ F H' L' i w hL' hH' hn hi
        have hn128 := nb_le F
        generalize nb F = n at *
        obtain ⟨b, hb⟩ : ∃ b : Nat, B = b := ⟨B.toNat, by omega⟩
        subst hb
        have HV := hid (HI.out b rfl)
        have hbn : b ≤ n := by omega
        have hFF : (F != F) = false := by simp
        clear HI HBD hv hv' h1 h2 h3 hB
        go_wp2_with fail
        clear c0 d0
        go_loopw [7] (fun i wr => ∃ j : Nat, j ≤ b ∧ i = .int .i64 j ∧ Hid (∀ i, i < j → bt n (ad H L) i = bt n (ad H' L') i) ∧ Pm wr w.heap.size F H L b ∧ Am wr (w.heap.size + 1) F H' L' ∧ Below w.heap.size w wr) (fun i _ => b - (intOf i).toNat)
        case atStart => exact ⟨0, by omega, rfl, fun i h => by omega, m0, m1, B0⟩
        case round =>
          clear m0 m1 B0
          obtain ⟨j, hj, rfl, HZ, m0, m1, B0⟩ := hrel
          have c0 := m0.c0
          have c1 := m0.c1
          have c2 := m0.c2
          have c3 := m0.c3
          by_cases hlt : j < b
          · have hI : (j : Int) < (b : Int) := by omega
            have k5 := k3 j (by omega)
            have k6 := k4 j (by omega)
            go_wp2_with fail
            refine (k5 _).mono ?_
            rintro e w3 ⟨rfl, g2⟩
            replace m0 := m0.kept g2
            replace m1 := m1.kept g2
            replace B0 := bel_bel B0 B0.size g2
            clear g2 c0 c1 c2 c3 k5
            have d0 := m1.c0
            have d1 := m1.c1
            have d2 := m1.c2
            go_wp2_with fail
            refine (k6 _).mono ?_
            rintro e w4 ⟨rfl, g2⟩
            replace m0 := m0.kept g2
            replace m1 := m1.kept g2
            replace B0 := bel_bel B0 B0.size g2
            clear g2 d0 d1 d2 k6
            by_cases he : bt n (ad H L) j = bt n (ad H' L') j
            · have HZ2 : Hid (∀ i, i < j + 1 → bt n (ad H L) i = bt n (ad H' L') i) := fun i h2 => by
                by_cases e : i = j
                · rw [e]; exact he
                · exact HZ.out i (by omega)
              rw [he]
              generalize bt n (ad H' L') j = y at *
              have hyy : (y != y) = false := by simp
              clear he
              go_wp2_with fail
              go_roundw
              case rel => exact ⟨j + 1, by omega, by go_num, HZ2, m0, m1, B0⟩
              case measure => simp [intOf]; omega
            · have HE : Hid (ho F H L b F H' L' = false) := by
                show _ = _
                cases h : ho F H L b F H' L' with
                | false => rfl
                | true => exact absurd (HV.out.1 h j hlt) he
              generalize bt n (ad H' L') j = y at *
              generalize bt n (ad H L) j = x at *
              have hxy : (x = true ∧ y = false) ∨ (x = false ∧ y = true) := by cases x <;> cases y <;> simp_all
              clear he
              rcases hxy with ⟨rfl, rfl⟩ | ⟨rfl, rfl⟩
              all_goals
                go_wp2_with fail
                go_ret
                exact ⟨ret_bool HE.out.symm, B0⟩
          · have hI : ¬ (j : Int) < (b : Int) := by omega
            have HE := hid (HV.out.2 (fun i h1 => HZ.out i (by omega)))
            go_wp2_with fail
            go_ret
            exact ⟨ret_bool HE.out.symm, B0⟩
      · have HE := hid (HBD.out (.inr (.inr hF)))
        have hFF : (F != F') = true := bne_iff_ne.2 hF
        go_wp2_with fail
        go_ret
        exact ⟨ret_bool HE.out.symm, B0⟩
end Go.Proofs.Ytcaecfdeieoenaa
