import Derived.Test.YtcaecfdeieoenaaP1
namespace Go.Proofs.Ytcaecfdeieoenaa
open Go.RowKit
set_option linter.unusedVariables false

theorem va_out {F H L : Int} (h : va F H L = false) (B : Int) : vp F H L B = false := by unfold vp; rw [h]; rfl
theorem vp_iff {F H L B : Int} (h : va F H L = true) (hH : InU H) (hL : InU L) (b : Nat) (hb : B = b) (hn : b ≤ nb F) : vp F H L B = true ↔ ∀ i, b ≤ i → i < nb F → bt (nb F) (ad H L) i = false := by
  rw [tail_zero (nb F) (ad H L) _ b rfl hn]
  unfold vp
  rw [h, Bool.true_and, decide_eq_true_iff, hb, Int.toNat_natCast]
  constructor
  · exact fun h => h.2.2
  · exact fun h => ⟨by omega, by omega, h⟩
set_option maxHeartbeats 1000000 in
theorem refValid_ (F H L B : Int) (w : World) (hH : InU H) (hL : InU L) (hB : InI B) :
    Calls Try.prog 32 #[.agg #[.int .i64 F, .int .u64 H, .int .u64 L, .int .i64 B]] w fun e w' => e = .returned (.bool (vp F H L B)) ∧ Below w.heap.size w w' := by
  have B0 := pnew w F H L B
  have m0 := Pm.new w F H L B
  have k1 := fun w => refValidAddr_ F H L w hL
  have k2 := fun w => refBits_ F w
  unfold InI at hB
  have c0 := m0.c0
  have c1 := m0.c1
  have c2 := m0.c2
  have c3 := m0.c3
  go_enter Try.func32, Try.ntmps32
  go_wp2_with fail
  clear c0 c1 c2 c3
  refine (k1 _).mono ?_
  rintro e w1 ⟨rfl, g2⟩
  replace m0 := m0.kept g2
  replace B0 := bel_bel B0 B0.size g2
  clear g2 k1
  have c0 := m0.c0
  have c1 := m0.c1
  have c2 := m0.c2
  have c3 := m0.c3
  go_wp2_with fail
  refine (k2 _).mono ?_
  rintro e w2 ⟨rfl, rfl⟩
  cases hv : va F H L with
  | false =>
    go_wp2_with fail
    go_ret
    exact ⟨ret_bool (va_out hv B).symm, B0⟩
  | true =>
    obtain ⟨hn, hA⟩ := va_in hv hH hL
    have HVI := hid (fun b hb hn => vp_iff (B := B) hv hH hL b hb hn)
    have k3 := fun i hi w => refBit_ F H L i w hL hH hn hi
    have HVN : Hid (¬ (0 ≤ B ∧ B ≤ nb F) → vp F H L B = false) := fun h => by
      unfold vp
      rw [decide_eq_false (fun h' => h ⟨h'.1, h'.2.1⟩), Bool.and_false]
    have hn128 := nb_le F
    generalize nb F = n at *
    by_cases hneg : B < 0
    · have HE := hid (HVN.out (by omega))
      go_wp2_with fail
      go_ret
      exact ⟨ret_bool HE.out.symm, B0⟩
    · by_cases hbig : (n : Int) < B
      · have HE := hid (HVN.out (by omega))
        go_wp2_with fail
        go_ret
        exact ⟨ret_bool HE.out.symm, B0⟩
      · obtain ⟨b, hb⟩ : ∃ b : Nat, B = b := ⟨B.toNat, by omega⟩
        subst hb
        have HV := hid (HVI.out b rfl (by omega))
        clear HVI HVN hneg
        have d1 : decide ((b : Int) < 0) = false := decide_eq_false (by omega)
        have d2 : decide ((n : Int) < (b : Int)) = false := decide_eq_false hbig
        have hbn : b ≤ n := by omega
        have d3 : decide (n < b) = false := decide_eq_false (by omega)
        clear hbig hB
        go_wp2_with fail
        clear c0 c1 c2 c3 d1 d2 d3
        go_loopw [5] (fun i wr => ∃ j : Nat, b ≤ j ∧ j ≤ n ∧ i = .int .i64 j ∧ Hid (∀ i, b ≤ i → i < j → bt n (ad H L) i = false) ∧ Pm wr w.heap.size F H L b ∧ Below w.heap.size w wr) (fun i _ => n - (intOf i).toNat)
        case atStart => exact ⟨b, Nat.le_refl _, by omega, rfl, fun i h1 h2 => by omega, m0, B0⟩
        case round =>
          clear m0 B0
          obtain ⟨j, hbj, hjn, rfl, HZ, m0, B0⟩ := hrel
          have c0 := m0.c0
          have c1 := m0.c1
          have c2 := m0.c2
          have c3 := m0.c3
          by_cases hlt : j < n
          · have hI : (j : Int) < (n : Int) := by omega
            have k4 := k3 j hlt
            go_wp2_with fail
            refine (k4 _).mono ?_
            rintro e w3 ⟨rfl, g2⟩
            replace m0 := m0.kept g2
            replace B0 := bel_bel B0 B0.size g2
            clear g2 c0 c1 c2 c3 k4
            cases hz : bt n (ad H L) j with
            | true =>
              have HE : Hid (vp F H L b = false) := by
                show _ = _
                cases h : vp F H L b with
                | false => rfl
                | true => rw [HV.out.1 h j hbj hlt] at hz; cases hz
              go_wp2_with fail
              go_ret
              exact ⟨ret_bool HE.out.symm, B0⟩
            | false =>
              have HZ2 : Hid (∀ i, b ≤ i → i < j + 1 → bt n (ad H L) i = false) := fun i h1 h2 => by
                by_cases e : i = j
                · rw [e]; exact hz
                · exact HZ.out i h1 (by omega)
              go_wp2_with fail
              go_roundw
              case rel => exact ⟨j + 1, by omega, by omega, by go_num, HZ2, m0, B0⟩
              case measure => simp [intOf]; omega
          · have hI : ¬ (j : Int) < (n : Int) := by omega
            have HE := hid (HV.out.2 (fun i h1 h2 => HZ.out i h1 (by omega)))
            go_wp2_with fail
            go_ret
            exact ⟨ret_bool HE.out.symm, B0⟩
end Go.Proofs.Ytcaecfdeieoenaa
