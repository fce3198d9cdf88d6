import Derived.Test.YtmgoabedickooaaGreatDoorP18
namespace Go.Proofs.YtmgoabedickooaaGreatDoor
set_option maxRecDepth 100000
open Go.RowKit
set_option linter.unusedVariables false

/-! Parse of what Print answered. -/
theorem tx_shape (p : List Nat) (hp : ∀ x ∈ p, x < 256) (hl : p.length = 4 ∨ p.length = 16) : (tx p).length ≤ 39 ∧ tx p ≠ [] ∧ ∀ z ∈ tx p, z ≠ 47 := by
  rcases hl with hl | hl
  · match p, hl, hp with
    | [a, b, c, d], _, hp =>
      have ha := dgs_three a (hp a (by simp))
      have hb := dgs_three b (hp b (by simp))
      have hc := dgs_three c (hp c (by simp))
      have hd := dgs_three d (hp d (by simp))
      rw [tx4]
      refine ⟨by simp only [List.length_append, List.length_cons]; omega, by simp, ?_⟩
      exact not_cons 47 46 _ _ (by decide) (dgs_not a 47 (by decide)) <| not_cons 47 46 _ _ (by decide) (dgs_not b 47 (by decide)) <| not_cons 47 46 _ _ (by decide) (dgs_not c 47 (by decide)) (dgs_not d 47 (by decide))
  · match p, hl, hp with
    | [a0, a1, a2, a3, a4, a5, a6, a7, a8, a9, a10, a11, a12, a13, a14, a15], _, hp =>
      rw [tx16]
      refine ⟨by simp [hx], by simp [hx], ?_⟩
      exact not_cons 47 58 _ _ (by decide) (hx2_not a0 a1 47 (hp _ (by simp)) (hp _ (by simp)) (.inl (by decide))) <| not_cons 47 58 _ _ (by decide) (hx2_not a2 a3 47 (hp _ (by simp)) (hp _ (by simp)) (.inl (by decide))) <| not_cons 47 58 _ _ (by decide) (hx2_not a4 a5 47 (hp _ (by simp)) (hp _ (by simp)) (.inl (by decide))) <| not_cons 47 58 _ _ (by decide) (hx2_not a6 a7 47 (hp _ (by simp)) (hp _ (by simp)) (.inl (by decide))) <| not_cons 47 58 _ _ (by decide) (hx2_not a8 a9 47 (hp _ (by simp)) (hp _ (by simp)) (.inl (by decide))) <| not_cons 47 58 _ _ (by decide) (hx2_not a10 a11 47 (hp _ (by simp)) (hp _ (by simp)) (.inl (by decide))) <| not_cons 47 58 _ _ (by decide) (hx2_not a12 a13 47 (hp _ (by simp)) (hp _ (by simp)) (.inl (by decide))) <| hx2_not a14 a15 47 (hp _ (by simp)) (hp _ (by simp)) (.inl (by decide))
theorem ta_shape {F H L : Int} (hv : va F H L = true) (hH : InU H) (hL : InU L) : (ta F H L).length ≤ 39 ∧ ta F H L ≠ [] ∧ ∀ z ∈ ta F H L, z ≠ 47 := by
  obtain ⟨hn, _⟩ := va_in hv hH hL
  have hl : (pa F H L).length = nb F / 8 := by rw [pa_length, hv]; rfl
  exact tx_shape _ (nl_lt (pa_byte F H L)) (by rw [nl_length, hl]; omega)
theorem ak_ta {F H L : Int} (hv : va F H L = true) (hH : InU H) (hL : InU L) : ak (ta F H L) = true ∧ aF (ta F H L) = F ∧ aH (ta F H L) = H ∧ aL (ta F H L) = L ∧ aE (ta F H L) = 0 := by
  obtain ⟨s1, s2, _⟩ := ta_shape hv hH hL
  obtain ⟨_, g2, g3, g4⟩ := guess_ta F H L hv hH hL
  have hk : ak (ta F H L) = true := by
    unfold ak
    rw [g2, g3, g4]
    exact decide_eq_true ⟨s1, s2, rfl⟩
  obtain ⟨q1, q2, q3, q4⟩ := a_good hk
  exact ⟨hk, q1.symm.trans g2, q2.symm.trans g3, q3.symm.trans g4, q4.symm⟩
theorem pk_tp {F H L B : Int} (hv : vp F H L B = true) (hH : InU H) (hL : InU L) : pk (tp F H L B) = true ∧ rF (tp F H L B) = F ∧ rH (tp F H L B) = H ∧ rL (tp F H L B) = L ∧ rB (tp F H L B) = B ∧ rE (tp F H L B) = 0 := by
  obtain ⟨ha, hB0, hB1, _⟩ := vp_in hv
  have hn := nb_le F
  obtain ⟨s1, s2, s3⟩ := ta_shape ha hH hL
  obtain ⟨k0, k1, k2, k3, k4⟩ := ak_ta ha hH hL
  have hd := dgs_three B.toNat (by omega)
  have e : tp F H L B = ta F H L ++ 47 :: dgs B.toNat 1 := by unfold tp; rw [hv]; rfl
  have ec : cu 47 (tp F H L B) = [ta F H L, dgs B.toNat 1] := by
    rw [e, cu_cons _ _ _ s3, cu_one _ _ (dgs_not _ 47 (by decide))]
  have e0 : x0 (tp F H L B) = ta F H L := by unfold x0; rw [ec]; rfl
  have e1 : x1 (tp F H L B) = dgs B.toNat 1 := by unfold x1; rw [ec]; rfl
  have en : nm 10 (dgs B.toNat 1) = B := by rw [nm_dgs _ (by omega)]; omega
  have hk : pk (tp F H L B) = true := by
    unfold pk rT
    rw [e0, e1, en, ec, k1, k2, k3, k4]
    refine decide_eq_true ⟨?_, rfl, rfl, rfl⟩
    rw [e, List.length_append, List.length_cons]
    omega
  obtain ⟨q1, q2, q3, q4, q5⟩ := r_good hk
  rw [e0] at q1 q2 q3
  rw [e1, en] at q4
  exact ⟨hk, q1.symm.trans k1, q2.symm.trans k2, q3.symm.trans k3, q4.symm, q5.symm⟩
/-- What is read is what would be written. -/
theorem tp_pk {l : List Nat} (h : pk l = true) : tp (rF l) (rH l) (rL l) (rB l) = l := by
  obtain ⟨q1, q2, q3, q4, _⟩ := r_good h
  rw [← q1, ← q2, ← q3, ← q4]
  exact (of_decide_eq_true (show decide _ = true from h)).2.2.2
theorem ta_ak {l : List Nat} (h : ak l = true) : ta (aF l) (aH l) (aL l) = l := by
  obtain ⟨q1, q2, q3, _⟩ := a_good h
  rw [← q1, ← q2, ← q3]
  exact (of_decide_eq_true (show decide _ = true from h)).2.2
end Go.Proofs.YtmgoabedickooaaGreatDoor
