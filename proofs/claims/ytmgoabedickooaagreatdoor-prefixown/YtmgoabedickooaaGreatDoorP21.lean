import Derived.Test.YtmgoabedickooaaGreatDoorP20
namespace Go.Proofs.YtmgoabedickooaaGreatDoor
set_option maxRecDepth 100000
open Go.RowKit
set_option linter.unusedVariables false

/-! The order of byte lists, and of prefixes. -/
def lx : List Int → List Int → Bool
  | [], [] => false
  | [], _ :: _ => true
  | _ :: _, [] => false
  | a :: l, b :: r => if a = b then lx l r else decide (a < b)
theorem lx_val : ∀ (l r : List Int), l.length = r.length → (∀ z ∈ l, 0 ≤ z ∧ z ≤ 255) → (∀ z ∈ r, 0 ≤ z ∧ z ≤ 255) → lx l r = decide (val l < val r) := by
  intro l
  induction l with
  | nil =>
    intro r h _ _
    match r, h with
    | [], _ => exact (decide_eq_false (by omega)).symm
  | cons a l ih =>
    intro r h hl hr
    match r, h with
    | b :: r, h =>
      have hlen : l.length = r.length := by simpa using h
      have ha := hl a (by simp)
      have hb := hr b (by simp)
      have vl := val_bound l (fun z hz => hl z (by simp [hz]))
      have vr := val_bound r (fun z hz => hr z (by simp [hz]))
      rw [lx, val_cons, val_cons]
      by_cases e : a = b
      · rw [if_pos e, ih r hlen (fun z hz => hl z (by simp [hz])) (fun z hz => hr z (by simp [hz])), e, hlen]
        exact decide_eq_decide.2 (by omega)
      · rw [if_neg e, hlen]
        rw [hlen] at vl
        generalize (256 : Int) ^ r.length = p at *
        refine decide_eq_decide.2 ⟨fun h => ?_, fun h => ?_⟩
        · have h1 : (a + 1) * p ≤ b * p := Int.mul_le_mul_of_nonneg_right (by omega) (by omega)
          rw [Int.add_mul] at h1
          omega
        · by_cases hab : a < b
          · exact hab
          · exfalso
            have h1 : (b + 1) * p ≤ a * p := Int.mul_le_mul_of_nonneg_right (by omega) (by omega)
            rw [Int.add_mul] at h1
            omega
/-- Alike up to here, and then. -/
theorem lx_at : ∀ (l r : List Int) (j : Nat), j < l.length → j < r.length → (∀ i, i < j → l.getD i 0 = r.getD i 0) → l.getD j 0 ≠ r.getD j 0 → lx l r = decide (l.getD j 0 < r.getD j 0) := by
  intro l
  induction l with
  | nil => intro r j h; simp at h
  | cons a l ih =>
    intro r j h1 h2 h3 h4
    match r, h2 with
    | b :: r, h2 =>
      rw [lx]
      cases j with
      | zero =>
        have h4 : a ≠ b := by simpa using h4
        rw [if_neg h4]
        simp
      | succ j =>
        have e : a = b := by simpa using h3 0 (by omega)
        rw [if_pos e, ih r j (by simpa using h1) (by simpa using h2) (fun i hi => by simpa using h3 (i + 1) (by omega)) (by simpa using h4)]
        simp
theorem lx_all : ∀ (l r : List Int), (∀ i, i < l.length → i < r.length → l.getD i 0 = r.getD i 0) → lx l r = decide (l.length < r.length) := by
  intro l
  induction l with
  | nil =>
    intro r _
    cases r with
    | nil => rfl
    | cons b r => simp [lx]
  | cons a l ih =>
    intro r h3
    cases r with
    | nil => simp [lx]
    | cons b r =>
      rw [lx, if_pos (by simpa using h3 0 (by simp) (by simp)), ih r (fun i hi hj => by simpa using h3 (i + 1) (by simpa using hi) (by simpa using hj))]
      simp
theorem val_pp {F H L : Int} (hv : va F H L = true) (hH : InU H) (hL : InU L) : val (pa F H L) = ad H L := by
  obtain ⟨q1, q2⟩ := val_pa hv hH hL
  unfold ah at q1
  unfold al at q2
  unfold ad
  omega
theorem lx_pp {F H L B F' H' L' B' : Int} (h1 : vp F H L B = true) (h2 : vp F' H' L' B' = true) (hH : InU H) (hL : InU L) (hH' : InU H') (hL' : InU L') : lx (pp F H L B) (pp F' H' L' B') = decide (cp F H L B F' H' L' B' < 0) := by
  have v1 := (vp_in h1).1
  have v2 := (vp_in h2).1
  have e1 : pp F H L B = F :: B :: pa F H L := by unfold pp; rw [h1]; rfl
  have e2 : pp F' H' L' B' = F' :: B' :: pa F' H' L' := by unfold pp; rw [h2]; rfl
  rw [e1, e2, lx, lx]
  unfold cp
  by_cases hF : F = F'
  · rw [if_pos hF, if_neg (not_not_intro hF)]
    by_cases hB : B = B'
    · rw [if_pos hB, if_neg (not_not_intro hB)]
      subst hF
      rw [lx_val _ _ (by rw [pa_length, pa_length, v1, v2]) (pa_byte _ _ _) (pa_byte _ _ _), val_pp v1 hH hL, val_pp v2 hH' hL']
      unfold InU at *
      unfold ad od
      refine decide_eq_decide.2 ?_
      by_cases hh : H = H'
      · rw [if_neg (not_not_intro hh)]
        split
        · omega
        · split <;> omega
      · rw [if_pos hh]
        split
        · omega
        · split <;> omega
    · rw [if_neg hB, if_pos hB]
      unfold od
      refine decide_eq_decide.2 ?_
      split
      · omega
      · split <;> omega
  · rw [if_neg hF, if_pos hF]
    unfold od
    refine decide_eq_decide.2 ?_
    split
    · omega
    · split <;> omega
theorem od_neg (a b : Int) : od a b = -od b a := by
  unfold od
  split <;> split <;> try split <;> omega
  all_goals omega
theorem cp_neg (F H L B F' H' L' B' : Int) : cp F H L B F' H' L' B' = -cp F' H' L' B' F H L B := by
  unfold cp
  by_cases e1 : F = F'
  · rw [if_neg (not_not_intro e1), if_neg (not_not_intro e1.symm)]
    by_cases e2 : B = B'
    · rw [if_neg (not_not_intro e2), if_neg (not_not_intro e2.symm)]
      by_cases e3 : H = H'
      · rw [if_neg (not_not_intro e3), if_neg (not_not_intro e3.symm)]
        exact od_neg _ _
      · rw [if_pos e3, if_pos (fun h => e3 h.symm)]
        exact od_neg _ _
    · rw [if_pos e2, if_pos (fun h => e2 h.symm)]
      exact od_neg _ _
  · rw [if_pos e1, if_pos (fun h => e1 h.symm)]
    exact od_neg _ _
theorem cp_zero (F H L B F' H' L' B' : Int) : cp F H L B F' H' L' B' = 0 ↔ F = F' ∧ B = B' ∧ H = H' ∧ L = L' := by
  have z : ∀ a b : Int, od a b = 0 ↔ a = b := od_zero
  unfold cp
  split
  · rw [z]; omega
  · split
    · rw [z]; omega
    · split
      · rw [z]; omega
      · rw [z]; omega
/-- None begins another one's. -/
theorem pp_begin {F H L B F' H' L' B' : Int} (h1 : vp F H L B = true) (h2 : vp F' H' L' B' = true) (hH : InU H) (hL : InU L) (hH' : InU H') (hL' : InU L') (n : Nat) (hn : n = min (pp F H L B).length (pp F' H' L' B').length) : (pp F H L B).take n = (pp F' H' L' B').take n ↔ cp F H L B F' H' L' B' = 0 := by
  have v1 := (vp_in h1).1
  have v2 := (vp_in h2).1
  have e1 : pp F H L B = F :: B :: pa F H L := by unfold pp; rw [h1]; rfl
  have e2 : pp F' H' L' B' = F' :: B' :: pa F' H' L' := by unfold pp; rw [h2]; rfl
  rw [cp_zero]
  constructor
  · intro h
    have l1 : (pp F H L B).length = (pa F H L).length + 1 + 1 := by rw [e1]; rfl
    have l2 : (pp F' H' L' B').length = (pa F' H' L').length + 1 + 1 := by rw [e2]; rfl
    obtain ⟨m, rfl⟩ : ∃ m, n = m + 1 + 1 := ⟨n - 2, by omega⟩
    rw [e1, e2, List.take_succ_cons, List.take_succ_cons, List.take_succ_cons, List.take_succ_cons] at h
    injection h with hF h
    injection h with hB h
    subst hF
    have ll : (pa F H L).length = (pa F H' L').length := by rw [pa_length, pa_length, v1, v2]
    rw [List.take_of_length_le (by omega), List.take_of_length_le (by omega)] at h
    obtain ⟨q1, q2⟩ := val_pa v1 hH hL
    obtain ⟨q3, q4⟩ := val_pa v2 hH' hL'
    rw [h] at q1 q2
    exact ⟨rfl, hB, q1.symm.trans q3, q2.symm.trans q4⟩
  · rintro ⟨rfl, rfl, rfl, rfl⟩
    rfl
end Go.Proofs.YtmgoabedickooaaGreatDoor
