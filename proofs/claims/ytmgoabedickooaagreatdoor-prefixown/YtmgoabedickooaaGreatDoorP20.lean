import Derived.Test.YtmgoabedickooaaGreatDoorP19
namespace Go.Proofs.YtmgoabedickooaaGreatDoor
set_option maxRecDepth 100000
open Go.RowKit
set_option linter.unusedVariables false

/-! Get of what Put answered, and what prefixes have in common. -/
theorem val_pa {F H L : Int} (hv : va F H L = true) (hH : InU H) (hL : InU L) : ah (pa F H L) = H ∧ al (pa F H L) = L := by
  obtain ⟨q1, _, q3, q4⟩ := guess_ta F H L hv hH hL
  rw [q1] at q3 q4
  exact ⟨q3, q4⟩
theorem gk_pp {F H L B : Int} (t : List Int) (hv : vp F H L B = true) (hH : InU H) (hL : InU L) : gk (pp F H L B ++ t) = true ∧ qF (pp F H L B ++ t) = F ∧ qH (pp F H L B ++ t) = H ∧ qL (pp F H L B ++ t) = L ∧ qB (pp F H L B ++ t) = B ∧ qN (pp F H L B ++ t) = ((pp F H L B).length : Nat) ∧ qE (pp F H L B ++ t) = 0 := by
  obtain ⟨ha, _⟩ := vp_in hv
  obtain ⟨hn, _⟩ := va_in ha hH hL
  have hl : (pa F H L).length = nb F / 8 := by rw [pa_length, ha]; rfl
  have e : pp F H L B ++ t = F :: B :: (pa F H L ++ t) := by unfold pp; rw [hv]; rfl
  have el : (pp F H L B).length = 2 + nb F / 8 := by
    unfold pp
    rw [hv, if_pos rfl, List.length_cons, List.length_cons, hl]
    omega
  have e0 : g0 (pp F H L B ++ t) = F := by rw [e]; rfl
  have e1 : (pp F H L B ++ t).getD 1 0 = B := by rw [e]; rfl
  have em : gm (pp F H L B ++ t) = nb F / 8 := by unfold gm; rw [e0]
  have es : gs7 (pp F H L B ++ t) = pa F H L := by
    unfold gs7
    rw [em, e]
    show (pa F H L ++ t).take (nb F / 8) = _
    rw [← hl, List.take_left]
  obtain ⟨v1, v2⟩ := val_pa ha hH hL
  have hk : gk (pp F H L B ++ t) = true := by
    unfold gk
    rw [em, e0, es, v1, v2, e1, hv, Bool.and_true, List.length_append, el]
    exact decide_eq_true ⟨by omega, by omega, by omega⟩
  obtain ⟨q1, q2, q3, q4, q5, q6⟩ := q7_good hk
  rw [e0] at q1
  rw [es, v1] at q2
  rw [es, v2] at q3
  rw [e1] at q4
  rw [em] at q5
  exact ⟨hk, q1, q2, q3, q4, by rw [q5, el], q6⟩
theorem pp_gk {l : List Int} (hb : ∀ z ∈ l, 0 ≤ z ∧ z ≤ 255) (h : gk l = true) : pp (qF l) (qH l) (qL l) (qB l) = l.take (2 + gm l) ∧ 2 + gm l ≤ l.length := by
  obtain ⟨q1, q2, q3, q4, _, _⟩ := q7_good h
  rw [q1, q2, q3, q4]
  have h' := h
  unfold gk at h'
  rw [Bool.and_eq_true] at h'
  obtain ⟨h1, hv⟩ := h'
  obtain ⟨a1, a2, a3⟩ := of_decide_eq_true h1
  have hbs : ∀ z ∈ gs7 l, 0 ≤ z ∧ z ≤ 255 := fun z hz => hb z (List.mem_of_mem_drop (List.mem_of_mem_take hz))
  have hls : (gs7 l).length = gm l := by
    unfold gs7
    rw [List.length_take, List.length_drop]
    omega
  have hva := (vp_in hv).1
  have ead : ad (ah (gs7 l)) (al (gs7 l)) = val (gs7 l) := by
    unfold ad ah al
    omega
  have ep : pa (g0 l) (ah (gs7 l)) (al (gs7 l)) = gs7 l := by
    unfold pa
    rw [hva, if_pos rfl, ead]
    show be (gm l) (val (gs7 l)) = _
    rw [← hls]
    exact be_val _ hbs
  refine ⟨?_, a3⟩
  unfold pp
  rw [hv, if_pos rfl, ep]
  match l, a1 with
  | x :: y :: r, _ =>
    show x :: y :: (r.take _) = _
    rw [show 2 + gm (x :: y :: r) = gm (x :: y :: r) + 1 + 1 by omega]
    rfl
/-- The shorter one of two that meet holds all that the other one holds. -/
theorem ho_nest {F H L B F' H' L' B' : Int} (FA HA LA FB HB LB : Int) (h1 : ho F H L B FA HA LA = true) (h2 : ho F' H' L' B' FA HA LA = true) (hB : B ≤ B') (h3 : ho F' H' L' B' FB HB LB = true) : ho F H L B FB HB LB = true := by
  unfold ho at *
  simp only [Bool.and_eq_true] at *
  obtain ⟨p1, _, p3⟩ := h1
  obtain ⟨q1, _, q3⟩ := h2
  obtain ⟨_, r2, r3⟩ := h3
  obtain ⟨e1, d1⟩ := of_decide_eq_true p3
  obtain ⟨e2, d2⟩ := of_decide_eq_true q3
  obtain ⟨e3, d3⟩ := of_decide_eq_true r3
  obtain ⟨_, b1, b2, _⟩ := vp_in p1
  obtain ⟨_, c1, c2, _⟩ := vp_in q1
  refine ⟨p1, r2, decide_eq_true ⟨by omega, ?_⟩⟩
  rw [d1]
  have en : nb F' = nb F := by rw [show F' = F by omega]
  rw [en] at d2 d3 c2
  have ed : ad HA LA / 2 ^ (nb F - B'.toNat) = ad HB LB / 2 ^ (nb F - B'.toNat) := by rw [← d2, d3]
  have es : nb F - B.toNat = (nb F - B'.toNat) + (B'.toNat - B.toNat) := by omega
  have hp := pow_pos2 (nb F - B'.toNat)
  rw [es, Int.pow_add, ← Int.ediv_ediv_of_nonneg (by omega), ← Int.ediv_ediv_of_nonneg (by omega), ed]
end Go.Proofs.YtmgoabedickooaaGreatDoor
