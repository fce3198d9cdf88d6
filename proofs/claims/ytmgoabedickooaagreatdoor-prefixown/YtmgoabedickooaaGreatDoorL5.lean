import Derived.Test.YtmgoabedickooaaGreatDoorL4
namespace Go.Proofs.YtmgoabedickooaaGreatDoor
set_option maxRecDepth 100000
open Go.RowKit
set_option linter.unusedVariables false

theorem val_two (x y : Int) : val [x, y] = x * 256 + y := by simp [val]
theorem jn_tx4 {l : List Int} (hb : ∀ z ∈ l, 0 ≤ z ∧ z ≤ 255) (h : l.length = 4) : jn 46 (wt t8 1 l 4) = tx (nl l) := by
  match l, h with
  | [a, b, c, d], _ =>
    have e : nl [a, b, c, d] = [a.toNat, b.toNat, c.toNat, d.toNat] := rfl
    rw [e, tx4]
    have e2 : wt t8 1 [a, b, c, d] 4 = [dgs (val [a]).toNat 1, dgs (val [b]).toNat 1, dgs (val [c]).toNat 1, dgs (val [d]).toNat 1] := rfl
    rw [e2, val_one, val_one, val_one, val_one]
    rfl
theorem t16_two {x y : Int} (hx' : 0 ≤ x ∧ x ≤ 255) (hy : 0 ≤ y ∧ y ≤ 255) : t16 (val [x, y]).toNat = hx x.toNat ++ hx y.toNat := by
  rw [val_two]
  unfold t16
  rw [show (x * 256 + y).toNat / 256 = x.toNat from by omega, show (x * 256 + y).toNat % 256 = y.toNat from by omega]
theorem jn_tx16 {l : List Int} (hb : ∀ z ∈ l, 0 ≤ z ∧ z ≤ 255) (h : l.length = 16) : jn 58 (wt t16 2 l 8) = tx (nl l) := by
  match l, h with
  | [a0, a1, a2, a3, a4, a5, a6, a7, a8, a9, a10, a11, a12, a13, a14, a15], _ =>
    have e : nl [a0, a1, a2, a3, a4, a5, a6, a7, a8, a9, a10, a11, a12, a13, a14, a15] = [a0.toNat, a1.toNat, a2.toNat, a3.toNat, a4.toNat, a5.toNat, a6.toNat, a7.toNat, a8.toNat, a9.toNat, a10.toNat, a11.toNat, a12.toNat, a13.toNat, a14.toNat, a15.toNat] := rfl
    rw [e, tx16]
    have e2 : wt t16 2 [a0, a1, a2, a3, a4, a5, a6, a7, a8, a9, a10, a11, a12, a13, a14, a15] 8 = [t16 (val [a0, a1]).toNat, t16 (val [a2, a3]).toNat, t16 (val [a4, a5]).toNat, t16 (val [a6, a7]).toNat, t16 (val [a8, a9]).toNat, t16 (val [a10, a11]).toNat, t16 (val [a12, a13]).toNat, t16 (val [a14, a15]).toNat] := rfl
    rw [e2, t16_two (hb a0 (by simp)) (hb a1 (by simp)), t16_two (hb a2 (by simp)) (hb a3 (by simp)), t16_two (hb a4 (by simp)) (hb a5 (by simp)), t16_two (hb a6 (by simp)) (hb a7 (by simp)), t16_two (hb a8 (by simp)) (hb a9 (by simp)), t16_two (hb a10 (by simp)) (hb a11 (by simp)), t16_two (hb a12 (by simp)) (hb a13 (by simp)), t16_two (hb a14 (by simp)) (hb a15 (by simp))]
    rfl
theorem wt_le8 {l : List Int} (hb : ∀ z ∈ l, 0 ≤ z ∧ z ≤ 255) (m : Nat) (h : l.length = 1 * m) : ∀ x ∈ wt t8 1 l m, x.length ≤ 4 := by
  intro x hx
  simp only [wt, List.mem_map, List.mem_range] at hx
  obtain ⟨i, hi, rfl⟩ := hx
  have := dgs_three _ (vwLt8 hb i (by omega)).2
  unfold t8
  omega
theorem wt_le16 (l : List Int) (m : Nat) : ∀ x ∈ wt t16 2 l m, x.length ≤ 4 := by
  intro x h
  simp only [wt, List.mem_map, List.mem_range] at h
  obtain ⟨i, hi, rfl⟩ := h
  have := t16_le (vw 2 l i)
  rwa [sb_size] at this
/-- How many texts an address has. -/
def pm (F H L : Int) : Nat := (pa F H L).length / (if F = 4 then 1 else 2)
theorem pa_case (F H L : Int) : (pa F H L = [] ∧ ta F H L = []) ∨ (F = 4 ∧ (pa F H L).length = 4) ∨ (F = 6 ∧ (pa F H L).length = 16) := by
  cases hv : va F H L with
  | false =>
    have e : pa F H L = [] := by unfold pa; rw [hv]; rfl
    exact .inl ⟨e, by unfold ta; rw [e]; rfl⟩
  | true =>
    have hF := of_decide_eq_true (show decide _ = true from hv)
    have hl : (pa F H L).length = nb F / 8 := by rw [pa_length, hv]; rfl
    rcases hF with rfl | ⟨rfl, _⟩
    · exact .inr (.inr ⟨rfl, hl⟩)
    · exact .inr (.inl ⟨rfl, hl⟩)
set_option maxHeartbeats 1000000 in
theorem printAddr_ (F H L : Int) (w : World) (hF : InI F) (hH : InU H) (hL : InU L) (hT : Tb w) :
    Calls Tryz.prog 52 #[.agg #[.int .i64 F, .int .u64 H, .int .u64 L]] w fun e w' => e = .returned (.string (sb (ta F H L))) ∧ Below w.heap.size w w' := by
  have B0 := anew w F H L
  have m0 := Am.new w F H L
  have k1 := fun w => putAddr_ F H L w hF hH hL
  have HA := hid (pa_byte F H L)
  have hpc := pa_case F H L
  have HTA : Hid (ta F H L = tx (nl (pa F H L))) := rfl
  generalize pa F H L = P at *
  have hP : P.length ≤ 16 := by
    rcases hpc with ⟨h, _⟩ | ⟨_, h⟩ | ⟨_, h⟩
    · rw [h]; simp
    · omega
    · omega
  have c0 := m0.c0
  have c1 := m0.c1
  have c2 := m0.c2
  go_enter Tryz.func52, Tryz.ntmps52
  go_wp2_with fail
  clear c0 c1 c2
  refine (k1 _).mono ?_
  rintro e w1 ⟨v, rfl, ho, g2⟩
  obtain ⟨va', vc, rfl, vb, hvc, hvm, hvn⟩ := own_form ho HA.out
  replace m0 := m0.kept g2
  replace B0 := bel_bel B0 B0.size g2
  have hs1 := m0.lt
  clear g2 ho k1
  go_wp2_with fail
  refine (newReader7 va' P.length vc P _ vb hvn (by omega) hvc (by omega)).mono ?_
  rintro e w2 ⟨r, g, rfl, rs, hr, hgr, g2⟩
  replace m0 := m0.kept g2
  replace B0 := bel_bel B0 B0.size g2
  clear g2 vb
  have c0 := m0.c0
  by_cases h4 : F = 4
  · subst h4
    obtain ⟨m, hm, hm4, hX⟩ : ∃ m, P.length = 1 * m ∧ m ≤ 16 ∧ jn 46 (wt t8 1 P m) = ta 4 H L := by
      rcases hpc with ⟨h, h'⟩ | ⟨_, h⟩ | ⟨h, _⟩
      · exact ⟨0, by rw [h]; rfl, by omega, by rw [h']; rfl⟩
      · exact ⟨4, by omega, by omega, by rw [jn_tx4 HA.out h, HTA.out]⟩
      · omega
    have k3 := fun w2 rs B0 => written8_ r g m P w2 rs hm hm4 HA.out hgr w hT (by omega) B0
    have k4 := fun v B w hown => join_ 46 m v (wt t8 1 P m) B w hown (wt_length _ _ _ _) hm4 (wt_le8 HA.out m hm)
    have HX := hid hX
    rw [hX] at k4
    clear hX hpc HTA
    have hsb : sb [46] = ⟨#[46]⟩ := rfl
    rw [hsb] at k4
    go_wp2_with fail
    refine (k3 _ rs B0).mono ?_
    rintro e w3 ⟨v, rfl, hown, g3⟩
    replace B0 := B0.trans (g3.mono (by omega))
    clear g3 rs k3
    go_wp2_with fail
    refine (k4 _ _ _ hown).mono ?_
    rintro e w4 ⟨rfl, g4⟩
    replace B0 := bel_bel B0 B0.size g4
    go_wp2_with fail
    go_ret
    exact ⟨rfl, B0⟩
  · have e4 : (F == 4) = false := by simpa using h4
    obtain ⟨m, hm, hm4, hX⟩ : ∃ m, P.length = 2 * m ∧ m ≤ 16 ∧ jn 58 (wt t16 2 P m) = ta F H L := by
      rcases hpc with ⟨h, h'⟩ | ⟨h, _⟩ | ⟨_, h⟩
      · exact ⟨0, by rw [h]; rfl, by omega, by rw [h']; rfl⟩
      · exact absurd h h4
      · exact ⟨8, by omega, by omega, by rw [jn_tx16 HA.out h, HTA.out]⟩
    have k3 := fun w2 rs B0 => written16_ r g m P w2 rs hm hm4 HA.out hgr w hT (by omega) B0
    have k4 := fun v B w hown => join_ 58 m v (wt t16 2 P m) B w hown (wt_length _ _ _ _) hm4 (wt_le16 P m)
    have HX := hid hX
    rw [hX] at k4
    clear hX hpc HTA
    have hsb : sb [58] = ⟨#[58]⟩ := rfl
    rw [hsb] at k4
    go_wp2_with fail
    refine (k3 _ rs B0).mono ?_
    rintro e w3 ⟨v, rfl, hown, g3⟩
    replace B0 := B0.trans (g3.mono (by omega))
    clear g3 rs k3
    go_wp2_with fail
    refine (k4 _ _ _ hown).mono ?_
    rintro e w4 ⟨rfl, g4⟩
    replace B0 := bel_bel B0 B0.size g4
    go_wp2_with fail
    go_ret
    exact ⟨rfl, B0⟩
end Go.Proofs.YtmgoabedickooaaGreatDoor
