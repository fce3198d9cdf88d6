import Derived.Test.YtkeogggeefnoeaaGreatDoorL4
import Derived.Test.YtkeogggeefnoeaaGreatDoorPMath
import Derived.Test.YtkeogggeefnoeaaGreatDoorP3
import Derived.Test.YtkeogggeefnoeaaGreatDoorPA
import Derived.Test.YtkeogggeefnoeaaGreatDoorShelf
import Derived.Laws.RangeAny
import Derived.Lib.OthersKept
namespace Go.Proofs.YtkeogggeefnoeaaGreatDoor
set_option linter.unusedSimpArgs false
set_option maxRecDepth 100000
open Go.RowKit
set_option linter.unusedVariables false

theorem val_two (x y : Int) : val [x, y] = x * 256 + y := by simp [val]
theorem jn_tx4 {l : List Int} (hb : ∀ z ∈ l, 0 ≤ z ∧ z ≤ 255) (h : l.length = 4) : jn 46 (wt t8 1 l 4) = tx (nl l) := by
  match l, h with
  | [a, b, c, d], _ =>
    have e : nl [a, b, c, d] = [a.toNat, b.toNat, c.toNat, d.toNat] := rfl
    rw [e, tx4]
    have e2 : wt t8 1 [a, b, c, d] 4 = [dgs (val [a]).toNat 1, dgs (val [b]).toNat 1, dgs (val [c]).toNat 1, dgs (val [d]).toNat 1] := rfl
    rw [e2, val_one, val_one, val_one, val_one]
    rfl
theorem t16_two {x y : Int} (hx' : 0 ≤ x ∧ x ≤ 255) (hy : 0 ≤ y ∧ y ≤ 255) : t16 (val [x, y]).toNat = hx x.toNat ++ hx y.toNat := by
  rw [val_two]
  unfold t16
  rw [show (x * 256 + y).toNat / 256 = x.toNat from by omega, show (x * 256 + y).toNat % 256 = y.toNat from by omega]
theorem jn_tx16 {l : List Int} (hb : ∀ z ∈ l, 0 ≤ z ∧ z ≤ 255) (h : l.length = 16) : jn 58 (wt t16 2 l 8) = tx (nl l) := by
  match l, h with
  | [a0, a1, a2, a3, a4, a5, a6, a7, a8, a9, a10, a11, a12, a13, a14, a15], _ =>
    have e : nl [a0, a1, a2, a3, a4, a5, a6, a7, a8, a9, a10, a11, a12, a13, a14, a15] = [a0.toNat, a1.toNat, a2.toNat, a3.toNat, a4.toNat, a5.toNat, a6.toNat, a7.toNat, a8.toNat, a9.toNat, a10.toNat, a11.toNat, a12.toNat, a13.toNat, a14.toNat, a15.toNat] := rfl
    rw [e, tx16]
    have e2 : wt t16 2 [a0, a1, a2, a3, a4, a5, a6, a7, a8, a9, a10, a11, a12, a13, a14, a15] 8 = [t16 (val [a0, a1]).toNat, t16 (val [a2, a3]).toNat, t16 (val [a4, a5]).toNat, t16 (val [a6, a7]).toNat, t16 (val [a8, a9]).toNat, t16 (val [a10, a11]).toNat, t16 (val [a12, a13]).toNat, t16 (val [a14, a15]).toNat] := rfl
    rw [e2, t16_two (hb a0 (by simp)) (hb a1 (by simp)), t16_two (hb a2 (by simp)) (hb a3 (by simp)), t16_two (hb a4 (by simp)) (hb a5 (by simp)), t16_two (hb a6 (by simp)) (hb a7 (by simp)), t16_two (hb a8 (by simp)) (hb a9 (by simp)), t16_two (hb a10 (by simp)) (hb a11 (by simp)), t16_two (hb a12 (by simp)) (hb a13 (by simp)), t16_two (hb a14 (by simp)) (hb a15 (by simp))]
    rfl
theorem wt_le8 {l : List Int} (hb : ∀ z ∈ l, 0 ≤ z ∧ z ≤ 255) (m : Nat) (h : l.length = 1 * m) : ∀ x ∈ wt t8 1 l m, x.length ≤ 4 := by
  intro x hx
  simp only [wt, List.mem_map, List.mem_range] at hx
  obtain ⟨i, hi, rfl⟩ := hx
  have := dgs_three _ (vwLt8 hb i (by omega)).2
  unfold t8
  omega
theorem wt_le16 (l : List Int) (m : Nat) : ∀ x ∈ wt t16 2 l m, x.length ≤ 4 := by
  intro x h
  simp only [wt, List.mem_map, List.mem_range] at h
  obtain ⟨i, hi, rfl⟩ := h
  have := t16_le (vw 2 l i)
  rwa [sb_size] at this
/-- How many texts an address has. -/
def pm (F H L : Int) : Nat := (pa F H L).length / (if F = 4 then 1 else 2)
theorem pa_case (F H L : Int) : (pa F H L = [] ∧ ta F H L = []) ∨ (F = 4 ∧ (pa F H L).length = 4) ∨ (F = 6 ∧ (pa F H L).length = 16) := by
  cases hv : va F H L with
  | false =>
    have e : pa F H L = [] := by unfold pa; rw [hv]; rfl
    exact .inl ⟨e, by unfold ta; rw [e]; rfl⟩
  | true =>
    have hF := of_decide_eq_true (show decide _ = true from hv)
    have hl : (pa F H L).length = nb F / 8 := by rw [pa_length, hv]; rfl
    rcases hF with rfl | ⟨rfl, _⟩
    · exact .inr (.inr ⟨rfl, hl⟩)
    · exact .inr (.inl ⟨rfl, hl⟩)
set_option maxHeartbeats 1000000 in
theorem printAddr_ (F H L : Int) (w : World) (hF : InI F) (hH : InU H) (hL : InU L) (hT : Tb w) :
    Calls Tryz.prog 148 #[.agg #[.int .i64 F, .int .u64 H, .int .u64 L]] w fun e w' => e = .returned (.string (sb (ta F H L))) ∧ Below w.heap.size w w' := by
  have B0 := anew w F H L
  have m0 := Am.new w F H L
  have k1 := fun w => putAddr_ F H L w hF hH hL
  have HA := hid (pa_byte F H L)
  have hpc := pa_case F H L
  have HTA : Hid (ta F H L = tx (nl (pa F H L))) := rfl
  generalize pa F H L = P at *
  have hP : P.length ≤ 16 := by
    rcases hpc with ⟨h, _⟩ | ⟨_, h⟩ | ⟨_, h⟩
    · rw [h]; simp
    · omega
    · omega
  have c0 := m0.c0
  have c1 := m0.c1
  have c2 := m0.c2
  go_enter Tryz.func148, Tryz.ntmps148
  go_wp2_with fail
  clear c0 c1 c2
  refine (k1 _).mono ?_
  rintro e w1 ⟨v, rfl, ho, g2⟩
  obtain ⟨va', vc, rfl, vb, hvc, hvm, hvn⟩ := own_form ho HA.out
  replace m0 := m0.kept g2
  replace B0 := bel_bel B0 B0.size g2
  have hs1 := m0.lt
  clear g2 ho k1
  go_wp2_with fail
  refine (newReader7 va' P.length vc P _ vb hvn (by omega) hvc (by omega)).mono ?_
  rintro e w2 ⟨r, g, rfl, rs, hr, hgr, g2⟩
  replace m0 := m0.kept g2
  replace B0 := bel_bel B0 B0.size g2
  clear g2 vb
  have c0 := m0.c0
  by_cases h4 : F = 4
  · subst h4
    obtain ⟨m, hm, hm4, hX⟩ : ∃ m, P.length = 1 * m ∧ m ≤ 16 ∧ jn 46 (wt t8 1 P m) = ta 4 H L := by
      rcases hpc with ⟨h, h'⟩ | ⟨_, h⟩ | ⟨h, _⟩
      · exact ⟨0, by rw [h]; rfl, by omega, by rw [h']; rfl⟩
      · exact ⟨4, by omega, by omega, by rw [jn_tx4 HA.out h, HTA.out]⟩
      · omega
    have k3 := fun w2 rs B0 => written8_ r g m P w2 rs hm hm4 HA.out hgr w hT (by omega) B0
    have k4 := fun v B w hown => join_ 46 m v (wt t8 1 P m) B w hown (wt_length _ _ _ _) hm4 (wt_le8 HA.out m hm)
    have HX := hid hX
    rw [hX] at k4
    clear hX hpc HTA
    have hsb : sb [46] = ⟨#[46]⟩ := rfl
    rw [hsb] at k4
    go_wp2_with fail
    refine (k3 _ rs B0).mono ?_
    rintro e w3 ⟨v, rfl, hown, g3⟩
    replace B0 := B0.trans (g3.mono (by omega))
    clear g3 rs k3
    go_wp2_with fail
    refine (k4 _ _ _ hown).mono ?_
    rintro e w4 ⟨rfl, g4⟩
    replace B0 := bel_bel B0 B0.size g4
    go_wp2_with fail
    go_ret
    exact ⟨rfl, B0⟩
  · have e4 : (F == 4) = false := by simpa using h4
    obtain ⟨m, hm, hm4, hX⟩ : ∃ m, P.length = 2 * m ∧ m ≤ 16 ∧ jn 58 (wt t16 2 P m) = ta F H L := by
      rcases hpc with ⟨h, h'⟩ | ⟨h, _⟩ | ⟨_, h⟩
      · exact ⟨0, by rw [h]; rfl, by omega, by rw [h']; rfl⟩
      · exact absurd h h4
      · exact ⟨8, by omega, by omega, by rw [jn_tx16 HA.out h, HTA.out]⟩
    have k3 := fun w2 rs B0 => written16_ r g m P w2 rs hm hm4 HA.out hgr w hT (by omega) B0
    have k4 := fun v B w hown => join_ 58 m v (wt t16 2 P m) B w hown (wt_length _ _ _ _) hm4 (wt_le16 P m)
    have HX := hid hX
    rw [hX] at k4
    clear hX hpc HTA
    have hsb : sb [58] = ⟨#[58]⟩ := rfl
    rw [hsb] at k4
    go_wp2_with fail
    refine (k3 _ rs B0).mono ?_
    rintro e w3 ⟨v, rfl, hown, g3⟩
    replace B0 := B0.trans (g3.mono (by omega))
    clear g3 rs k3
    go_wp2_with fail
    refine (k4 _ _ _ hown).mono ?_
    rintro e w4 ⟨rfl, g4⟩
    replace B0 := bel_bel B0 B0.size g4
    go_wp2_with fail
    go_ret
    exact ⟨rfl, B0⟩
end Go.Proofs.YtkeogggeefnoeaaGreatDoor
namespace Go.Proofs.YtkeogggeefnoeaaGreatDoor
set_option linter.unusedSimpArgs false
set_option maxRecDepth 100000
open Go.RowKit
set_option linter.unusedVariables false

set_option maxHeartbeats 1000000 in
theorem print_ (F H L B : Int) (w : World) (hF : InI F) (hH : InU H) (hL : InU L) (hB : InI B) (hT : Tb w) :
    Calls Tryz.prog 141 #[.agg #[.int .i64 F, .int .u64 H, .int .u64 L, .int .i64 B]] w fun e w' => e = .returned (.string (sb (tp F H L B))) ∧ Below w.heap.size w w' := by
  have B0 := pnew w F H L B
  have m0 := Pm.new w F H L B
  have k1 := fun w => valid_ F H L B w hF hH hL hB
  have k2 := fun w => printAddr_ F H L w hF hH hL
  have c0 := m0.c0
  have c1 := m0.c1
  have c2 := m0.c2
  have c3 := m0.c3
  go_enter Tryz.func141, Tryz.ntmps141
  go_wp2_with fail
  clear c0 c1 c2 c3
  refine (k1 _).mono ?_
  rintro e w1 ⟨rfl, g2⟩
  replace m0 := m0.kept g2
  replace B0 := bel_bel B0 B0.size g2
  clear g2 k1
  cases hv : vp F H L B with
  | false =>
    go_wp2_with fail
    go_ret
    exact ⟨by unfold tp; rw [hv]; rfl, B0⟩
  | true =>
    have HP : Hid (tp F H L B = ta F H L ++ 47 :: dgs B.toNat 1) := by show _ = _; unfold tp; rw [hv]; rfl
    obtain ⟨h1, h2, h3, _⟩ := vp_in hv
    have hn128 := nb_le F
    obtain ⟨N, rfl⟩ : ∃ N : Nat, B = N := ⟨B.toNat, by omega⟩
    have k3 := fun w => itoa_ N w (by omega)
    rw [Int.toNat_natCast] at HP
    have l1 := ta_le F H L
    have l2 := dgs_three N (by omega)
    have HA : Hid (sb (ta F H L) ++ ⟨#[47]⟩ ++ sb (dgs N 1) = sb (tp F H L N)) := by show _ = _; rw [sb_slash, sb_append, sb_append, HP.out, List.append_assoc]; rfl
    have hq := sb_size (ta F H L)
    have hq2 := sb_size (dgs N 1)
    obtain ⟨P, HPP⟩ : ∃ P, Hid (tp F H L N = P) := ⟨_, rfl⟩
    rw [HPP.out] at HA
    generalize sb (ta F H L) = D1 at *
    generalize sb (dgs N 1) = D2 at *
    have a1 := fun w => run_string_add_sum (P := Tryz.prog) w D1 ⟨#[47]⟩ (by show D1.size + 1 ≤ _; omega)
    have a2 := fun w => run_string_add_sum (P := Tryz.prog) w (D1 ++ ⟨#[47]⟩) D2 (by rw [ByteArray.size_append]; show D1.size + 1 + D2.size ≤ _; omega)
    clear hv hq hq2 l1 l2 HP h1 h2 h3 hn128
    go_wp2_with fail
    refine wp_region_held_drew (S := fun wx => Pm wx w.heap.size F H L N) (by kernel_rfl) m0.drew (fun hHeld => ?_)
    replace m0 := m0.drew
    replace B0 := bel_drew1 B0
    generalize w1.drew = wd at *
    refine take_to 0 6 (.pointer (some ⟨w.heap.size, 0, none⟩)) rfl rfl (by kernel_rfl) (by kernel_rfl) (by kernel_rfl) (fun _ _ _ h => h) (Or.inl ⟨by rfl, fun w' h => ?_⟩) hHeld ?_
    · go_simp
    try simp only [List.setIfInBounds_toArray, List.set_cons_zero, List.set_cons_succ]
    refine take_to 1 7 (.agg #[.int .i64 F, .int .u64 H, .int .u64 L]) rfl rfl (by kernel_rfl) (by kernel_rfl) (by kernel_rfl) (fun _ _ _ h => h) (Or.inl ⟨by rfl, fun w' h => ?_⟩) hHeld ?_
    · have x0 := Pm.c0 h
      have x1 := Pm.c1 h
      have x2 := Pm.c2 h
      go_simp
    try simp only [List.setIfInBounds_toArray, List.set_cons_zero, List.set_cons_succ]
    refine take_to 4 10 (.pointer (some ⟨w.heap.size, 3, none⟩)) rfl rfl (by kernel_rfl) (by kernel_rfl) (by kernel_rfl) (fun _ _ _ h => h) (Or.inl ⟨by rfl, fun w' h => ?_⟩) hHeld ?_
    · go_simp
    try simp only [List.setIfInBounds_toArray, List.set_cons_zero, List.set_cons_succ]
    refine take_to 5 11 (.int .i64 N) rfl rfl (by kernel_rfl) (by kernel_rfl) (by kernel_rfl) (fun _ _ _ h => h) (Or.inl ⟨by rfl, fun w' h => ?_⟩) hHeld ?_
    · have x0 := Pm.c3 h
      go_simp
    try simp only [List.setIfInBounds_toArray, List.set_cons_zero, List.set_cons_succ]
    refine wpAnyH_ready (rs := [2]) (by kernel_rfl) (by simp) ?_
    refine AllReadyH.cons rfl (fun K' hK' => ?_) AllReadyH.nil
    rw [if_pos (by rfl)]
    go_wp2_with fail
    refine (k2 _ (hT.kept B0)).mono ?_
    rintro e w2 ⟨rfl, g2⟩
    replace m0 := m0.kept g2
    replace B0 := bel_bel B0 B0.size g2
    clear g2 hHeld
    try go_wp2_with fail
    refine hK'.out _ _ m0 (fun hHeld => ?_)
    clear hK' K'
    try simp only [Act.put, List.setIfInBounds_toArray, List.set_cons_zero, List.set_cons_succ]
    refine take_to 3 9 (.string (D1 ++ ⟨#[47]⟩)) rfl rfl (by kernel_rfl) (by kernel_rfl) (by kernel_rfl) (fun _ _ _ h => h) (Or.inl ⟨by rfl, fun w' h => ?_⟩) hHeld ?_
    · go_simp
    try simp only [List.setIfInBounds_toArray, List.set_cons_zero, List.set_cons_succ]
    refine wpAnyH_ready (rs := [6]) (by kernel_rfl) (by simp) ?_
    refine AllReadyH.cons rfl (fun K' hK' => ?_) AllReadyH.nil
    rw [if_pos (by rfl)]
    go_wp2_with fail
    refine (k3 _ (hT.kept B0)).mono ?_
    rintro e w3 ⟨rfl, g2⟩
    replace m0 := m0.kept g2
    replace B0 := bel_bel B0 B0.size g2
    clear g2 hHeld
    try go_wp2_with fail
    refine hK'.out _ _ m0 (fun hHeld => ?_)
    clear hK' K'
    try simp only [Act.put, List.setIfInBounds_toArray, List.set_cons_zero, List.set_cons_succ]
    refine take_to 7 13 (.string (D1 ++ ⟨#[47]⟩ ++ D2)) rfl rfl (by kernel_rfl) (by kernel_rfl) (by kernel_rfl) (fun _ _ _ h => h) (Or.inl ⟨by rfl, fun w' h => ?_⟩) hHeld ?_
    · go_simp
    try simp only [List.setIfInBounds_toArray, List.set_cons_zero, List.set_cons_succ]
    refine take_to 8 2 (.string (D1 ++ ⟨#[47]⟩ ++ D2)) rfl rfl (by kernel_rfl) (by kernel_rfl) (by kernel_rfl) (fun _ _ _ h => h) (Or.inl ⟨by rfl, fun w' h => ?_⟩) hHeld ?_
    · go_simp
    try simp only [List.setIfInBounds_toArray, List.set_cons_zero, List.set_cons_succ]
    refine wpAnyH_done (by kernel_rfl) ?_ _
    go_wp2_with fail
    go_ret
    exact ⟨by rw [HPP.out, ← HA.out]; rfl, B0⟩
end Go.Proofs.YtkeogggeefnoeaaGreatDoor
namespace Go.Proofs.YtkeogggeefnoeaaGreatDoor
set_option linter.unusedSimpArgs false
set_option maxRecDepth 100000
open Go.RowKit
set_option linter.unusedVariables false

def wti (x m : Int) : Bool := decide (0 ≤ x ∧ x ≤ m)
theorem within_ (x m : Int) (w : World) :
    Calls Tryz.prog 80 #[.int .i64 x, .int .i64 m] w fun e w' => e = .returned (.bool (wti x m)) ∧ w' = w := by
  go_enter Tryz.func80, Tryz.ntmps80
  go_wp2_with fail
  all_goals
    go_ret
    refine ⟨ret_bool ?_, rfl⟩
    unfold wti
    first
      | exact (decide_eq_true (by omega)).symm
      | exact (decide_eq_false (by omega)).symm
      | exact decide_eq_decide.2 (by omega)
set_option maxHeartbeats 400000 in
theorem svalid_ (s n : Int) (w : World) (hs : InI s) (hn : InI n) :
    Calls Tryz.prog 61 #[.agg #[.int .i64 s, .int .i64 n]] w fun e w' => e = .returned (.bool (vld s n)) ∧ Below w.heap.size w w' := by
  have B0 := snew1 w s n
  have HV : Hid (vld s n = (wti s 9223372036854775807 && wti n 999999999)) := by
    show _ = _
    unfold vld wti InI at *
    rw [← Bool.decide_and]
    exact decide_eq_decide.2 (by omega)
  go_enter Tryz.func61, Tryz.ntmps61
  go_wp2_with fail
  refine (within_ _ _ _).mono ?_
  rintro e w1 ⟨rfl, rfl⟩
  cases h1 : wti s 9223372036854775807 with
  | false =>
    go_wp2_with fail
    go_ret
    exact ⟨ret_bool (by rw [HV.out, h1]; rfl), B0⟩
  | true =>
    go_wp2_with fail
    refine (within_ _ _ _).mono ?_
    rintro e w1 ⟨rfl, rfl⟩
    go_wp2_with fail
    go_ret
    exact ⟨ret_bool (by rw [HV.out, h1]; rfl), B0⟩
end Go.Proofs.YtkeogggeefnoeaaGreatDoor
namespace Go.Proofs.YtkeogggeefnoeaaGreatDoor
set_option linter.unusedSimpArgs false
set_option maxRecDepth 100000
open Go.RowKit
set_option linter.unusedVariables false

theorem dl_pad (m : Nat) : ∀ n k, n < 10 ^ m → m ≤ k → dl n k = List.replicate (k - m) 48 ++ dl n m := by
  induction m with
  | zero =>
    intro n k h _
    obtain rfl : n = 0 := by simpa using h
    rw [dl, List.append_nil, Nat.sub_zero]
    induction k with
    | zero => rfl
    | succ k ih =>
      rw [dl, Nat.zero_div, ih (Nat.zero_le _), List.replicate_succ']
  | succ m ih =>
    intro n k h hk
    obtain ⟨k', rfl⟩ : ∃ k', k = k' + 1 := ⟨k - 1, by omega⟩
    rw [dl, dl, ih (n / 10) k' (by rw [Nat.pow_succ] at h; omega) (by omega), Nat.add_sub_add_right, List.append_assoc]
theorem dgs_nine (N : Nat) (h : N ≤ 999999999) : (dgs N 1).length ≤ 9 ∧ 1 ≤ (dgs N 1).length ∧ dgs N 9 = List.replicate (9 - (dgs N 1).length) 48 ++ dgs N 1 := by
  have hc := (cnt_lt 9 N).2 (by omega)
  have h1 : dn N 1 ≤ 9 ∧ 1 ≤ dn N 1 := by unfold dn; rw [Nat.max_def]; split <;> omega
  have hl : (dgs N 1).length = dn N 1 := by unfold dgs; rw [dl_length]
  refine ⟨by omega, by omega, ?_⟩
  rw [hl]
  unfold dgs
  rw [dn9 N h]
  exact dl_pad (dn N 1) N 9 (dn_lt N 1) h1.1
theorem Sm.at {w w' : World} {g : Nat} {s n : Int} (h : Sm w g s n) (e : w'.heap[g]? = w.heap[g]?) : Sm w' g s n := by unfold Sm at *; rw [e]; exact h
theorem setCell_other6 (w : World) (g i j : Nat) (v : Value) (h : j ≠ g) : (w.setCell ⟨g, i, none⟩ v).heap[j]? = w.heap[j]? := by
  simp [World.setCell, Array.getElem?_modify, Ne.symm h]
theorem ret_g {a b a' b' c c' : Int} (h1 : a = a') (h2 : b = b') (h3 : c = c') : Ending.returned (.tuple #[.agg #[.int .i64 a, .int .i64 b], .int .i64 c]) = .returned (.tuple #[.agg #[.int .i64 a', .int .i64 b'], .int .i64 c']) := by rw [h1, h2, h3]
end Go.Proofs.YtkeogggeefnoeaaGreatDoor
namespace Go.Proofs.YtkeogggeefnoeaaGreatDoor
set_option linter.unusedSimpArgs false
set_option maxRecDepth 100000
open Go.RowKit
set_option linter.unusedVariables false

set_option maxHeartbeats 1000000 in
theorem sprint_ (s n : Int) (w : World) (hs : InI s) (hn : InI n) (hT : Tb w) :
    Calls Tryz.prog 62 #[.agg #[.int .i64 s, .int .i64 n]] w fun e w' => e = .returned (.string (sb (pr s n))) ∧ Below w.heap.size w w' := by
  have B0 := snew1 w s n
  have m0 := Sm.new w s n
  replace hT := hT.alloc (.cells #[.int .i64 s, .int .i64 n] 46)
  go_enter Tryz.func62, Tryz.ntmps62
  go_wp2_with fail
  refine (svalid_ s n _ hs hn).mono ?_
  rintro e w1 ⟨rfl, g2⟩
  replace m0 := m0.kept g2
  replace hT := hT.kept g2
  replace B0 := bel_bel B0 B0.size g2
  clear g2
  cases hv : vld s n with
  | false =>
    go_wp2_with fail
    go_ret
    exact ⟨by unfold pr; rw [hv]; rfl, B0⟩
  | true =>
    obtain ⟨p1, p2, p3⟩ := of_decide_eq_true (show decide _ = true from hv)
    have HP : Hid (pr s n = dgs s.toNat 1 ++ 46 :: dgs n.toNat 9) := by show _ = _; unfold pr; rw [hv]; rfl
    have hs2 := hs.2
    obtain ⟨S, rfl⟩ : ∃ S : Nat, s = S := ⟨s.toNat, by omega⟩
    obtain ⟨N, rfl⟩ : ∃ N : Nat, n = N := ⟨n.toNat, by omega⟩
    have c1 := m0.c1
    have k1 := fun w => itoa_ N w (by omega)
    have k3 := fun w => itoa_ S w (by omega)
    obtain ⟨q1, q2, q3⟩ := dgs_nine N (by omega)
    have l1 := dgs_length S 1 (by omega) (by omega)
    rw [Int.toNat_natCast, Int.toNat_natCast, q3] at HP
    have HA : Hid (sb (dgs S 1) ++ ⟨#[46]⟩ ++ sb (List.replicate (9 - (dgs N 1).length) 48) ++ sb (dgs N 1) = sb (pr S N)) := by
      show _ = _
      rw [sb_point, sb_append, sb_append, sb_append, HP.out]
      simp
    have hq := sb_size (dgs S 1)
    have hq2 := sb_size (dgs N 1)
    have hq3 := sb_size (List.replicate (9 - (dgs N 1).length) 48)
    rw [List.length_replicate] at hq3
    have k2 := fun w => repeat_ (9 - (dgs N 1).length) w (by omega)
    obtain ⟨P, HPP⟩ : ∃ P, Hid (pr S N = P) := ⟨_, rfl⟩
    rw [HPP.out] at HA
    generalize (dgs N 1).length = L at *
    rw [show ((9 - L : Nat) : Int) = 9 - (L : Int) from by omega] at k2
    generalize sb (dgs S 1) = D1 at *
    generalize sb (dgs N 1) = D2 at *
    generalize sb (List.replicate (9 - L) 48) = D3 at *
    have a1 := fun w => run_string_add_sum (P := Tryz.prog) w D1 ⟨#[46]⟩ (by show D1.size + 1 ≤ _; omega)
    have a2 := fun w => run_string_add_sum (P := Tryz.prog) w (D1 ++ ⟨#[46]⟩) D3 (by rw [ByteArray.size_append]; show D1.size + 1 + D3.size ≤ _; omega)
    have a3 := fun w => run_string_add_sum (P := Tryz.prog) w (D1 ++ ⟨#[46]⟩ ++ D3) D2 (by rw [ByteArray.size_append, ByteArray.size_append]; show D1.size + 1 + D3.size + D2.size ≤ _; omega)
    clear hv hq hq3 l1 q3 hs hn
    go_wp2_with fail
    refine (k1 _ hT).mono ?_
    rintro e w2 ⟨rfl, g2⟩
    replace m0 := m0.kept g2
    replace hT := hT.kept g2
    replace B0 := bel_bel B0 B0.size g2
    clear g2 c1
    go_wp2_with fail
    refine (k2 _).mono ?_
    rintro e w3 ⟨rfl, g2⟩
    replace m0 := m0.kept g2
    replace hT := hT.kept g2
    replace B0 := bel_bel B0 B0.size g2
    have c0 := m0.c0
    clear g2
    go_wp2_with fail
    refine (k3 _ hT).mono ?_
    rintro e w4 ⟨rfl, g2⟩
    replace B0 := bel_bel B0 B0.size g2
    clear g2 c0 m0
    go_wp2_with fail
    go_ret
    exact ⟨by rw [HPP.out, ← HA.out]; rfl, B0⟩
end Go.Proofs.YtkeogggeefnoeaaGreatDoor
namespace Go.Proofs.YtkeogggeefnoeaaGreatDoor
set_option linter.unusedSimpArgs false
set_option maxRecDepth 100000
open Go.RowKit
set_option linter.unusedVariables false

theorem Sm.set0 {w : World} {g : Nat} {s n : Int} (h : Sm w g s n) (s' : Int) : Sm (w.setCell ⟨g, 0, none⟩ (.int .i64 s')) g s' n := by
  unfold Sm at *
  simp [World.setCell, Array.getElem?_modify, h]
theorem Sm.set1 {w : World} {g : Nat} {s n : Int} (h : Sm w g s n) (n' : Int) : Sm (w.setCell ⟨g, 1, none⟩ (.int .i64 n')) g s n' := by
  unfold Sm at *
  simp [World.setCell, Array.getElem?_modify, h]
theorem Sm.oth {w : World} {g g' i : Nat} {s n : Int} {v : Value} (h : Sm w g s n) (hn : g ≠ g') : Sm (w.setCell ⟨g', i, none⟩ v) g s n := h.at (setCell_other6 _ _ _ _ _ hn)
/-- A text's iterator. -/
def It (w : World) (k : Nat) (S : ByteArray) (j : Nat) : Prop := w.heap[k]? = some (.stringIter S j)
theorem It.oth {w : World} {k g i j : Nat} {S : ByteArray} {v : Value} (h : It w k S j) (hn : k ≠ g) : It (w.setCell ⟨g, i, none⟩ v) k S j := by
  unfold It at *
  rw [setCell_other6 _ _ _ _ _ hn]
  exact h
theorem It.pos {w : World} {k j : Nat} {S : ByteArray} (h : It w k S j) : w.iterPos k = j := by
  unfold It at h
  simp [World.iterPos, h]
theorem sb_at (l : List Nat) (hy : ∀ x ∈ l, x < 256) (j : Nat) (hj : j < l.length) : ∃ h : j < (sb l).size, ((sb l)[j]'h).toNat = l.getD j 0 := by
  obtain ⟨h', e⟩ := sb_get l hy j hj
  exact ⟨h', e⟩
theorem next_low (l : List Nat) (hy : ∀ x ∈ l, x < 256) (j : Nat) (hj : j < l.length) (w : World) (k : Nat) (hk : It w k (sb l) j) (hx : l.getD j 0 < 128) :
    (Instr.next (.pointer (some ⟨k, 0, none⟩)) true 0).run Tryz.prog w = .ok (.tuple #[.bool true, .int .i64 j, .int .i32 ((l.getD j 0 : Nat) : Int)]) (w.iterAt k (sb l) (j + 1)) := by
  obtain ⟨h, e⟩ := sb_at l hy j hj
  rw [Lib.run_next_ascii_at w k (sb l) j 0 hk h (by rw [e]; exact hx), e]
theorem next_high (l : List Nat) (hy : ∀ x ∈ l, x < 256) (j : Nat) (hj : j < l.length) (w : World) (k : Nat) (hk : It w k (sb l) j) (hx : 128 ≤ l.getD j 0) :
    ∃ R p : Nat, 128 ≤ R ∧ R ≤ 2147483647 ∧ (Instr.next (.pointer (some ⟨k, 0, none⟩)) true 0).run Tryz.prog w = .ok (.tuple #[.bool true, .int .i64 j, .int .i32 (R : Int)]) (w.iterAt k (sb l) p) := by
  obtain ⟨h, e⟩ := sb_at l hy j hj
  exact ⟨_, _, (decode_high (sb l) j h (by rw [e]; exact hx)).1, decode_le (sb l) j, Lib.run_next_any_at w k (sb l) j 0 hk h⟩
theorem next_end (l : List Nat) (w : World) (k : Nat) (hk : It w k (sb l) l.length) :
    (Instr.next (.pointer (some ⟨k, 0, none⟩)) true 0).run Tryz.prog w = .ok (.tuple #[.bool false]) w :=
  Lib.run_next_end_at w k (sb l) l.length 0 hk (by rw [sb_size]; omega)
theorem Sm.it {w : World} {g k : Nat} {s n : Int} (h : Sm w g s n) (S : ByteArray) (p : Nat) (hn : g ≠ k) : Sm (w.iterAt k S p) g s n := h.at (Lib.iterAt_other w k g S p hn)
theorem nst_high {q : Nat × Nat × Bool} {x : Nat} (h : 57 < x) : nst q x = none := by
  unfold nst
  rw [if_neg (by omega), if_neg (by omega)]
theorem nst_low {q : Nat × Nat × Bool} {x : Nat} (h : x < 48) (hn : x ≠ 46) : nst q x = none := by
  unfold nst
  rw [if_neg hn, if_neg (by omega)]
theorem nst_point (q : Nat × Nat × Bool) : nst q 46 = some (q.1, q.2.1, true) := by
  unfold nst
  rw [if_pos rfl]
theorem nst_big {q : Nat × Nat × Bool} {x : Nat} (h : 48 ≤ x) (hn : ¬ 10 * nv q + (x - 48) ≤ lim q.2.2) : nst q x = none := by
  unfold nst
  rw [if_neg (by omega), if_neg (by omega)]
theorem nst_fits {q : Nat × Nat × Bool} {x : Nat} (h : 48 ≤ x) (h9 : x ≤ 57) (hn : 10 * nv q + (x - 48) ≤ lim q.2.2) : nst q x = some (nup q (x - 48)) := by
  unfold nst
  rw [if_neg (by omega), if_pos ⟨h, h9, hn⟩]
set_option maxHeartbeats 4000000 in
theorem numbers_ (l : List Nat) (w : World) (hy : ∀ x ∈ l, x < 256) (hlen : l.length ≤ maxLen) :
    Calls Tryz.prog 111 #[.string (sb l)] w fun e w' => e = .returned (.tuple #[.agg #[.int .i64 (us l), .int .i64 (un l)], .bool (uo l)]) ∧ Below w.heap.size w w' := by
  have HNL := hid (next_low l hy)
  have HNH := hid (next_high l hy)
  have HNE := hid (next_end l)
  have HY := hid hy
  have HUN := hid (u_none (l := l))
  have HUS := hid (fun q => u_some (l := l) (q := q))
  unfold maxLen at hlen
  have B0 := snew2 w 0 0 0 0
  obtain ⟨m0, m1⟩ := snew3 w 0 0 0 0
  obtain ⟨S, HS⟩ : ∃ S, Hid (sb l = S) := ⟨_, rfl⟩
  rw [HS.out] at HNL HNH HNE ⊢
  clear hy
  go_enter Tryz.func111, Tryz.ntmps111
  go_wp2_with fail
  replace m0 := m0.alloc (.stringIter S 0)
  replace m1 := m1.alloc (.stringIter S 0)
  replace B0 := B0.alloc (by simp; omega) (.stringIter S 0)
  have hit : It (((w.alloc (.cells #[.int .i64 0, .int .i64 0] 46)).alloc (.cells #[.int .i64 0, .int .i64 0] 46)).alloc (.stringIter S 0)) (w.heap.size + 1 + 1) S 0 := by
    have := heap_alloc_new ((w.alloc (.cells #[.int .i64 0, .int .i64 0] 46)).alloc (.cells #[.int .i64 0, .int .i64 0] 46)) (.stringIter S 0)
    rw [World.size_alloc, World.size_alloc] at this
    exact this
  go_loopw [5, 6] (fun u v wr => ∃ (j s n : Nat) (p : Bool), j ≤ l.length ∧ u = .pointer (some ⟨w.heap.size + 1, (if p then 1 else 0), none⟩) ∧ v = .int .i64 (lim p : Nat) ∧ Hid (nrun (0, 0, false) (l.take j) = some (s, n, p)) ∧ Hid (s ≤ 9223372036854775807 ∧ n ≤ 999999999) ∧ Sm wr w.heap.size 0 0 ∧ Sm wr (w.heap.size + 1) s n ∧ It wr (w.heap.size + 1 + 1) S j ∧ Below w.heap.size w wr) (fun _ _ wr => l.length - wr.iterPos (w.heap.size + 1 + 1))
  case atStart => exact ⟨0, 0, 0, false, by omega, rfl, rfl, rfl, ⟨by omega, by omega⟩, m0, m1, hit, B0⟩
  case round =>
    clear m0 m1 B0 hit
    obtain ⟨j, s, n, p, hj, rfl, rfl, HR, HBD, m0, m1, hit, B0⟩ := hrel
    have HP1 := hid hit.pos
    by_cases hlt : j < l.length
    · have HT := hid (nrun_take l j _ _ hlt HR.out)
      have HST := hid (nrun_stop l j _ _ hlt HR.out)
      obtain ⟨x, Hx⟩ : ∃ x, Hid (l.getD j 0 = x) := ⟨_, rfl⟩
      have hx256 : x < 256 := by rw [← Hx.out]; exact getD_lt6 HY.out j
      rw [Hx.out] at HT HST
      by_cases hx : x < 128
      · have hnx := HNL.out j hlt wr _ hit (by rw [Hx.out]; exact hx)
        rw [Hx.out] at hnx
        replace m0 := m0.it S (j + 1) (k := w.heap.size + 1 + 1) (by omega)
        replace m1 := m1.it S (j + 1) (k := w.heap.size + 1 + 1) (by omega)
        have hit2 : It (wr.iterAt (w.heap.size + 1 + 1) S (j + 1)) (w.heap.size + 1 + 1) S (j + 1) := Lib.iterAt_heap wr _ S j (j + 1) hit
        replace B0 := Lib.below_iterAt B0 (k := w.heap.size + 1 + 1) (by omega) S (j + 1)
        clear hit
        generalize wr.iterAt (w.heap.size + 1 + 1) S (j + 1) = w2 at *
        have c0 := m1.c0
        have c1 := m1.c1
        have f0 := m1.fz 0
        have f1 := m1.fz 1
        by_cases h46 : x = 46
        · subst h46
          rw [nst_point] at HT
          clear HST
          go_wp2_with fail
          go_roundw
          case rel => exact ⟨j + 1, s, n, true, by omega, rfl, rfl, HT, HBD, m0, m1, hit2, B0⟩
          case measure => rw [hit2.pos, HP1.out]; omega
        · have h46i : ¬ (x : Int) = 46 := by omega
          have h46 := hid h46
          cases p with
          | false =>
            have HLM : Hid (lim false = 9223372036854775807) := rfl
            have hl1 : ((lim false : Nat) : Int) = 9223372036854775807 := rfl
            rw [hl1]
            clear hl1
            have HBD' := HBD.out
            by_cases hd : 48 ≤ x ∧ x ≤ 57
            · have hw : wti ((x : Int) - 48) 9 = true := decide_eq_true (by omega)
              have ed : (9223372036854775807 - ((x : Int) - 48)).tdiv 10 = (9223372036854775807 - ((x : Int) - 48)) / 10 := Int.tdiv_eq_ediv_of_nonneg (by omega)
              by_cases hov : 10 * s + (x - 48) ≤ 9223372036854775807
              · have HN := hid (nst_fits (q := (s, n, false)) hd.1 hd.2 (by show 10 * s + (x - 48) ≤ 9223372036854775807; exact hov))
                rw [HN.out] at HT
                have HD := hid hd
                have d6 : decide ((9223372036854775807 - ((x : Int) - 48)) / 10 < (s : Int)) = false := decide_eq_false (by omega)
                have hup : 10 * (s : Int) + ((x : Int) - 48) ≤ 9223372036854775807 := by omega
                have hup2 : 10 * (s : Int) ≤ 9223372036854775807 := by omega
                replace m0 := m0.oth (g' := w.heap.size + 1) (i := 0) (v := .int .i64 (10 * (s : Int) + ((x : Int) - 48))) (by omega)
                replace m1 := m1.set0 (10 * (s : Int) + ((x : Int) - 48))
                replace hit2 := hit2.oth (g := w.heap.size + 1) (i := 0) (v := .int .i64 (10 * (s : Int) + ((x : Int) - 48))) (by omega)
                replace B0 := B0.setCell (p := ⟨w.heap.size + 1, 0, none⟩) (Nat.le_succ w.heap.size) (.int .i64 (10 * (s : Int) + ((x : Int) - 48)))
                obtain ⟨hd1, hd2⟩ := hd
                clear HST
                go_wp2_with fail
                refine (within_ _ _ _).mono ?_
                rintro e wx ⟨rfl, rfl⟩
                go_wp2_with fail
                go_roundw
                case rel =>
                  refine ⟨j + 1, 10 * s + (x - 48), n, false, by omega, rfl, rfl, HT, ⟨by exact hov, by omega⟩, m0, ?_, hit2, B0⟩
                  have e : ((10 * s + (x - 48) : Nat) : Int) = 10 * (s : Int) + ((x : Int) - 48) := by have := HD.out; omega
                  rw [e]
                  exact m1
                case measure => rw [hit2.pos, HP1.out]; omega
              · have HU := hid (HUN.out (HST.out (nst_big (q := (s, n, false)) hd.1 (by show ¬ 10 * s + (x - 48) ≤ 9223372036854775807; exact hov))))
                have d6 : decide ((9223372036854775807 - ((x : Int) - 48)) / 10 < (s : Int)) = true := decide_eq_true (by omega)
                clear HST HT
                go_wp2_with fail
                refine (within_ _ _ _).mono ?_
                rintro e wx ⟨rfl, rfl⟩
                go_wp2_with (refine wpList_sst rfl rfl _ _ rfl w.heap.size 0 0 rfl rfl 0 0 (by with_reducible exact m0) ?_)
                refine bodyPost_ret (v := .tuple #[.agg #[.int .i64 0, .int .i64 0], .bool false]) ?_ rfl ⟨ret_st HU.out.1.symm HU.out.2.1.symm HU.out.2.2.symm, bel_row B0 (Nat.le_refl _) _⟩
                exact results_st rfl _ _ w.heap.size 0 0 _ rfl rfl (m0.row 0 0).c0 (m0.row 0 0).c1
            · have hw : wti ((x : Int) - 48) 9 = false := decide_eq_false (by omega)
              have hno : nst (s, n, false) x = none := by
                by_cases h : x < 48
                · exact nst_low h h46.out
                · exact nst_high (by omega)
              have HU := hid (HUN.out (HST.out hno))
              clear HST HT hno hd
              go_wp2_with fail
              refine (within_ _ _ _).mono ?_
              rintro e wx ⟨rfl, rfl⟩
              go_wp2_with (refine wpList_sst rfl rfl _ _ rfl w.heap.size 0 0 rfl rfl 0 0 (by with_reducible exact m0) ?_)
              refine bodyPost_ret (v := .tuple #[.agg #[.int .i64 0, .int .i64 0], .bool false]) ?_ rfl ⟨ret_st HU.out.1.symm HU.out.2.1.symm HU.out.2.2.symm, bel_row B0 (Nat.le_refl _) _⟩
              exact results_st rfl _ _ w.heap.size 0 0 _ rfl rfl (m0.row 0 0).c0 (m0.row 0 0).c1
          | true =>
            have HLM : Hid (lim true = 999999999) := rfl
            have hl1 : ((lim true : Nat) : Int) = 999999999 := rfl
            rw [hl1]
            clear hl1
            have HBD' := HBD.out
            by_cases hd : 48 ≤ x ∧ x ≤ 57
            · have hw : wti ((x : Int) - 48) 9 = true := decide_eq_true (by omega)
              have ed : (999999999 - ((x : Int) - 48)).tdiv 10 = (999999999 - ((x : Int) - 48)) / 10 := Int.tdiv_eq_ediv_of_nonneg (by omega)
              by_cases hov : 10 * n + (x - 48) ≤ 999999999
              · have HN := hid (nst_fits (q := (s, n, true)) hd.1 hd.2 (by show 10 * n + (x - 48) ≤ 999999999; exact hov))
                rw [HN.out] at HT
                have HD := hid hd
                have d6 : decide ((999999999 - ((x : Int) - 48)) / 10 < (n : Int)) = false := decide_eq_false (by omega)
                have hup : 10 * (n : Int) + ((x : Int) - 48) ≤ 999999999 := by omega
                have hup2 : 10 * (n : Int) ≤ 999999999 := by omega
                replace m0 := m0.oth (g' := w.heap.size + 1) (i := 1) (v := .int .i64 (10 * (n : Int) + ((x : Int) - 48))) (by omega)
                replace m1 := m1.set1 (10 * (n : Int) + ((x : Int) - 48))
                replace hit2 := hit2.oth (g := w.heap.size + 1) (i := 1) (v := .int .i64 (10 * (n : Int) + ((x : Int) - 48))) (by omega)
                replace B0 := B0.setCell (p := ⟨w.heap.size + 1, 1, none⟩) (Nat.le_succ w.heap.size) (.int .i64 (10 * (n : Int) + ((x : Int) - 48)))
                obtain ⟨hd1, hd2⟩ := hd
                clear HST
                go_wp2_with fail
                refine (within_ _ _ _).mono ?_
                rintro e wx ⟨rfl, rfl⟩
                go_wp2_with fail
                go_roundw
                case rel =>
                  refine ⟨j + 1, s, 10 * n + (x - 48), true, by omega, rfl, rfl, HT, ⟨by omega, by exact hov⟩, m0, ?_, hit2, B0⟩
                  have e : ((10 * n + (x - 48) : Nat) : Int) = 10 * (n : Int) + ((x : Int) - 48) := by have := HD.out; omega
                  rw [e]
                  exact m1
                case measure => rw [hit2.pos, HP1.out]; omega
              · have HU := hid (HUN.out (HST.out (nst_big (q := (s, n, true)) hd.1 (by show ¬ 10 * n + (x - 48) ≤ 999999999; exact hov))))
                have d6 : decide ((999999999 - ((x : Int) - 48)) / 10 < (n : Int)) = true := decide_eq_true (by omega)
                clear HST HT
                go_wp2_with fail
                refine (within_ _ _ _).mono ?_
                rintro e wx ⟨rfl, rfl⟩
                go_wp2_with (refine wpList_sst rfl rfl _ _ rfl w.heap.size 0 0 rfl rfl 0 0 (by with_reducible exact m0) ?_)
                refine bodyPost_ret (v := .tuple #[.agg #[.int .i64 0, .int .i64 0], .bool false]) ?_ rfl ⟨ret_st HU.out.1.symm HU.out.2.1.symm HU.out.2.2.symm, bel_row B0 (Nat.le_refl _) _⟩
                exact results_st rfl _ _ w.heap.size 0 0 _ rfl rfl (m0.row 0 0).c0 (m0.row 0 0).c1
            · have hw : wti ((x : Int) - 48) 9 = false := decide_eq_false (by omega)
              have hno : nst (s, n, true) x = none := by
                by_cases h : x < 48
                · exact nst_low h h46.out
                · exact nst_high (by omega)
              have HU := hid (HUN.out (HST.out hno))
              clear HST HT hno hd
              go_wp2_with fail
              refine (within_ _ _ _).mono ?_
              rintro e wx ⟨rfl, rfl⟩
              go_wp2_with (refine wpList_sst rfl rfl _ _ rfl w.heap.size 0 0 rfl rfl 0 0 (by with_reducible exact m0) ?_)
              refine bodyPost_ret (v := .tuple #[.agg #[.int .i64 0, .int .i64 0], .bool false]) ?_ rfl ⟨ret_st HU.out.1.symm HU.out.2.1.symm HU.out.2.2.symm, bel_row B0 (Nat.le_refl _) _⟩
              exact results_st rfl _ _ w.heap.size 0 0 _ rfl rfl (m0.row 0 0).c0 (m0.row 0 0).c1
      · obtain ⟨R, q, hR1, hR2, hnx⟩ := HNH.out j hlt wr _ hit (by rw [Hx.out]; omega)
        replace m0 := m0.it S q (k := w.heap.size + 1 + 1) (by omega)
        replace m1 := m1.it S q (k := w.heap.size + 1 + 1) (by omega)
        replace B0 := Lib.below_iterAt B0 (k := w.heap.size + 1 + 1) (by omega) S q
        have HU := hid (HUN.out (HST.out (nst_high (by omega))))
        clear hit HST HT
        generalize wr.iterAt (w.heap.size + 1 + 1) S q = w2 at *
        have c0 := m1.c0
        have c1 := m1.c1
        have h46i : ¬ (R : Int) = 46 := by omega
        have hw : wti ((R : Int) - 48) 9 = false := decide_eq_false (by omega)
        cases p with
        | false =>
          have hl1 : ((lim false : Nat) : Int) = 9223372036854775807 := rfl
          rw [hl1]
          clear hl1
          go_wp2_with fail
          refine (within_ _ _ _).mono ?_
          rintro e wx ⟨rfl, rfl⟩
          go_wp2_with (refine wpList_sst rfl rfl _ _ rfl w.heap.size 0 0 rfl rfl 0 0 (by with_reducible exact m0) ?_)
          refine bodyPost_ret (v := .tuple #[.agg #[.int .i64 0, .int .i64 0], .bool false]) ?_ rfl ⟨ret_st HU.out.1.symm HU.out.2.1.symm HU.out.2.2.symm, bel_row B0 (Nat.le_refl _) _⟩
          exact results_st rfl _ _ w.heap.size 0 0 _ rfl rfl (m0.row 0 0).c0 (m0.row 0 0).c1
        | true =>
          have hl1 : ((lim true : Nat) : Int) = 999999999 := rfl
          rw [hl1]
          clear hl1
          go_wp2_with fail
          refine (within_ _ _ _).mono ?_
          rintro e wx ⟨rfl, rfl⟩
          go_wp2_with (refine wpList_sst rfl rfl _ _ rfl w.heap.size 0 0 rfl rfl 0 0 (by with_reducible exact m0) ?_)
          refine bodyPost_ret (v := .tuple #[.agg #[.int .i64 0, .int .i64 0], .bool false]) ?_ rfl ⟨ret_st HU.out.1.symm HU.out.2.1.symm HU.out.2.2.symm, bel_row B0 (Nat.le_refl _) _⟩
          exact results_st rfl _ _ w.heap.size 0 0 _ rfl rfl (m0.row 0 0).c0 (m0.row 0 0).c1
    · obtain rfl : j = l.length := by omega
      have hnx := HNE.out wr _ hit
      rw [List.take_length] at HR
      have HU := hid (HUS.out _ HR.out)
      have c0 := m1.c0
      have c1 := m1.c1
      clear HR hlt
      cases p
      all_goals
       go_wp2_with (refine wpList_sst rfl rfl _ _ rfl w.heap.size (s : Int) (n : Int) rfl rfl 0 0 (by with_reducible exact m0) ?_)
       refine bodyPost_ret (v := .tuple #[.agg #[.int .i64 (s : Int), .int .i64 (n : Int)], .bool true]) ?_ rfl ⟨ret_st HU.out.1.symm HU.out.2.1.symm HU.out.2.2.symm, bel_row B0 (Nat.le_refl _) _⟩
       exact results_st rfl _ _ w.heap.size (s : Int) (n : Int) _ rfl rfl (m0.row _ _).c0 (m0.row _ _).c1
end Go.Proofs.YtkeogggeefnoeaaGreatDoor
namespace Go.Proofs.YtkeogggeefnoeaaGreatDoor
set_option linter.unusedSimpArgs false
set_option maxRecDepth 100000
open Go.RowKit
set_option linter.unusedVariables false

set_option maxHeartbeats 1000000 in
theorem sparse_ (l : List Nat) (w : World) (hy : ∀ x ∈ l, x < 256) (hlen : l.length ≤ maxLen) (hT : Tb w) :
    Calls Tryz.prog 88 #[.string (sb l)] w fun e w' => e = .returned (.tuple #[.agg #[.int .i64 (xs l), .int .i64 (xn l)], .int .i64 (xe l)]) ∧ Below w.heap.size w w' := by
  have k1 := fun w => numbers_ l w hy hlen
  obtain ⟨hu1, hu2⟩ := u_in l
  have k2 := fun w => sprint_ (us l) (un l) w ⟨by omega, by omega⟩ ⟨by omega, by omega⟩
  have HG := hid (u_good (l := l))
  have HBd := hid (u_bad (l := l))
  have HINJ : Hid (sb (pr (us l) (un l)) = sb l ↔ pr (us l) (un l) = l) := ⟨fun h => sb_inj (pr_lt _ _) hy h, fun h => by rw [h]⟩
  obtain ⟨S, HS⟩ : ∃ S, Hid (sb l = S) := ⟨_, rfl⟩
  obtain ⟨P, HP⟩ : ∃ P, Hid (sb (pr (us l) (un l)) = P) := ⟨_, rfl⟩
  simp only [HS.out] at k1
  simp only [HP.out] at k2
  rw [HS.out, HP.out] at HINJ
  rw [HS.out]
  clear hu1 hu2 hy
  generalize us l = U at *
  generalize un l = V at *
  obtain ⟨o, Ho⟩ : ∃ o, Hid (uo l = o) := ⟨_, rfl⟩
  simp only [Ho.out] at k1
  rw [Ho.out] at HG HBd
  have B0 := snew1 w 0 0
  have m0 := Sm.new w 0 0
  replace hT := hT.alloc (.cells #[.int .i64 0, .int .i64 0] 46)
  go_enter Tryz.func88, Tryz.ntmps88
  go_wp2_with fail
  refine (k1 _).mono ?_
  rintro e w1 ⟨rfl, g2⟩
  have h0 : w.heap.size < w1.heap.size := Nat.lt_of_lt_of_le (by simp) g2.size
  replace m0 := m0.kept g2
  replace hT := hT.kept g2
  replace B0 := bel_bel B0 B0.size g2
  clear g2 k1
  replace m0 := m0.alloc (.cells #[.int .i64 U, .int .i64 V] 46)
  have m1 := Sm.new w1 U V
  replace hT := hT.alloc (.cells #[.int .i64 U, .int .i64 V] 46)
  replace B0 := B0.alloc B0.size (.cells #[.int .i64 U, .int .i64 V] 46)
  cases o with
  | false =>
    have HE := hid (HBd.out (.inl (by trivial)))
    go_wp2_with (refine wpList_sst rfl rfl _ _ rfl w.heap.size 0 0 rfl rfl 0 0 (by with_reducible exact m0) ?_)
    refine bodyPost_ret (v := .tuple #[.agg #[.int .i64 0, .int .i64 0], .int .i64 60]) ?_ rfl ⟨ret_g HE.out.1 HE.out.2.1 HE.out.2.2, bel_row B0 (Nat.le_refl _) _⟩
    exact results_st rfl _ _ w.heap.size 0 0 _ rfl rfl (m0.row 0 0).c0 (m0.row 0 0).c1
  | true =>
    go_wp2_with fail
    refine (k2 _ hT).mono ?_
    rintro e w2 ⟨rfl, g2⟩
    replace m0 := m0.kept g2
    replace m1 := m1.kept g2
    replace B0 := bel_bel B0 B0.size g2
    clear g2 k2 hT
    have c0 := m1.c0
    have c1 := m1.c1
    by_cases hps : P = S
    · have d8 : (P.toList == S.toList) = true := by rw [hps]; simp
      have HX := hid (HG.out (by trivial) (HINJ.out.1 hps))
      clear hps
      go_wp2_with (refine wpList_sst rfl rfl _ _ rfl w.heap.size U V rfl rfl 0 0 (by with_reducible exact m0) ?_)
      refine bodyPost_ret (v := .tuple #[.agg #[.int .i64 U, .int .i64 V], .int .i64 0]) ?_ rfl ⟨ret_g HX.out.1 HX.out.2.1 HX.out.2.2, bel_row B0 (Nat.le_refl _) _⟩
      exact results_st rfl _ _ w.heap.size U V _ rfl rfl (m0.row _ _).c0 (m0.row _ _).c1
    · have d8 : (P.toList == S.toList) = false := beq_eq_false_iff_ne.2 fun h => hps (toList_inj h)
      have HE := hid (HBd.out (.inr fun h => hps (HINJ.out.2 h)))
      clear hps
      go_wp2_with (refine wpList_sst rfl rfl _ _ rfl w.heap.size 0 0 rfl rfl 0 0 (by with_reducible exact m0) ?_)
      refine bodyPost_ret (v := .tuple #[.agg #[.int .i64 0, .int .i64 0], .int .i64 60]) ?_ rfl ⟨ret_g HE.out.1 HE.out.2.1 HE.out.2.2, bel_row B0 (Nat.le_refl _) _⟩
      exact results_st rfl _ _ w.heap.size 0 0 _ rfl rfl (m0.row 0 0).c0 (m0.row 0 0).c1
end Go.Proofs.YtkeogggeefnoeaaGreatDoor
