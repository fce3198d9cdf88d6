import Derived.Test.YtmgoabedickooaaGreatDoorL5
namespace Go.Proofs.YtmgoabedickooaaGreatDoor
set_option maxRecDepth 100000
open Go.RowKit
set_option linter.unusedVariables false

set_option maxHeartbeats 1000000 in
theorem print_ (F H L B : Int) (w : World) (hF : InI F) (hH : InU H) (hL : InU L) (hB : InI B) (hT : Tb w) :
    Calls Tryz.prog 15 #[.agg #[.int .i64 F, .int .u64 H, .int .u64 L, .int .i64 B]] w fun e w' => e = .returned (.string (sb (tp F H L B))) ∧ Below w.heap.size w w' := by
  have B0 := pnew w F H L B
  have m0 := Pm.new w F H L B
  have k1 := fun w => valid_ F H L B w hF hH hL hB
  have k2 := fun w => printAddr_ F H L w hF hH hL
  have c0 := m0.c0
  have c1 := m0.c1
  have c2 := m0.c2
  have c3 := m0.c3
  go_enter Tryz.func15, Tryz.ntmps15
  go_wp2_with fail
  clear c0 c1 c2 c3
  refine (k1 _).mono ?_
  rintro e w1 ⟨rfl, g2⟩
  replace m0 := m0.kept g2
  replace B0 := bel_bel B0 B0.size g2
  clear g2 k1
  cases hv : vp F H L B with
  | false =>
    go_wp2_with fail
    go_ret
    exact ⟨by unfold tp; rw [hv]; rfl, B0⟩
  | true =>
    have HP : Hid (tp F H L B = ta F H L ++ 47 :: dgs B.toNat 1) := by show _ = _; unfold tp; rw [hv]; rfl
    obtain ⟨h1, h2, h3, _⟩ := vp_in hv
    have hn128 := nb_le F
    obtain ⟨N, rfl⟩ : ∃ N : Nat, B = N := ⟨B.toNat, by omega⟩
    have k3 := fun w => itoa_ N w (by omega)
    rw [Int.toNat_natCast] at HP
    have l1 := ta_le F H L
    have l2 := dgs_three N (by omega)
    have HA : Hid (sb (ta F H L) ++ ⟨#[47]⟩ ++ sb (dgs N 1) = sb (tp F H L N)) := by show _ = _; rw [sb_slash, sb_append, sb_append, HP.out, List.append_assoc]; rfl
    have hq := sb_size (ta F H L)
    have hq2 := sb_size (dgs N 1)
    obtain ⟨P, HPP⟩ : ∃ P, Hid (tp F H L N = P) := ⟨_, rfl⟩
    rw [HPP.out] at HA
    generalize sb (ta F H L) = D1 at *
    generalize sb (dgs N 1) = D2 at *
    have a1 := fun w => run_string_add_sum (P := Tryz.prog) w D1 ⟨#[47]⟩ (by show D1.size + 1 ≤ _; omega)
    have a2 := fun w => run_string_add_sum (P := Tryz.prog) w (D1 ++ ⟨#[47]⟩) D2 (by rw [ByteArray.size_append]; show D1.size + 1 + D2.size ≤ _; omega)
    clear hv hq hq2 l1 l2 HP h1 h2 h3 hn128
    go_wp2_with fail
    refine wp_region_held_drew (S := fun wx => Pm wx w.heap.size F H L N) (by kernel_rfl) m0.drew (fun hHeld => ?_)
    replace m0 := m0.drew
    replace B0 := bel_drew1 B0
    generalize w1.drew = wd at *
    refine take_to 0 6 (.pointer (some ⟨w.heap.size, 0, none⟩)) rfl rfl (by kernel_rfl) (by kernel_rfl) (by kernel_rfl) (fun _ _ _ h => h) (Or.inl ⟨by rfl, fun w' h => ?_⟩) hHeld ?_
    · go_simp
    try simp only [List.setIfInBounds_toArray, List.set_cons_zero, List.set_cons_succ]
    refine take_to 1 7 (.agg #[.int .i64 F, .int .u64 H, .int .u64 L]) rfl rfl (by kernel_rfl) (by kernel_rfl) (by kernel_rfl) (fun _ _ _ h => h) (Or.inl ⟨by rfl, fun w' h => ?_⟩) hHeld ?_
    · have x0 := Pm.c0 h
      have x1 := Pm.c1 h
      have x2 := Pm.c2 h
      go_simp
    try simp only [List.setIfInBounds_toArray, List.set_cons_zero, List.set_cons_succ]
    refine take_to 4 10 (.pointer (some ⟨w.heap.size, 3, none⟩)) rfl rfl (by kernel_rfl) (by kernel_rfl) (by kernel_rfl) (fun _ _ _ h => h) (Or.inl ⟨by rfl, fun w' h => ?_⟩) hHeld ?_
    · go_simp
    try simp only [List.setIfInBounds_toArray, List.set_cons_zero, List.set_cons_succ]
    refine take_to 5 11 (.int .i64 N) rfl rfl (by kernel_rfl) (by kernel_rfl) (by kernel_rfl) (fun _ _ _ h => h) (Or.inl ⟨by rfl, fun w' h => ?_⟩) hHeld ?_
    · have x0 := Pm.c3 h
      go_simp
    try simp only [List.setIfInBounds_toArray, List.set_cons_zero, List.set_cons_succ]
    refine wpAnyH_ready (rs := [2]) (by kernel_rfl) (by simp) ?_
    refine AllReadyH.cons rfl (fun K' hK' => ?_) AllReadyH.nil
    rw [if_pos (by rfl)]
    go_wp2_with fail
    refine (k2 _ (hT.kept B0)).mono ?_
    rintro e w2 ⟨rfl, g2⟩
    replace m0 := m0.kept g2
    replace B0 := bel_bel B0 B0.size g2
    clear g2 hHeld
    try go_wp2_with fail
    refine hK'.out _ _ m0 (fun hHeld => ?_)
    clear hK' K'
    try simp only [Act.put, List.setIfInBounds_toArray, List.set_cons_zero, List.set_cons_succ]
    refine take_to 3 9 (.string (D1 ++ ⟨#[47]⟩)) rfl rfl (by kernel_rfl) (by kernel_rfl) (by kernel_rfl) (fun _ _ _ h => h) (Or.inl ⟨by rfl, fun w' h => ?_⟩) hHeld ?_
    · go_simp
    try simp only [List.setIfInBounds_toArray, List.set_cons_zero, List.set_cons_succ]
    refine wpAnyH_ready (rs := [6]) (by kernel_rfl) (by simp) ?_
    refine AllReadyH.cons rfl (fun K' hK' => ?_) AllReadyH.nil
    rw [if_pos (by rfl)]
    go_wp2_with fail
    refine (k3 _ (hT.kept B0)).mono ?_
    rintro e w3 ⟨rfl, g2⟩
    replace m0 := m0.kept g2
    replace B0 := bel_bel B0 B0.size g2
    clear g2 hHeld
    try go_wp2_with fail
    refine hK'.out _ _ m0 (fun hHeld => ?_)
    clear hK' K'
    try simp only [Act.put, List.setIfInBounds_toArray, List.set_cons_zero, List.set_cons_succ]
    refine take_to 7 13 (.string (D1 ++ ⟨#[47]⟩ ++ D2)) rfl rfl (by kernel_rfl) (by kernel_rfl) (by kernel_rfl) (fun _ _ _ h => h) (Or.inl ⟨by rfl, fun w' h => ?_⟩) hHeld ?_
    · go_simp
    try simp only [List.setIfInBounds_toArray, List.set_cons_zero, List.set_cons_succ]
    refine take_to 8 2 (.string (D1 ++ ⟨#[47]⟩ ++ D2)) rfl rfl (by kernel_rfl) (by kernel_rfl) (by kernel_rfl) (fun _ _ _ h => h) (Or.inl ⟨by rfl, fun w' h => ?_⟩) hHeld ?_
    · go_simp
    try simp only [List.setIfInBounds_toArray, List.set_cons_zero, List.set_cons_succ]
    refine wpAnyH_done (by kernel_rfl) ?_ _
    go_wp2_with fail
    go_ret
    exact ⟨by rw [HPP.out, ← HA.out]; rfl, B0⟩
end Go.Proofs.YtmgoabedickooaaGreatDoor
