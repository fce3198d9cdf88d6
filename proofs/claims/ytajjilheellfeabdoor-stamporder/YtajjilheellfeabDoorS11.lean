import Derived.Test.YtajjilheellfeabDoorS11b
namespace Go.Proofs.YtajjilheellfeabDoor
open Go.RowKit
set_option linter.unusedVariables false

set_option maxHeartbeats 3000000 in
set_option maxRecDepth 100000 in
theorem stampOrder_ (s0 n0 s1 n1 s2 n2 : Int) (w : World) (hT : Tb w) (hs0 : InI s0) (hn0 : InI n0) (hs1 : InI s1) (hn1 : InI n1) (hs2 : InI s2) (hn2 : InI n2) :
    Calls Tryd.prog 3 #[.agg #[.int .i64 s0, .int .i64 n0], .agg #[.int .i64 s1, .int .i64 n1], .agg #[.int .i64 s2, .int .i64 n2]] w fun e w' => e = .returned (.bool true) ∧ Below w.heap.size w w' := by
  have k0 := fun w => fit_ s0 n0 w hs0 hn0
  have k1 := fun w => fit_ s1 n1 w hs1 hn1
  have k2 := fun w => fit_ s2 n2 w hs2 hn2
  have B0 := (snew2 w s0 n0 s1 n1).alloc (by simp; omega) (.cells #[.int .i64 s2, .int .i64 n2] 23)
  obtain ⟨m0, m1⟩ := snew3 w s0 n0 s1 n1
  have m2 := Sm.new ((w.alloc (.cells #[.int .i64 s0, .int .i64 n0] 23)).alloc (.cells #[.int .i64 s1, .int .i64 n1] 23)) s2 n2
  replace m0 := m0.alloc (.cells #[.int .i64 s2, .int .i64 n2] 23)
  replace m1 := m1.alloc (.cells #[.int .i64 s2, .int .i64 n2] 23)
  rw [World.size_alloc, World.size_alloc] at m2
  go_enter Tryd.func3, Tryd.ntmps3
  go_wp2_with fail
  refine (known_ _ (hT.kept B0)).mono ?_
  rintro e w1 ⟨rfl, g2⟩
  replace m0 := m0.kept g2
  replace m1 := m1.kept g2
  replace m2 := m2.kept g2
  replace B0 := bel_bel B0 B0.size g2
  clear g2
  have c00 := m0.c0
  have c01 := m0.c1
  have c10 := m1.c0
  have c11 := m1.c1
  have c20 := m2.c0
  have c21 := m2.c1
  go_wp2_with fail
  clear c00 c01 c10 c11 c20 c21
  have bS0 := fs_in s0 hs0
  have bS1 := fs_in s1 hs1
  have bS2 := fs_in s2 hs2
  have bN0 := fn_in n0
  have bN1 := fn_in n1
  have bN2 := fn_in n2
  clear hs0 hs1 hs2 hn0 hn1 hn2 hT
  generalize fs s0 = S0 at *
  generalize fs s1 = S1 at *
  generalize fs s2 = S2 at *
  generalize fn n0 = N0 at *
  generalize fn n1 = N1 at *
  generalize fn n2 = N2 at *
  refine wp_region_held_drew (S := fun wx => Sm wx w.heap.size s0 n0 ∧ Sm wx (w.heap.size + 1) s1 n1 ∧ Sm wx (w.heap.size + 1 + 1) s2 n2) (by kernel_rfl) ⟨m0.drew, m1.drew, m2.drew⟩ (fun hHeld => ?_)
  replace m0 := m0.drew
  replace m1 := m1.drew
  replace m2 := m2.drew
  replace B0 := bel_drew1 B0
  generalize w1.drew = wd at *
  refine take_to 0 20 (.agg #[.int .i64 s0, .int .i64 n0]) rfl rfl (by kernel_rfl) (by kernel_rfl) (by kernel_rfl) (fun _ _ _ h => h) (Or.inl ⟨by rfl, fun w' h => ?_⟩) hHeld ?_
  · have x0 := h.1.c0
    have x1 := h.1.c1
    go_simp
  try simp only [List.setIfInBounds_toArray, List.set_cons_zero, List.set_cons_succ]
  refine take_to 2 22 (.agg #[.int .i64 s1, .int .i64 n1]) rfl rfl (by kernel_rfl) (by kernel_rfl) (by kernel_rfl) (fun _ _ _ h => h) (Or.inl ⟨by rfl, fun w' h => ?_⟩) hHeld ?_
  · have x0 := h.2.1.c0
    have x1 := h.2.1.c1
    go_simp
  try simp only [List.setIfInBounds_toArray, List.set_cons_zero, List.set_cons_succ]
  refine take_to 4 24 (.agg #[.int .i64 s2, .int .i64 n2]) rfl rfl (by kernel_rfl) (by kernel_rfl) (by kernel_rfl) (fun _ _ _ h => h) (Or.inl ⟨by rfl, fun w' h => ?_⟩) hHeld ?_
  · have x0 := h.2.2.c0
    have x1 := h.2.2.c1
    go_simp
  try simp only [List.setIfInBounds_toArray, List.set_cons_zero, List.set_cons_succ]
  refine wpAnyH_ready (rs := [1]) (by kernel_rfl) (by simp) ?_
  refine AllReadyH.cons rfl (fun K' hK' => ?_) AllReadyH.nil
  rw [if_pos (by rfl)]
  go_wp2_with fail
  refine (k0 _).mono ?_
  rintro e wq ⟨rfl, g2⟩
  replace m0 := m0.kept g2
  replace m1 := m1.kept g2
  replace m2 := m2.kept g2
  replace B0 := bel_bel B0 B0.size g2
  clear g2 hHeld k0
  try go_wp2_with fail
  refine hK'.out _ _ ⟨m0, m1, m2⟩ (fun hHeld => ?_)
  clear hK' K'
  try simp only [Act.put, List.setIfInBounds_toArray, List.set_cons_zero, List.set_cons_succ]
  refine wpAnyH_ready (rs := [3]) (by kernel_rfl) (by simp) ?_
  refine AllReadyH.cons rfl (fun K' hK' => ?_) AllReadyH.nil
  rw [if_pos (by rfl)]
  go_wp2_with fail
  refine (k1 _).mono ?_
  rintro e wq ⟨rfl, g2⟩
  replace m0 := m0.kept g2
  replace m1 := m1.kept g2
  replace m2 := m2.kept g2
  replace B0 := bel_bel B0 B0.size g2
  clear g2 hHeld k1
  try go_wp2_with fail
  refine hK'.out _ _ ⟨m0, m1, m2⟩ (fun hHeld => ?_)
  clear hK' K'
  try simp only [Act.put, List.setIfInBounds_toArray, List.set_cons_zero, List.set_cons_succ]
  refine wpAnyH_ready (rs := [5]) (by kernel_rfl) (by simp) ?_
  refine AllReadyH.cons rfl (fun K' hK' => ?_) AllReadyH.nil
  rw [if_pos (by rfl)]
  go_wp2_with fail
  refine (k2 _).mono ?_
  rintro e wq ⟨rfl, g2⟩
  replace m0 := m0.kept g2
  replace m1 := m1.kept g2
  replace m2 := m2.kept g2
  replace B0 := bel_bel B0 B0.size g2
  clear g2 hHeld k2
  try go_wp2_with fail
  refine hK'.out _ _ ⟨m0, m1, m2⟩ (fun hHeld => ?_)
  clear hK' K'
  try simp only [Act.put, List.setIfInBounds_toArray, List.set_cons_zero, List.set_cons_succ]
  refine wpAnyH_ready (rs := [6]) (by kernel_rfl) (by simp) ?_
  refine AllReadyH.cons rfl (fun K' hK' => ?_) AllReadyH.nil
  rw [if_pos (by rfl)]
  go_wp2_with fail
  have t0 : Tri (wq.alloc (.cells #[.int .i64 S0, .int .i64 N0, .int .i64 S1, .int .i64 N1, .int .i64 S2, .int .i64 N2] 23)) wq.heap.size (th S0 S1 S2) (th N0 N1 N2) := ⟨heap_alloc_new wq _⟩
  replace m0 := m0.alloc (.cells #[.int .i64 S0, .int .i64 N0, .int .i64 S1, .int .i64 N1, .int .i64 S2, .int .i64 N2] 23)
  replace m1 := m1.alloc (.cells #[.int .i64 S0, .int .i64 N0, .int .i64 S1, .int .i64 N1, .int .i64 S2, .int .i64 N2] 23)
  replace m2 := m2.alloc (.cells #[.int .i64 S0, .int .i64 N0, .int .i64 S1, .int .i64 N1, .int .i64 S2, .int .i64 N2] 23)
  have hgl : w.heap.size ≤ wq.heap.size := B0.size
  replace B0 := B0.alloc B0.size (.cells #[.int .i64 S0, .int .i64 N0, .int .i64 S1, .int .i64 N1, .int .i64 S2, .int .i64 N2] 23)
  generalize wq.alloc (.cells #[.int .i64 S0, .int .i64 N0, .int .i64 S1, .int .i64 N1, .int .i64 S2, .int .i64 N2] 23) = wl at *
  generalize wq.heap.size = gl at *
  clear hHeld
  refine hK'.out _ _ ⟨m0, m1, m2⟩ (fun hHeld => ?_)
  clear hK' K'
  try simp only [Act.put, List.setIfInBounds_toArray, List.set_cons_zero, List.set_cons_succ]
  refine take_to 7 7 (.slice (some ⟨gl, 0, none⟩) 3 3) rfl rfl (by kernel_rfl) (by kernel_rfl) (by kernel_rfl) (fun _ _ _ h => h) (Or.inl ⟨by rfl, fun w' _ => ?_⟩) hHeld ?_
  · go_simp
  try simp only [List.setIfInBounds_toArray, List.set_cons_zero, List.set_cons_succ]
  refine wpAnyH_done (by kernel_rfl) ?_ _
  clear hHeld m0 m1 m2
  go_wp2_with fail
  have tn : Tn (wl.alloc (.cells #[.bool false, .bool false, .bool false, .bool false, .bool false, .bool false, .bool false, .bool false, .bool false] 28)) wl.heap.size fun _ => false := Tn.new wl _ (by kernel_rfl)
  have hgs : gl < wl.heap.size := t0.lt
  replace t0 := t0.kept ((Below.refl _ _).alloc (Nat.le_refl _) (.cells #[.bool false, .bool false, .bool false, .bool false, .bool false, .bool false, .bool false, .bool false, .bool false] 28))
  replace B0 := B0.alloc B0.size (.cells #[.bool false, .bool false, .bool false, .bool false, .bool false, .bool false, .bool false, .bool false, .bool false] 28)
  generalize wl.alloc (.cells #[.bool false, .bool false, .bool false, .bool false, .bool false, .bool false, .bool false, .bool false, .bool false] 28) = wa at *
  generalize wl.heap.size = gs at *
  have HB : Hid (∀ i, (0 ≤ th S0 S1 S2 i ∧ th S0 S1 S2 i ≤ 9223372036854775807) ∧ 0 ≤ th N0 N1 N2 i ∧ th N0 N1 N2 i ≤ 999999999) := fun i => by
    unfold th
    by_cases h0 : i = 0
    · rw [if_pos h0, if_pos h0]; exact ⟨bS0, bN0⟩
    · rw [if_neg h0, if_neg h0]
      by_cases h1 : i = 1
      · rw [if_pos h1, if_pos h1]; exact ⟨bS1, bN1⟩
      · rw [if_neg h1, if_neg h1]; exact ⟨bS2, bN2⟩
  clear bS0 bS1 bS2 bN0 bN1 bN2
  generalize th S0 S1 S2 = s at *
  generalize th N0 N1 N2 = n at *
  have HI : Hid (∀ i, InI (s i) ∧ InI (n i)) := fun i => by
    have := HB.out i
    unfold InI
    omega
  go_loopw [9] (fun a wr => ∃ (i : Nat) (f : Nat → Bool), i ≤ 3 ∧ a = .int .i64 i ∧ Tn wr gs f ∧ Tri wr gl s n ∧ Hid (∀ p q, q < 3 → p < i → f (p * 3 + q) = ls s n p q) ∧ Below w.heap.size w wr) (fun a _ => 3 - (intOf a).toNat)
  case atStart => exact ⟨0, _, by omega, rfl, tn, t0, fun p q _ hp => by omega, B0⟩
  case round =>
    clear tn t0 B0
    obtain ⟨i, f, hi, rfl, tn, t0, HF, B0⟩ := hrel
    by_cases hlt : i < 3
    · have hI : (i : Int) < 3 := by omega
      obtain ⟨wo, rfl⟩ : ∃ wo, wo = wr := ⟨_, rfl⟩
      go_wp2_with fail
      go_loopw [10] (fun a wr => ∃ (k : Nat) (f : Nat → Bool), k ≤ 3 ∧ a = .int .i64 k ∧ Tn wr gs f ∧ Tri wr gl s n ∧ Hid (∀ p q, q < 3 → (p < i ∨ (p = i ∧ q < k)) → f (p * 3 + q) = ls s n p q) ∧ Below w.heap.size w wr) (fun a _ => 3 - (intOf a).toNat)
      case atStart => exact ⟨0, f, by omega, rfl, tn, t0, fun p q h1 h2 => HF.out p q h1 (by omega), B0⟩
      case round =>
        clear tn t0 B0 HF
        obtain ⟨k, f, hk, rfl, tn, t0, HF, B0⟩ := hrel
        by_cases hlt : k < 3
        · have hI2 : (k : Int) < 3 := by omega
          have k1 := fun w => less_ (s i) (n i) (s k) (n k) w (HI.out i).1 (HI.out i).2 (HI.out k).1 (HI.out k).2
          have k2 := fun w => put_ (s i) (n i) w (HI.out i).1 (HI.out i).2
          have k3 := fun w => put_ (s k) (n k) w (HI.out k).1 (HI.out k).2
          have k4 := fun w => sameStamp_ (s i) (n i) (s k) (n k) w
          have HLX := hid (lx_pt (HB.out i).1 (HB.out i).2 (HB.out k).1 (HB.out k).2)
          have HP1 := hid (gok_pt (HB.out i).1 (HB.out i).2).2.2.2.1
          have HP2 := hid (gok_pt (HB.out k).1 (HB.out k).2).2.2.2.1
          have HA : Hid (lss (s i) (n i) (s k) (n k) = ls s n i k) := rfl
          have HM : Hid (sme (s i) (n i) (s k) (n k) = sm s n i k) := rfl
          rw [HP1.out] at k2
          rw [HP2.out] at k3
          rw [HA.out] at k1 HLX
          rw [HM.out] at k4
          have HFN : Hid (∀ p q, q < 3 → (p < i ∨ (p = i ∧ q < k + 1)) → updb f (i * 3 + k) (ls s n i k) (p * 3 + q) = ls s n p q) := fun p q h1 h2 => by
            unfold updb
            by_cases e : p * 3 + q = i * 3 + k
            · rw [if_pos e]
              obtain rfl : p = i := by omega
              obtain rfl : q = k := by omega
              rfl
            · rw [if_neg e]
              exact HF.out p q h1 (by omega)
          have HBK : Hid (k < i → f (k * 3 + i) = ls s n k i) := fun h => HF.out k i (by omega) (.inl h)
          obtain ⟨L1, HL1⟩ : ∃ L, Hid (pt (s i) (n i) = L) := ⟨_, rfl⟩
          obtain ⟨L2, HL2⟩ : ∃ L, Hid (pt (s k) (n k) = L) := ⟨_, rfl⟩
          simp only [HL1.out] at k2
          simp only [HL2.out] at k3
          rw [HL1.out, HL2.out] at HLX
          rw [HL1.out] at HP1
          rw [HL2.out] at HP2
          clear HF HA HM
          obtain ⟨wb, rfl⟩ : ∃ wb, wb = wr := ⟨_, rfl⟩
          go_wp2_with fail
          refine wp_region_held_drew (S := fun wx => Tri wx gl s n) (by kernel_rfl) t0.drew (fun hHeld => ?_)
          replace t0 := t0.drew
          replace tn := tn.drew
          replace B0 := bel_drew1 B0
          generalize wb.drew = wd at *
          refine take_to 0 35 (.int .i64 (i : Int)) rfl rfl (by kernel_rfl) (by kernel_rfl) (by kernel_rfl) (fun _ _ _ h => h) (Or.inl ⟨by rfl, fun w' h => ?_⟩) hHeld ?_
          · go_simp
          try simp only [List.setIfInBounds_toArray, List.set_cons_zero, List.set_cons_succ]
          refine take_to 1 36 (.int .i64 (k : Int)) rfl rfl (by kernel_rfl) (by kernel_rfl) (by kernel_rfl) (fun _ _ _ h => h) (Or.inl ⟨by rfl, fun w' h => ?_⟩) hHeld ?_
          · go_simp
          try simp only [List.setIfInBounds_toArray, List.set_cons_zero, List.set_cons_succ]
          refine take_to 2 37 (.slice (some ⟨gl, 0, none⟩) 3 3) rfl rfl (by kernel_rfl) (by kernel_rfl) (by kernel_rfl) (fun _ _ _ h => h) (Or.inl ⟨by rfl, fun w' h => ?_⟩) hHeld ?_
          · go_simp
          try simp only [List.setIfInBounds_toArray, List.set_cons_zero, List.set_cons_succ]
          refine take_to 3 38 (.int .i64 (i : Int)) rfl rfl (by kernel_rfl) (by kernel_rfl) (by kernel_rfl) (fun _ _ _ h => h) (Or.inl ⟨by rfl, fun w' h => ?_⟩) hHeld ?_
          · go_simp
          try simp only [List.setIfInBounds_toArray, List.set_cons_zero, List.set_cons_succ]
          refine take_to 4 39 (.pointer (some ⟨gl, i * 2, none⟩)) rfl rfl (by kernel_rfl) (by kernel_rfl) (by kernel_rfl) (fun _ _ _ h => h) (Or.inl ⟨by rfl, fun w' h => ?_⟩) hHeld ?_
          · go_simp
          try simp only [List.setIfInBounds_toArray, List.set_cons_zero, List.set_cons_succ]
          refine take_to 5 40 (.agg #[.int .i64 (s i), .int .i64 (n i)]) rfl rfl (by kernel_rfl) (by kernel_rfl) (by kernel_rfl) (fun _ _ _ h => h) (Or.inl ⟨by rfl, fun w' h => ?_⟩) hHeld ?_
          · have x0 := Tri.c0 h i (by omega)
            have x1 := Tri.c1 h i (by omega)
            go_simp
          try simp only [List.setIfInBounds_toArray, List.set_cons_zero, List.set_cons_succ]
          refine take_to 6 41 (.slice (some ⟨gl, 0, none⟩) 3 3) rfl rfl (by kernel_rfl) (by kernel_rfl) (by kernel_rfl) (fun _ _ _ h => h) (Or.inl ⟨by rfl, fun w' h => ?_⟩) hHeld ?_
          · go_simp
          try simp only [List.setIfInBounds_toArray, List.set_cons_zero, List.set_cons_succ]
          refine take_to 7 42 (.int .i64 (k : Int)) rfl rfl (by kernel_rfl) (by kernel_rfl) (by kernel_rfl) (fun _ _ _ h => h) (Or.inl ⟨by rfl, fun w' h => ?_⟩) hHeld ?_
          · go_simp
          try simp only [List.setIfInBounds_toArray, List.set_cons_zero, List.set_cons_succ]
          refine take_to 8 43 (.pointer (some ⟨gl, k * 2, none⟩)) rfl rfl (by kernel_rfl) (by kernel_rfl) (by kernel_rfl) (fun _ _ _ h => h) (Or.inl ⟨by rfl, fun w' h => ?_⟩) hHeld ?_
          · go_simp
          try simp only [List.setIfInBounds_toArray, List.set_cons_zero, List.set_cons_succ]
          refine take_to 9 44 (.agg #[.int .i64 (s k), .int .i64 (n k)]) rfl rfl (by kernel_rfl) (by kernel_rfl) (by kernel_rfl) (fun _ _ _ h => h) (Or.inl ⟨by rfl, fun w' h => ?_⟩) hHeld ?_
          · have x0 := Tri.c0 h k (by omega)
            have x1 := Tri.c1 h k (by omega)
            go_simp
          try simp only [List.setIfInBounds_toArray, List.set_cons_zero, List.set_cons_succ]
          refine take_to 11 46 (.pointer (some ⟨gs, i * 3, none⟩)) rfl rfl (by kernel_rfl) (by kernel_rfl) (by kernel_rfl) (fun _ _ _ h => h) (Or.inl ⟨by rfl, fun w' h => ?_⟩) hHeld ?_
          · go_simp
          try simp only [List.setIfInBounds_toArray, List.set_cons_zero, List.set_cons_succ]
          refine wpAnyH_ready (rs := [10]) (by kernel_rfl) (by simp) ?_
          refine AllReadyH.cons rfl (fun K' hK' => ?_) AllReadyH.nil
          rw [if_pos (by rfl)]
          go_wp2_with fail
          refine (k1 _).mono ?_
          rintro e w2 ⟨rfl, g2⟩
          replace t0 := t0.kept g2
          replace tn := tn.kept g2
          replace B0 := bel_bel B0 B0.size g2
          clear g2 hHeld k1
          try go_wp2_with fail
          refine hK'.out _ _ t0 (fun hHeld => ?_)
          clear hK' K'
          try simp only [Act.put, List.setIfInBounds_toArray, List.set_cons_zero, List.set_cons_succ]
          refine take_to 12 47 (.pointer (some ⟨gs, i * 3 + k, none⟩)) rfl rfl (by kernel_rfl) (by kernel_rfl) (by kernel_rfl) (fun _ _ _ h => h) (Or.inl ⟨by rfl, fun w' h => ?_⟩) hHeld ?_
          · go_simp
          try simp only [List.setIfInBounds_toArray, List.set_cons_zero, List.set_cons_succ]
          have cc := tn.cell (i * 3 + k) (by omega)
          have fz := tn.fz (i * 3 + k)
          refine wpAnyH_ready (rs := [13]) (by kernel_rfl) (by simp) ?_
          refine AllReadyH.cons rfl (fun K' hK' => ?_) AllReadyH.nil
          rw [if_pos (by rfl)]
          go_wp2_with fail
          replace t0 := t0.set (g' := gs) (i := i * 3 + k) (v := .bool (ls s n i k)) (by omega)
          replace tn := tn.set (i * 3 + k) (by omega) (ls s n i k)
          replace B0 := B0.setCell (p := ⟨gs, i * 3 + k, none⟩) (by show _ ≤ gs; omega) (.bool (ls s n i k))
          clear hHeld cc fz
          generalize w2.setCell ⟨gs, i * 3 + k, none⟩ (.bool (ls s n i k)) = w3 at *
          refine hK'.out _ _ t0 (fun hHeld => ?_)
          clear hK' K'
          try simp only [Act.put, List.setIfInBounds_toArray, List.set_cons_zero, List.set_cons_succ]
          refine wpAnyH_done (by kernel_rfl) ?_ _
          clear hHeld
          have HFF : Hid (k < i → updb f (i * 3 + k) (ls s n i k) (k * 3 + i) = ls s n k i) := fun h => by
            unfold updb
            rw [if_neg (by omega)]
            exact HBK.out h
          have HFI : Hid (updb f (i * 3 + k) (ls s n i k) (i * 3 + k) = ls s n i k) := if_pos rfl
          generalize updb f (i * 3 + k) (ls s n i k) = f2 at *
          have c0 := t0.c0 i (by omega)
          have c1 := t0.c1 i (by omega)
          have d0 := t0.c0 k (by omega)
          have d1 := t0.c1 k (by omega)
          go_wp2_with fail
          clear c0 c1 d0 d1
          refine (k2 _).mono ?_
          rintro e w4 ⟨v, rfl, ho, g2⟩
          obtain ⟨gx, cx, rfl, _, _, _, hx, _⟩ := own_head ho (by omega)
          replace t0 := t0.kept g2
          replace tn := tn.kept g2
          replace B0 := bel_bel B0 B0.size g2
          clear g2 ho k2
          have c0 := t0.c0 i (by omega)
          have c1 := t0.c1 i (by omega)
          have d0 := t0.c0 k (by omega)
          have d1 := t0.c1 k (by omega)
          go_wp2_with fail
          clear c0 c1 d0 d1
          refine (k3 _).mono ?_
          rintro e w5 ⟨v, rfl, ho, g2⟩
          obtain ⟨gy, cy, rfl, _, _, _, hy, _⟩ := own_head ho (by omega)
          replace t0 := t0.kept g2
          replace tn := tn.kept g2
          replace hx := hx.below g2
          replace B0 := bel_bel B0 B0.size g2
          clear g2 ho k3
          go_wp2_with fail
          refine (refBLess_ gx 0 cx gy 0 cy L1 L2 _ HP1.out HP2.out (fun q hq => by rw [Nat.zero_add]; exact hx.cell q (by rw [HP1.out]; exact hq)) (fun q hq => by rw [Nat.zero_add]; exact hy.cell q (by rw [HP2.out]; exact hq))).mono ?_
          rintro e w6 ⟨rfl, g2⟩
          rw [HLX.out]
          replace t0 := t0.kept g2
          replace tn := tn.kept g2
          replace B0 := bel_bel B0 B0.size g2
          clear g2 hx hy HLX
          go_wp2_with fail
          refine wp_region_held_drew (S := fun wx => Tri wx gl s n) (by kernel_rfl) t0.drew (fun hHeld => ?_)
          replace t0 := t0.drew
          replace tn := tn.drew
          replace B0 := bel_drew1 B0
          generalize w6.drew = w7 at *
          refine take_to 0 61 (.slice (some ⟨gl, 0, none⟩) 3 3) rfl rfl (by kernel_rfl) (by kernel_rfl) (by kernel_rfl) (fun _ _ _ h => h) (Or.inl ⟨by rfl, fun w' h => ?_⟩) hHeld ?_
          · go_simp
          try simp only [List.setIfInBounds_toArray, List.set_cons_zero, List.set_cons_succ]
          refine take_to 1 62 (.int .i64 (i : Int)) rfl rfl (by kernel_rfl) (by kernel_rfl) (by kernel_rfl) (fun _ _ _ h => h) (Or.inl ⟨by rfl, fun w' h => ?_⟩) hHeld ?_
          · go_simp
          try simp only [List.setIfInBounds_toArray, List.set_cons_zero, List.set_cons_succ]
          refine take_to 2 63 (.pointer (some ⟨gl, i * 2, none⟩)) rfl rfl (by kernel_rfl) (by kernel_rfl) (by kernel_rfl) (fun _ _ _ h => h) (Or.inl ⟨by rfl, fun w' h => ?_⟩) hHeld ?_
          · go_simp
          try simp only [List.setIfInBounds_toArray, List.set_cons_zero, List.set_cons_succ]
          refine take_to 3 64 (.agg #[.int .i64 (s i), .int .i64 (n i)]) rfl rfl (by kernel_rfl) (by kernel_rfl) (by kernel_rfl) (fun _ _ _ h => h) (Or.inl ⟨by rfl, fun w' h => ?_⟩) hHeld ?_
          · have x0 := Tri.c0 h i (by omega)
            have x1 := Tri.c1 h i (by omega)
            go_simp
          try simp only [List.setIfInBounds_toArray, List.set_cons_zero, List.set_cons_succ]
          refine take_to 4 65 (.slice (some ⟨gl, 0, none⟩) 3 3) rfl rfl (by kernel_rfl) (by kernel_rfl) (by kernel_rfl) (fun _ _ _ h => h) (Or.inl ⟨by rfl, fun w' h => ?_⟩) hHeld ?_
          · go_simp
          try simp only [List.setIfInBounds_toArray, List.set_cons_zero, List.set_cons_succ]
          refine take_to 5 66 (.int .i64 (k : Int)) rfl rfl (by kernel_rfl) (by kernel_rfl) (by kernel_rfl) (fun _ _ _ h => h) (Or.inl ⟨by rfl, fun w' h => ?_⟩) hHeld ?_
          · go_simp
          try simp only [List.setIfInBounds_toArray, List.set_cons_zero, List.set_cons_succ]
          refine take_to 6 67 (.pointer (some ⟨gl, k * 2, none⟩)) rfl rfl (by kernel_rfl) (by kernel_rfl) (by kernel_rfl) (fun _ _ _ h => h) (Or.inl ⟨by rfl, fun w' h => ?_⟩) hHeld ?_
          · go_simp
          try simp only [List.setIfInBounds_toArray, List.set_cons_zero, List.set_cons_succ]
          refine take_to 7 68 (.agg #[.int .i64 (s k), .int .i64 (n k)]) rfl rfl (by kernel_rfl) (by kernel_rfl) (by kernel_rfl) (fun _ _ _ h => h) (Or.inl ⟨by rfl, fun w' h => ?_⟩) hHeld ?_
          · have x0 := Tri.c0 h k (by omega)
            have x1 := Tri.c1 h k (by omega)
            go_simp
          try simp only [List.setIfInBounds_toArray, List.set_cons_zero, List.set_cons_succ]
          refine wpAnyH_ready (rs := [8]) (by kernel_rfl) (by simp) ?_
          refine AllReadyH.cons rfl (fun K' hK' => ?_) AllReadyH.nil
          rw [if_pos (by rfl)]
          go_wp2_with fail
          refine (k4 _).mono ?_
          rintro e w8 ⟨rfl, g2⟩
          replace t0 := t0.kept g2
          replace tn := tn.kept g2
          replace B0 := bel_bel B0 B0.size g2
          clear g2 hHeld k4
          try go_wp2_with fail
          refine hK'.out _ _ t0 (fun hHeld => ?_)
          clear hK' K'
          try simp only [Act.put, List.setIfInBounds_toArray, List.set_cons_zero, List.set_cons_succ]
          refine take_to 9 14 (.bool (sm s n i k)) rfl rfl (by kernel_rfl) (by kernel_rfl) (by kernel_rfl) (fun _ _ _ h => h) (Or.inl ⟨by rfl, fun w' h => ?_⟩) hHeld ?_
          · go_simp
          try simp only [List.setIfInBounds_toArray, List.set_cons_zero, List.set_cons_succ]
          refine wpAnyH_done (by kernel_rfl) ?_ _
          clear hHeld
          have cA := tn.cell (i * 3 + k) (by omega)
          have cB := tn.cell (k * 3 + i) (by omega)
          rw [HFI.out] at cA
          have hAA : (ls s n i k != ls s n i k) = false := by simp
          have HS1 := hid (ls_sm (s := s) (n := n) (i := i) (k := k))
          have HS2 := hid (ls_two (s := s) (n := n) (i := i) (k := k))
          by_cases hki : k < i
          · have hkI : (k : Int) < (i : Int) := by omega
            have hC := HFF.out hki
            rw [hC] at cB
            cases hsm : sm s n i k with
            | true =>
              have hA := HS1.out hsm
              rw [hA] at cA hAA
              rw [hA]
              clear HS1 HS2 hA hC hsm
              generalize ls s n k i = C at *
              go_wp2_with fail
              go_region
              go_wp2_with fail
              go_roundw
              case rel => exact ⟨k + 1, f2, by omega, by go_num, tn.drew, t0.drew, HFN, bel_drew1 B0⟩
              case measure => simp [intOf]; omega
            | false =>
              have hne : (ls s n i k == ls s n k i) = false := beq_eq_false_iff_ne.2 (HS2.out hsm)
              clear HS1 HS2 hC hsm
              generalize ls s n k i = C at *
              obtain ⟨A, HAA⟩ : ∃ A, Hid (ls s n i k = A) := ⟨_, rfl⟩
              simp only [HAA.out] at cA hAA hne ⊢
              go_wp2_with fail
              go_region
              go_wp2_with fail
              go_roundw
              case rel => exact ⟨k + 1, f2, by omega, by go_num, tn.drew, t0.drew, HFN, bel_drew1 B0⟩
              case measure => simp [intOf]; omega
          · have hkI : ¬ (k : Int) < (i : Int) := by omega
            cases hsm : sm s n i k with
            | true =>
              have hA := HS1.out hsm
              rw [hA] at cA hAA
              rw [hA]
              clear HS1 HS2 hA hsm
              go_wp2_with fail
              go_region
              go_wp2_with fail
              go_roundw
              case rel => exact ⟨k + 1, f2, by omega, by go_num, tn.drew, t0.drew, HFN, bel_drew1 B0⟩
              case measure => simp [intOf]; omega
            | false =>
              clear HS1 HS2 hsm
              obtain ⟨A, HAA⟩ : ∃ A, Hid (ls s n i k = A) := ⟨_, rfl⟩
              simp only [HAA.out] at cA hAA ⊢
              go_wp2_with fail
              go_region
              go_wp2_with fail
              go_roundw
              case rel => exact ⟨k + 1, f2, by omega, by go_num, tn.drew, t0.drew, HFN, bel_drew1 B0⟩
              case measure => simp [intOf]; omega
        · have hI2 : ¬ (k : Int) < 3 := by omega
          obtain rfl : k = 3 := by omega
          go_wp2_with fail
          go_roundw
          case rel => exact ⟨i + 1, f, by omega, by go_num, tn, t0, fun p q h1 h2 => HF.out p q h1 (by omega), B0⟩
          case measure => simp [intOf]; omega
    · have hI : ¬ (i : Int) < 3 := by omega
      have HFA : Hid (∀ p q, q < 3 → p < 3 → f (p * 3 + q) = ls s n p q) := fun p q h1 h2 => HF.out p q h1 (by omega)
      clear HF t0 HB HI
      obtain ⟨wc, rfl⟩ : ∃ wc, wc = wr := ⟨_, rfl⟩
      go_wp2_with fail
      go_loop [15] (fun a => ∃ p : Nat, p ≤ 3 ∧ a = .int .i64 p) (fun a => 3 - (intOf a).toNat)
      case atStart => exact ⟨0, by omega, rfl⟩
      case round =>
        obtain ⟨p, hp, rfl⟩ := hrel
        by_cases hlp : p < 3
        · have hIp : (p : Int) < 3 := by omega
          go_wp2_with fail
          go_loop [16] (fun a => ∃ q : Nat, q ≤ 3 ∧ a = .int .i64 q) (fun a => 3 - (intOf a).toNat)
          case atStart => exact ⟨0, by omega, rfl⟩
          case round =>
            obtain ⟨q, hq, rfl⟩ := hrel
            by_cases hlq : q < 3
            · have hIq : (q : Int) < 3 := by omega
              go_wp2_with fail
              go_loop [17] (fun a => ∃ r : Nat, r ≤ 3 ∧ a = .int .i64 r) (fun a => 3 - (intOf a).toNat)
              case atStart => exact ⟨0, by omega, rfl⟩
              case round =>
                obtain ⟨r, hr, rfl⟩ := hrel
                by_cases hlr : r < 3
                · have hIr : (r : Int) < 3 := by omega
                  have cA := tn.cell (p * 3 + q) (by omega)
                  have cB := tn.cell (q * 3 + r) (by omega)
                  have cC := tn.cell (p * 3 + r) (by omega)
                  rw [HFA.out p q hlq hlp] at cA
                  rw [HFA.out q r hlr hlq] at cB
                  rw [HFA.out p r hlr hlp] at cC
                  have HTR := hid (ls_trans (s := s) (n := n) (i := p) (k := q) (m := r))
                  cases hA : ls s n p q with
                  | false =>
                    rw [hA] at cA
                    clear hA HTR cB cC
                    go_wp2_with fail
                    go_round
                    case rel => exact ⟨r + 1, by omega, by go_num⟩
                    case measure => simp [intOf]; omega
                  | true =>
                    cases hB : ls s n q r with
                    | false =>
                      rw [hA] at cA
                      rw [hB] at cB
                      clear hA hB HTR cC
                      go_wp2_with fail
                      go_round
                      case rel => exact ⟨r + 1, by omega, by go_num⟩
                      case measure => simp [intOf]; omega
                    | true =>
                      rw [hA] at cA
                      rw [hB] at cB
                      rw [HTR.out hA hB] at cC
                      clear hA hB HTR
                      go_wp2_with fail
                      go_round
                      case rel => exact ⟨r + 1, by omega, by go_num⟩
                      case measure => simp [intOf]; omega
                · have hIr : ¬ (r : Int) < 3 := by omega
                  go_wp2_with fail
                  go_round
                  case rel => exact ⟨q + 1, by omega, by go_num⟩
                  case measure => simp [intOf]; omega
            · have hIq : ¬ (q : Int) < 3 := by omega
              go_wp2_with fail
              go_round
              case rel => exact ⟨p + 1, by omega, by go_num⟩
              case measure => simp [intOf]; omega
        · have hIp : ¬ (p : Int) < 3 := by omega
          go_wp2_with fail
          go_ret
          exact ⟨rfl, B0⟩
end Go.Proofs.YtajjilheellfeabDoor
