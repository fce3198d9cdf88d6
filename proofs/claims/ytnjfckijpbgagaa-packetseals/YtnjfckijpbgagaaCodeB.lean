import Derived.Test.YtnjfckijpbgagaaGBase
import Derived.Deep.Cut
namespace Go.Proofs.Ytnjfckijpbgagaa
set_option maxRecDepth 100000
open Go.RowKit
set_option linter.unusedVariables false

set_option maxHeartbeats 2000000 in
theorem block8_ (g : Nat) (k f : Nat → Nat) (w : World) (cc : Cp w g k) (hk : ∀ j, k j < 256) (hf : ∀ i, i < 16 → f i < 256) :
    Calls Try.prog 73 #[.pointer (some ⟨g, 0, none⟩), .agg (rw8 16 f)] w fun e w' => e = .returned (.agg (rw8 16 (bl k f 14))) ∧ Below w.heap.size w w' := by
  have hgl := cc.lt
  have HK := hid hk
  have HF := hid hf
  have C1 := fun w => xor16_ f (from8 (16 * 0) k) w hf (fun i _ => hk _)
  rw [show xr f (from8 (16 * 0) k) = bl k f 0 from rfl] at C1
  have i0 := fun w => run_key g 0 (by omega) 0 rfl w
  clear hk hf
  obtain ⟨a0, a1, b0⟩ := rnew2 w 96 16 f 96 16 (fun _ => 0)
  go_enter Try.func73, Try.ntmps73
  go_wp2_with (refine wpList_al rfl _ rfl 16 (by exact zeroa) ?_)
  simp only [Act.put, List.setIfInBounds_toArray, List.set_cons_zero, List.set_cons_succ, World.size_alloc]
  have cc := cc.keep b0 hgl
  generalize (w.alloc (.cells (rw8 16 f) 96)).alloc (.cells (rw8 16 fun _ => 0) 96) = w1 at *
  go_cut [5] from 7 (fun v wx => ∃ gb, v = .pointer (some ⟨gb, 0, none⟩) ∧ w.heap.size + 1 < gb ∧ Cp wx g k ∧ Rw wx (w.heap.size + 1) 96 16 (fun _ => 0) ∧ Rw wx gb 96 16 (bl k f 0) ∧ Below w.heap.size w wx)
  case first =>
    refine wp_region_held_drew (S := fun wx => Cp wx g k ∧ Rw wx w.heap.size 96 16 f) (by kernel_rfl) ⟨cc.drew, a0.drew⟩ (fun hHeld => ?_)
    have a0 := a0.drew
    have a1 := a1.drew
    have cc := cc.drew
    have b0 := bel_drew1 b0
    generalize w1.drew = wd at *
    refine take_to 0 7 (.agg (rw8 16 f)) rfl rfl (by kernel_rfl) (by kernel_rfl) (by kernel_rfl) (fun _ _ _ h => h) (yields_rng (by rfl) _ _ rfl (w.heap.size) 0 16 _ rfl (fun w' h => h.2.rng0) _ under16 rfl size16) hHeld ?_
    try simp only [List.setIfInBounds_toArray, List.set_cons_zero, List.set_cons_succ]
    refine take_to 1 8 (.pointer (some ⟨g, 0, none⟩)) rfl rfl (by kernel_rfl) (by kernel_rfl) (by kernel_rfl) (fun _ _ _ h => h) (Or.inl ⟨by rfl, fun w' _ => ?_⟩) hHeld ?_
    · go_simp
    try simp only [List.setIfInBounds_toArray, List.set_cons_zero, List.set_cons_succ]
    refine take_to 2 9 (.pointer (some ⟨g, 0, none⟩)) rfl rfl (by kernel_rfl) (by kernel_rfl) (by kernel_rfl) (fun _ _ _ h => h) (Or.inl ⟨by rfl, fun w' _ => ?_⟩) hHeld ?_
    · go_simp
    try simp only [List.setIfInBounds_toArray, List.set_cons_zero, List.set_cons_succ]
    refine take_to 3 10 (.pointer (some ⟨g, 256, none⟩)) rfl rfl (by kernel_rfl) (by kernel_rfl) (by kernel_rfl) (fun _ _ _ h => h) (Or.inl ⟨by rfl, fun w' _ => ?_⟩) hHeld ?_
    · go_simp
    try simp only [List.setIfInBounds_toArray, List.set_cons_zero, List.set_cons_succ]
    refine take_to 4 11 (.pointer (some ⟨g, 256 + 16 * (0), none⟩)) rfl rfl (by kernel_rfl) (by kernel_rfl) (by kernel_rfl) (fun _ _ _ h => h) (Or.inl ⟨by rfl, fun w' _ => ?_⟩) hHeld ?_
    · go_simp
    try simp only [List.setIfInBounds_toArray, List.set_cons_zero, List.set_cons_succ]
    refine take_to 5 12 (.agg (rw8 16 (from8 (16 * 0) k))) rfl rfl (by kernel_rfl) (by kernel_rfl) (by kernel_rfl) (fun _ _ _ h => h) (yields_rng (by rfl) _ _ rfl g (256 + 16 * 0) 16 _ rfl (fun w' h => h.1.range (16 * 0) (by omega)) _ under16 rfl size16) hHeld ?_
    try simp only [List.setIfInBounds_toArray, List.set_cons_zero, List.set_cons_succ]
    refine wpAnyH_ready (rs := [6, 7]) (by kernel_rfl) (by simp) ?_
    refine AllReadyH.cons rfl (fun K hK => ?_) (AllReadyH.cons rfl (fun K hK => ?_) AllReadyH.nil)
    · rw [if_pos (by rfl)]
      go_wp2_with fail
      refine (C1 _).mono ?_
      rintro e wa ⟨rfl, g2⟩
      have a0 := a0.kept g2
      have a1 := a1.kept g2
      have cc := cc.kept g2
      have b0 := bel_bel b0 b0.size g2
      clear g2 hHeld
      try go_wp2_with fail
      refine hK.out _ _ ⟨cc, a0⟩ (fun hHeld => ?_)
      clear hK K
      try simp only [Act.put, List.setIfInBounds_toArray, List.set_cons_zero, List.set_cons_succ]
      refine wpAnyH_ready (rs := [7]) (by kernel_rfl) (by simp) ?_
      refine AllReadyH.cons rfl (fun K hK => ?_) AllReadyH.nil
      rw [if_pos (by rfl)]
      refine wp_al (some 5) rfl _ rfl 16 zeroa ?_
      have hgb : w.heap.size + 1 < wa.heap.size := by have := a1.lt; omega
      have a0 := a0.alloc (.cells (rw8 16 fun _ => 0) 96)
      have a1 := a1.alloc (.cells (rw8 16 fun _ => 0) 96)
      have cc := cc.alloc (.cells (rw8 16 fun _ => 0) 96)
      have a2 := Rw.new wa 96 16 (fun _ => 0)
      have b0 := b0.alloc b0.size (.cells (rw8 16 fun _ => 0) 96)
      refine hK.out _ _ ⟨cc, a0⟩ (fun hHeld => ?_)
      clear hK K
      try simp only [Act.put, List.setIfInBounds_toArray, List.set_cons_zero, List.set_cons_succ]
      generalize wa.heap.size = gb at *
      generalize wa.alloc (.cells (rw8 16 fun _ => 0) 96) = wb at *
      refine wpAnyH_ready (rs := [8]) (by kernel_rfl) (by simp) ?_
      refine AllReadyH.cons rfl (fun K hK => ?_) AllReadyH.nil
      rw [if_pos (by rfl)]
      refine wp_stm rfl _ _ _ rfl (gb) 0 rfl 16 (bl k f 0) rfl _ _ _ (by with_reducible exact a2) (by omega) size16 ?_
      have a0 := a0.omid (g' := gb) (by omega) 0 (rw8 16 (bl k f 0)).toList
      have a1 := a1.omid (g' := gb) (by omega) 0 (rw8 16 (bl k f 0)).toList
      have a2 := a2.whole (bl k f 0)
      have cc := cc.omid (g' := gb) (by omega) 0 (rw8 16 (bl k f 0)).toList
      have b0 := bel_cells (B := w.heap.size) (g := gb) (by omega) (rw8 16 (bl k f 0)).toList 0 _ b0
      refine hK.out _ _ ⟨cc, a0⟩ (fun hHeld => ?_)
      clear hK K
      try simp only [Act.put, List.setIfInBounds_toArray, List.set_cons_zero, List.set_cons_succ]
      generalize wb.setCells (gb) 0 (rw8 16 (bl k f 0)).toList = we at *
      refine wpAnyH_done (by kernel_rfl) ?_ _
      go_wp2_with fail
      go_meet
      case rel => exact ⟨_, rfl, hgb, cc, a1, a2, b0⟩
    · rw [if_pos (by rfl)]
      refine wp_al (some 5) rfl _ rfl 16 zeroa ?_
      have hgb : w.heap.size + 1 < wd.heap.size := by have := a1.lt; omega
      have a0 := a0.alloc (.cells (rw8 16 fun _ => 0) 96)
      have a1 := a1.alloc (.cells (rw8 16 fun _ => 0) 96)
      have cc := cc.alloc (.cells (rw8 16 fun _ => 0) 96)
      have a2 := Rw.new wd 96 16 (fun _ => 0)
      have b0 := b0.alloc b0.size (.cells (rw8 16 fun _ => 0) 96)
      refine hK.out _ _ ⟨cc, a0⟩ (fun hHeld => ?_)
      clear hK K
      try simp only [Act.put, List.setIfInBounds_toArray, List.set_cons_zero, List.set_cons_succ]
      generalize wd.heap.size = gb at *
      generalize wd.alloc (.cells (rw8 16 fun _ => 0) 96) = wb at *
      refine wpAnyH_ready (rs := [6]) (by kernel_rfl) (by simp) ?_
      refine AllReadyH.cons rfl (fun K hK => ?_) AllReadyH.nil
      rw [if_pos (by rfl)]
      go_wp2_with fail
      refine (C1 _).mono ?_
      rintro e wa ⟨rfl, g2⟩
      have a0 := a0.kept g2
      have a1 := a1.kept g2
      have a2 := a2.kept g2
      have cc := cc.kept g2
      have b0 := bel_bel b0 b0.size g2
      clear g2 hHeld
      try go_wp2_with fail
      refine hK.out _ _ ⟨cc, a0⟩ (fun hHeld => ?_)
      clear hK K
      try simp only [Act.put, List.setIfInBounds_toArray, List.set_cons_zero, List.set_cons_succ]
      refine wpAnyH_ready (rs := [8]) (by kernel_rfl) (by simp) ?_
      refine AllReadyH.cons rfl (fun K hK => ?_) AllReadyH.nil
      rw [if_pos (by rfl)]
      refine wp_stm rfl _ _ _ rfl (gb) 0 rfl 16 (bl k f 0) rfl _ _ _ (by with_reducible exact a2) (by omega) size16 ?_
      have a0 := a0.omid (g' := gb) (by omega) 0 (rw8 16 (bl k f 0)).toList
      have a1 := a1.omid (g' := gb) (by omega) 0 (rw8 16 (bl k f 0)).toList
      have a2 := a2.whole (bl k f 0)
      have cc := cc.omid (g' := gb) (by omega) 0 (rw8 16 (bl k f 0)).toList
      have b0 := bel_cells (B := w.heap.size) (g := gb) (by omega) (rw8 16 (bl k f 0)).toList 0 _ b0
      refine hK.out _ _ ⟨cc, a0⟩ (fun hHeld => ?_)
      clear hK K
      try simp only [Act.put, List.setIfInBounds_toArray, List.set_cons_zero, List.set_cons_succ]
      generalize wa.setCells (gb) 0 (rw8 16 (bl k f 0)).toList = we at *
      refine wpAnyH_done (by kernel_rfl) ?_ _
      go_wp2_with fail
      go_meet
      case rel => exact ⟨_, rfl, hgb, cc, a1, a2, b0⟩
  clear C1 i0 a0 a1 b0 cc
  obtain ⟨gb, rfl, hgb, cc, a1, a2, b0⟩ := hcut
  go_wp2_with fail
  go_loopw [6] (fun i wr => ∃ q : Nat, q ≤ 13 ∧ i = .int .i64 ((q : Int) + 1) ∧ Cp wr g k ∧ Rw wr (w.heap.size + 1) 96 16 (fun _ => 0) ∧ Rw wr gb 96 16 (bl k f q) ∧ Below w.heap.size w wr) (fun i _ => 14 - (intOf i).toNat)
  case atStart => exact ⟨0, by omega, rfl, cc, a1, a2, b0⟩
  case round =>
    clear cc a1 a2 b0
    obtain ⟨q, hq, rfl, cc, a1, a2, b0⟩ := hrel
    have hv := bl_lt HK.out HF.out q
    have k1 := fun w hc => ofBlock_ g (bl k f q) w hc hv
    have k2 := fun w => turnRows_ (sb (bl k f q)) w
    rw [rw8_ext (tr_sb (bl k f q))] at k2
    have ht := tn_lt hv
    by_cases hlt : q < 13
    · have k3 := fun w => mixColumns_ (tn (bl k f q)) w ht
      have k4 := fun w => xor16_ (mx (tn (bl k f q))) (from8 (16 * (q + 1)) k) w (mx_lt ht) (fun i _ => HK.out _)
      have e : xr (mx (tn (bl k f q))) (from8 (16 * (q + 1)) k) = bl k f (q + 1) := by
        show _ = xk k (q + 1) (if q + 1 < 14 then mx (tn (bl k f q)) else tn (bl k f q))
        rw [if_pos (by omega)]
        rfl
      rw [e] at k4
      have ir := fun w => run_key g (q + 1) (by omega) ((q : Int) + 1) rfl w
      clear e hv ht
      obtain ⟨n, Hn⟩ : ∃ n, Hid (bl k f (q + 1) = n) := ⟨_, rfl⟩
      rw [Hn.out] at k4
      generalize mx (tn (bl k f q)) = m at *
      generalize tn (bl k f q) = t at *
      generalize sb (bl k f q) = s at *
      generalize bl k f q = v at *
      go_wp2_with fail
      refine wp_region_held_drew (S := fun wx => Cp wx g k) (by kernel_rfl) cc.drew (fun hHeld => ?_)
      have a1 := a1.drew
      have a2 := a2.drew
      have cc := cc.drew
      have b0 := bel_drew1 b0
      generalize wr.drew = wd at *
      refine take_to 0 18 (.pointer (some ⟨g, 0, none⟩)) rfl rfl (by kernel_rfl) (by kernel_rfl) (by kernel_rfl) (fun _ _ _ h => h) (Or.inl ⟨by rfl, fun w' _ => ?_⟩) hHeld ?_
      · go_simp
      try simp only [List.setIfInBounds_toArray, List.set_cons_zero, List.set_cons_succ]
      refine take_to 1 19 (.pointer (some ⟨g, 0, none⟩)) rfl rfl (by kernel_rfl) (by kernel_rfl) (by kernel_rfl) (fun _ _ _ h => h) (Or.inl ⟨by rfl, fun w' _ => ?_⟩) hHeld ?_
      · go_simp
      try simp only [List.setIfInBounds_toArray, List.set_cons_zero, List.set_cons_succ]
      refine take_to 2 20 (.pointer (some ⟨g, 0, none⟩)) rfl rfl (by kernel_rfl) (by kernel_rfl) (by kernel_rfl) (fun _ _ _ h => h) (Or.inl ⟨by rfl, fun w' _ => ?_⟩) hHeld ?_
      · go_simp
      try simp only [List.setIfInBounds_toArray, List.set_cons_zero, List.set_cons_succ]
      refine wpAnyH_ready (rs := [3]) (by kernel_rfl) (by simp) ?_
      refine AllReadyH.cons rfl (fun K hK => ?_) AllReadyH.nil
      rw [if_pos (by rfl)]
      refine wp_ldw (some 21) rfl _ _ rfl _ rfl _ 16 _ (by with_reducible exact a2) _ under16 rfl size16 ?_
      refine hK.out _ _ cc (fun hHeld => ?_)
      clear hK K
      try simp only [Act.put, List.setIfInBounds_toArray, List.set_cons_zero, List.set_cons_succ]
      refine wpAnyH_ready (rs := [4]) (by kernel_rfl) (by simp) ?_
      refine AllReadyH.cons rfl (fun K hK => ?_) AllReadyH.nil
      rw [if_pos (by rfl)]
      go_wp2_with fail
      refine (k1 _ cc.bx).mono ?_
      rintro e wa ⟨rfl, g2⟩
      have a1 := a1.kept g2
      have a2 := a2.kept g2
      have cc := cc.kept g2
      have b0 := bel_bel b0 b0.size g2
      clear g2 hHeld
      try go_wp2_with fail
      refine hK.out _ _ cc (fun hHeld => ?_)
      clear hK K
      try simp only [Act.put, List.setIfInBounds_toArray, List.set_cons_zero, List.set_cons_succ]
      refine wpAnyH_ready (rs := [5]) (by kernel_rfl) (by simp) ?_
      refine AllReadyH.cons rfl (fun K hK => ?_) AllReadyH.nil
      rw [if_pos (by rfl)]
      go_wp2_with fail
      refine (k2 _).mono ?_
      rintro e wb ⟨rfl, g2⟩
      have a1 := a1.kept g2
      have a2 := a2.kept g2
      have cc := cc.kept g2
      have b0 := bel_bel b0 b0.size g2
      clear g2 hHeld
      try go_wp2_with fail
      refine hK.out _ _ cc (fun hHeld => ?_)
      clear hK K
      try simp only [Act.put, List.setIfInBounds_toArray, List.set_cons_zero, List.set_cons_succ]
      refine wpAnyH_ready (rs := [6]) (by kernel_rfl) (by simp) ?_
      refine AllReadyH.cons rfl (fun K hK => ?_) AllReadyH.nil
      rw [if_pos (by rfl)]
      refine wp_stm rfl _ _ _ rfl (gb) 0 rfl 16 t rfl _ _ _ (by with_reducible exact a2) (by omega) size16 ?_
      have a1 := a1.omid (g' := gb) (by omega) 0 (rw8 16 t).toList
      have a2 := a2.whole t
      have cc := cc.omid (g' := gb) (by omega) 0 (rw8 16 t).toList
      have b0 := bel_cells (B := w.heap.size) (g := gb) (by omega) (rw8 16 t).toList 0 _ b0
      refine hK.out _ _ cc (fun hHeld => ?_)
      clear hK K
      try simp only [Act.put, List.setIfInBounds_toArray, List.set_cons_zero, List.set_cons_succ]
      generalize wb.setCells (gb) 0 (rw8 16 t).toList = we at *
      refine wpAnyH_done (by kernel_rfl) ?_ _
      clear hHeld k1 k2
      go_wp2_with fail
      refine wp_region_held_drew (S := fun wx => Cp wx g k) (by kernel_rfl) cc.drew (fun hHeld => ?_)
      have a1 := a1.drew
      have a2 := a2.drew
      have cc := cc.drew
      have b0 := bel_drew1 b0
      generalize we.drew = wd at *
      refine take_to 2 26 (.pointer (some ⟨g, 0, none⟩)) rfl rfl (by kernel_rfl) (by kernel_rfl) (by kernel_rfl) (fun _ _ _ h => h) (Or.inl ⟨by rfl, fun w' _ => ?_⟩) hHeld ?_
      · go_simp
      try simp only [List.setIfInBounds_toArray, List.set_cons_zero, List.set_cons_succ]
      refine take_to 3 27 (.int .i64 ((q : Int) + 1)) rfl rfl (by kernel_rfl) (by kernel_rfl) (by kernel_rfl) (fun _ _ _ h => h) (Or.inl ⟨by rfl, fun w' _ => ?_⟩) hHeld ?_
      · go_simp
      try simp only [List.setIfInBounds_toArray, List.set_cons_zero, List.set_cons_succ]
      refine take_to 4 28 (.pointer (some ⟨g, 0, none⟩)) rfl rfl (by kernel_rfl) (by kernel_rfl) (by kernel_rfl) (fun _ _ _ h => h) (Or.inl ⟨by rfl, fun w' _ => ?_⟩) hHeld ?_
      · go_simp
      try simp only [List.setIfInBounds_toArray, List.set_cons_zero, List.set_cons_succ]
      refine take_to 5 29 (.pointer (some ⟨g, 256, none⟩)) rfl rfl (by kernel_rfl) (by kernel_rfl) (by kernel_rfl) (fun _ _ _ h => h) (Or.inl ⟨by rfl, fun w' _ => ?_⟩) hHeld ?_
      · go_simp
      try simp only [List.setIfInBounds_toArray, List.set_cons_zero, List.set_cons_succ]
      refine take_to 6 30 (.pointer (some ⟨g, 256 + 16 * (q + 1), none⟩)) rfl rfl (by kernel_rfl) (by kernel_rfl) (by kernel_rfl) (fun _ _ _ h => h) (Or.inl ⟨by rfl, fun w' _ => ?_⟩) hHeld ?_
      · go_simp
      try simp only [List.setIfInBounds_toArray, List.set_cons_zero, List.set_cons_succ]
      refine take_to 7 31 (.agg (rw8 16 (from8 (16 * (q + 1)) k))) rfl rfl (by kernel_rfl) (by kernel_rfl) (by kernel_rfl) (fun _ _ _ h => h) (yields_rng (by rfl) _ _ rfl g (256 + 16 * (q + 1)) 16 _ rfl (fun w' h => h.range (16 * (q + 1)) (by omega)) _ under16 rfl size16) hHeld ?_
      try simp only [List.setIfInBounds_toArray, List.set_cons_zero, List.set_cons_succ]
      refine wpAnyH_ready (rs := [0]) (by kernel_rfl) (by simp) ?_
      refine AllReadyH.cons rfl (fun K hK => ?_) AllReadyH.nil
      rw [if_pos (by rfl)]
      refine wp_ldw (some 24) rfl _ _ rfl _ rfl _ 16 _ (by with_reducible exact a2) _ under16 rfl size16 ?_
      refine hK.out _ _ cc (fun hHeld => ?_)
      clear hK K
      try simp only [Act.put, List.setIfInBounds_toArray, List.set_cons_zero, List.set_cons_succ]
      refine wpAnyH_ready (rs := [1]) (by kernel_rfl) (by simp) ?_
      refine AllReadyH.cons rfl (fun K hK => ?_) AllReadyH.nil
      rw [if_pos (by rfl)]
      go_wp2_with fail
      refine (k3 _).mono ?_
      rintro e wa ⟨rfl, g2⟩
      have a1 := a1.kept g2
      have a2 := a2.kept g2
      have cc := cc.kept g2
      have b0 := bel_bel b0 b0.size g2
      clear g2 hHeld
      try go_wp2_with fail
      refine hK.out _ _ cc (fun hHeld => ?_)
      clear hK K
      try simp only [Act.put, List.setIfInBounds_toArray, List.set_cons_zero, List.set_cons_succ]
      refine wpAnyH_ready (rs := [8]) (by kernel_rfl) (by simp) ?_
      refine AllReadyH.cons rfl (fun K hK => ?_) AllReadyH.nil
      rw [if_pos (by rfl)]
      go_wp2_with fail
      refine (k4 _).mono ?_
      rintro e wb ⟨rfl, g2⟩
      have a1 := a1.kept g2
      have a2 := a2.kept g2
      have cc := cc.kept g2
      have b0 := bel_bel b0 b0.size g2
      clear g2 hHeld
      try go_wp2_with fail
      refine hK.out _ _ cc (fun hHeld => ?_)
      clear hK K
      try simp only [Act.put, List.setIfInBounds_toArray, List.set_cons_zero, List.set_cons_succ]
      refine wpAnyH_ready (rs := [9]) (by kernel_rfl) (by simp) ?_
      refine AllReadyH.cons rfl (fun K hK => ?_) AllReadyH.nil
      rw [if_pos (by rfl)]
      refine wp_stm rfl _ _ _ rfl (gb) 0 rfl 16 n rfl _ _ _ (by with_reducible exact a2) (by omega) size16 ?_
      have a1 := a1.omid (g' := gb) (by omega) 0 (rw8 16 n).toList
      have a2 := a2.whole n
      have cc := cc.omid (g' := gb) (by omega) 0 (rw8 16 n).toList
      have b0 := bel_cells (B := w.heap.size) (g := gb) (by omega) (rw8 16 n).toList 0 _ b0
      refine hK.out _ _ cc (fun hHeld => ?_)
      clear hK K
      try simp only [Act.put, List.setIfInBounds_toArray, List.set_cons_zero, List.set_cons_succ]
      generalize wb.setCells (gb) 0 (rw8 16 n).toList = wf at *
      refine wpAnyH_done (by kernel_rfl) ?_ _
      clear hHeld k3 k4 ir
      go_wp2_with fail
      go_roundw
      case rel => exact ⟨q + 1, by omega, by go_num, cc, a1, by rw [Hn.out]; exact a2, b0⟩
      case measure => simp [intOf]; omega
    · have hge : ¬ (q : Int) + 1 < 14 := by omega
      have k4 := fun w => xor16_ (tn (bl k f q)) (from8 (16 * 14) k) w ht (fun i _ => HK.out _)
      have e : xr (tn (bl k f q)) (from8 (16 * 14) k) = bl k f 14 := by
        rw [show q = 13 from by omega]
        rfl
      rw [e] at k4
      have ir := fun w => run_key g 14 (by omega) 14 rfl w
      clear e hv ht hlt
      obtain ⟨n, Hn⟩ : ∃ n, Hid (bl k f 14 = n) := ⟨_, rfl⟩
      rw [Hn.out] at k4
      generalize tn (bl k f q) = t at *
      generalize sb (bl k f q) = s at *
      generalize bl k f q = v at *
      go_wp2_with fail
      refine wp_region_held_drew (S := fun wx => Cp wx g k) (by kernel_rfl) cc.drew (fun hHeld => ?_)
      have a1 := a1.drew
      have a2 := a2.drew
      have cc := cc.drew
      have b0 := bel_drew1 b0
      generalize wr.drew = wd at *
      refine take_to 0 33 (.pointer (some ⟨g, 0, none⟩)) rfl rfl (by kernel_rfl) (by kernel_rfl) (by kernel_rfl) (fun _ _ _ h => h) (Or.inl ⟨by rfl, fun w' _ => ?_⟩) hHeld ?_
      · go_simp
      try simp only [List.setIfInBounds_toArray, List.set_cons_zero, List.set_cons_succ]
      refine take_to 1 34 (.pointer (some ⟨g, 0, none⟩)) rfl rfl (by kernel_rfl) (by kernel_rfl) (by kernel_rfl) (fun _ _ _ h => h) (Or.inl ⟨by rfl, fun w' _ => ?_⟩) hHeld ?_
      · go_simp
      try simp only [List.setIfInBounds_toArray, List.set_cons_zero, List.set_cons_succ]
      refine take_to 2 35 (.pointer (some ⟨g, 0, none⟩)) rfl rfl (by kernel_rfl) (by kernel_rfl) (by kernel_rfl) (fun _ _ _ h => h) (Or.inl ⟨by rfl, fun w' _ => ?_⟩) hHeld ?_
      · go_simp
      try simp only [List.setIfInBounds_toArray, List.set_cons_zero, List.set_cons_succ]
      refine take_to 6 39 (.pointer (some ⟨g, 0, none⟩)) rfl rfl (by kernel_rfl) (by kernel_rfl) (by kernel_rfl) (fun _ _ _ h => h) (Or.inl ⟨by rfl, fun w' _ => ?_⟩) hHeld ?_
      · go_simp
      try simp only [List.setIfInBounds_toArray, List.set_cons_zero, List.set_cons_succ]
      refine take_to 7 40 (.pointer (some ⟨g, 0, none⟩)) rfl rfl (by kernel_rfl) (by kernel_rfl) (by kernel_rfl) (fun _ _ _ h => h) (Or.inl ⟨by rfl, fun w' _ => ?_⟩) hHeld ?_
      · go_simp
      try simp only [List.setIfInBounds_toArray, List.set_cons_zero, List.set_cons_succ]
      refine take_to 8 41 (.pointer (some ⟨g, 256, none⟩)) rfl rfl (by kernel_rfl) (by kernel_rfl) (by kernel_rfl) (fun _ _ _ h => h) (Or.inl ⟨by rfl, fun w' _ => ?_⟩) hHeld ?_
      · go_simp
      try simp only [List.setIfInBounds_toArray, List.set_cons_zero, List.set_cons_succ]
      refine take_to 9 42 (.pointer (some ⟨g, 256 + 16 * (14), none⟩)) rfl rfl (by kernel_rfl) (by kernel_rfl) (by kernel_rfl) (fun _ _ _ h => h) (Or.inl ⟨by rfl, fun w' _ => ?_⟩) hHeld ?_
      · go_simp
      try simp only [List.setIfInBounds_toArray, List.set_cons_zero, List.set_cons_succ]
      refine take_to 10 43 (.agg (rw8 16 (from8 (16 * 14) k))) rfl rfl (by kernel_rfl) (by kernel_rfl) (by kernel_rfl) (fun _ _ _ h => h) (yields_rng (by rfl) _ _ rfl g (256 + 16 * 14) 16 _ rfl (fun w' h => h.range (16 * 14) (by omega)) _ under16 rfl size16) hHeld ?_
      try simp only [List.setIfInBounds_toArray, List.set_cons_zero, List.set_cons_succ]
      refine wpAnyH_ready (rs := [3]) (by kernel_rfl) (by simp) ?_
      refine AllReadyH.cons rfl (fun K hK => ?_) AllReadyH.nil
      rw [if_pos (by rfl)]
      refine wp_ldw (some 36) rfl _ _ rfl _ rfl _ 16 _ (by with_reducible exact a2) _ under16 rfl size16 ?_
      refine hK.out _ _ cc (fun hHeld => ?_)
      clear hK K
      try simp only [Act.put, List.setIfInBounds_toArray, List.set_cons_zero, List.set_cons_succ]
      refine wpAnyH_ready (rs := [4]) (by kernel_rfl) (by simp) ?_
      refine AllReadyH.cons rfl (fun K hK => ?_) AllReadyH.nil
      rw [if_pos (by rfl)]
      go_wp2_with fail
      refine (k1 _ cc.bx).mono ?_
      rintro e wa ⟨rfl, g2⟩
      have a1 := a1.kept g2
      have a2 := a2.kept g2
      have cc := cc.kept g2
      have b0 := bel_bel b0 b0.size g2
      clear g2 hHeld
      try go_wp2_with fail
      refine hK.out _ _ cc (fun hHeld => ?_)
      clear hK K
      try simp only [Act.put, List.setIfInBounds_toArray, List.set_cons_zero, List.set_cons_succ]
      refine wpAnyH_ready (rs := [5]) (by kernel_rfl) (by simp) ?_
      refine AllReadyH.cons rfl (fun K hK => ?_) AllReadyH.nil
      rw [if_pos (by rfl)]
      go_wp2_with fail
      refine (k2 _).mono ?_
      rintro e wb ⟨rfl, g2⟩
      have a1 := a1.kept g2
      have a2 := a2.kept g2
      have cc := cc.kept g2
      have b0 := bel_bel b0 b0.size g2
      clear g2 hHeld
      try go_wp2_with fail
      refine hK.out _ _ cc (fun hHeld => ?_)
      clear hK K
      try simp only [Act.put, List.setIfInBounds_toArray, List.set_cons_zero, List.set_cons_succ]
      refine wpAnyH_ready (rs := [11]) (by kernel_rfl) (by simp) ?_
      refine AllReadyH.cons rfl (fun K hK => ?_) AllReadyH.nil
      rw [if_pos (by rfl)]
      go_wp2_with fail
      refine (k4 _).mono ?_
      rintro e wc ⟨rfl, g2⟩
      have a1 := a1.kept g2
      have a2 := a2.kept g2
      have cc := cc.kept g2
      have b0 := bel_bel b0 b0.size g2
      clear g2 hHeld
      try go_wp2_with fail
      refine hK.out _ _ cc (fun hHeld => ?_)
      clear hK K
      try simp only [Act.put, List.setIfInBounds_toArray, List.set_cons_zero, List.set_cons_succ]
      refine wpAnyH_ready (rs := [12]) (by kernel_rfl) (by simp) ?_
      refine AllReadyH.cons rfl (fun K hK => ?_) AllReadyH.nil
      rw [if_pos (by rfl)]
      refine wp_stm rfl _ _ _ rfl (w.heap.size + 1) 0 rfl 16 n rfl _ _ _ (by with_reducible exact a1) (by omega) size16 ?_
      have a2 := a2.omid (g' := w.heap.size + 1) (by omega) 0 (rw8 16 n).toList
      have a1 := a1.whole n
      have cc := cc.omid (g' := w.heap.size + 1) (by omega) 0 (rw8 16 n).toList
      have b0 := bel_cells (B := w.heap.size) (g := w.heap.size + 1) (by omega) (rw8 16 n).toList 0 _ b0
      refine hK.out _ _ cc (fun hHeld => ?_)
      clear hK K
      try simp only [Act.put, List.setIfInBounds_toArray, List.set_cons_zero, List.set_cons_succ]
      generalize wc.setCells (w.heap.size + 1) 0 (rw8 16 n).toList = wf at *
      refine wpAnyH_done (by kernel_rfl) ?_ _
      clear hHeld k1 k2 k4 ir
      go_wp2_with fail
      refine bodyPost_ret (v := .agg (rw8 16 n)) ?_ rfl ⟨by rw [Hn.out], b0⟩
      exact results_rw rfl _ _ (w.heap.size + 1) 16 n _ rfl a1 under16 rfl size16
theorem block_ (g : Nat) (k f : Nat → Nat) (w : World) (cc : Cp w g k) (hk : ∀ j, k j < 256) (hf : ∀ i, i < 16 → f i < 256) :
    Calls Try.prog 73 #[.pointer (some ⟨g, 0, none⟩), .agg (av f)] w fun e w' => e = .returned (.agg (av (bl k f 14))) ∧ Below w.heap.size w w' := block8_ g k f w cc hk hf
end Go.Proofs.Ytnjfckijpbgagaa
