import Derived.Test.YtgjamfnhkeoedaaG3
import Derived.Deep.RegionHeld
namespace Go.Proofs.Ytgjamfnhkeoedaa
open Go.RowKit
set_option linter.unusedVariables false

theorem mulA_ (f h : Nat → Nat) (w : World) (hf : ∀ i, i < 16 → f i < 256) (hh : ∀ i, i < 16 → h i < 256) :
    Calls Try.prog 45 #[.agg (rw8 16 f), .agg (rw8 16 h)] w fun e w' => e = .returned (.agg (rw8 16 (gm f h))) ∧ Below w.heap.size w w' := by
  have e1 : rw8 16 f = bv (pk f) := av_pk hf
  have e2 : rw8 16 h = bv (pk h) := av_pk hh
  rw [e1, e2]
  exact mul128_ (pk f) (pk h) w (pk_lt hh)
theorem min_le (m : Nat) : ∃ mm, mm = Nat.min m 16 ∧ mm ≤ m ∧ mm ≤ 16 ∧ (mm = m ∨ mm = 16) := ⟨_, rfl, Nat.min_le_left _ _, Nat.min_le_right _ _, by simp only [Nat.min_def]; split <;> omega⟩
set_option maxHeartbeats 2000000 in
theorem fold_ (z h : Nat → Nat) (a : Option Addr) (n cap : Nat) (b : List Nat) (w : World) (hb : Bs w a n (ic b)) (hnc : n ≤ cap) (hcm : cap ≤ maxLen) (hz : ∀ i, i < 16 → z i < 256) (hh : ∀ i, i < 16 → h i < 256) (hby : ∀ x ∈ b, x < 256) :
    Calls Try.prog 29 #[.agg (rw8 16 z), .agg (rw8 16 h), .slice a n cap] w fun e w' => e = .returned (.agg (rw8 16 (fo h b z))) ∧ Below w.heap.size w w' := by
  have hl : b.length = n := by have := hb.1; rwa [ic_length] at this
  have HL := hid hl
  have HZ := hid hz
  have HH := hid hh
  have HBY := hid hby
  clear hl hz hh hby
  unfold maxLen at hcm
  obtain ⟨A0, A1, A2, B0⟩ := rnew3 w 44 16 z 44 16 h 44 16 (fun _ => 0)
  go_enter Try.func29, Try.ntmps29
  go_wp2_with (refine wpList_al rfl _ rfl 16 (by exact zeroa) ?_)
  simp only [Act.put, List.setIfInBounds_toArray, List.set_cons_zero, List.set_cons_succ, World.size_alloc]
  generalize ((w.alloc (.cells (rw8 16 z) 44)).alloc (.cells (rw8 16 h) 44)).alloc (.cells (rw8 16 fun _ => 0) 44) = w1 at *
  go_loopw [2] (fun v wr => ∃ (r m c : Nat) (a' : Option Addr), r ≤ (n + 15) / 16 ∧ m = n - 16 * r ∧ m ≤ c ∧ c ≤ 9223372036854775807 ∧ v = .slice a' m c ∧ Bs w a' m (ic (b.drop (16 * r))) ∧ Rw wr w.heap.size 44 16 (fd h b z r) ∧ Rw wr (w.heap.size + 1) 44 16 h ∧ Rw wr (w.heap.size + 1 + 1) 44 16 (fun _ => 0) ∧ Below w.heap.size w wr) (fun v _ => match v with | .slice _ m _ => m | _ => 0)
  case atStart => exact ⟨0, n, cap, a, by omega, by omega, hnc, by omega, rfl, by rw [Nat.mul_zero, List.drop_zero]; exact hb, A0, A1, A2, B0⟩
  case round =>
    clear A0 A1 A2 B0 hb
    obtain ⟨r, m, c, a', hr, hm, hmc, hcc, rfl, hb, a0, a1, a2, b0⟩ := hrel
    by_cases hlt : 0 < m
    · have hlI : (0 : Int) < (m : Int) := by omega
      obtain ⟨mm, emm, hmm, hm16, hor⟩ := min_le m
      have hyd : ∀ x ∈ b.drop (16 * r), x < 256 := fun x hx => HBY.out x (List.mem_of_mem_drop hx)
      have hv := fd_lt (h := h) (b := b) HZ.out r
      have kf := fun w hb => firstBlock_ a' m c mm (b.drop (16 * r)) w hb (by unfold maxLen; omega) emm
      have kx := fun w => xor16_ (fd h b z r) (fb (b.drop (16 * r))) w hv (fun i _ => fb_lt hyd i)
      rw [rw8_ext (g := zx (fd h b z r) b r) (fun i _ => xr_zx (fd h b z r) b r i)] at kx
      have km := fun w => mulA_ (zx (fd h b z r) b r) h w (zx_lt hv HBY.out r) HH.out
      rw [show gm (zx (fd h b z r) b r) h = fd h b z (r + 1) from rfl] at km
      obtain ⟨a2', ha2, hb2⟩ : ∃ a2', (if c = mm then a' else Option.map (fun x => x.add mm) a') = a2' ∧ Bs w a2' (m - mm) (ic (b.drop (16 * (r + 1)))) := by
        refine ⟨_, rfl, ?_⟩
        have := bs_rest hb hmc hmm
        rw [List.drop_drop] at this
        rcases hor with e | e
        · refine ⟨?_, ?_, .inl (by omega)⟩
          · rw [ic_length, List.length_drop, HL.out]; omega
          · exact ic_bytes fun x hx => HBY.out x (List.mem_of_mem_drop hx)
        · rw [show 16 * (r + 1) = 16 * r + mm from by omega]; exact this
      obtain ⟨n1, Hn1⟩ : ∃ n1, Hid (fd h b z (r + 1) = n1) := ⟨_, rfl⟩
      rw [Hn1.out] at km
      generalize zx (fd h b z r) b r = v1 at *
      generalize fd h b z r = v at *
      generalize fb (b.drop (16 * r)) = blk at *
      have hbr := hb.below b0
      have H2 : Hid (Bs w a2' (m - mm) (ic (b.drop (16 * (r + 1))))) := hb2
      have HM := hid hm
      have HOR := hid hor
      clear hv hyd hb hb2 emm hm hor
      go_wp2_with fail
      refine (kf _ hbr).mono ?_
      rintro e w2 ⟨rfl, g2⟩
      have A0 := a0.kept g2
      have A1 := a1.kept g2
      have A2 := a2.kept g2
      have b0 := bel_bel b0 b0.size g2
      have hgb := A2.lt
      clear g2 kf a0 a1 a2 hbr
      have a0 := A0.alloc (.cells (rw8 16 blk) 44)
      have a1 := A1.alloc (.cells (rw8 16 blk) 44)
      have a2 := A2.alloc (.cells (rw8 16 blk) 44)
      have a3 := Rw.new w2 44 16 blk
      have b0 := b0.alloc b0.size (.cells (rw8 16 blk) 44)
      clear A0 A1 A2
      go_wp2_with (first | (refine wpList_al rfl _ rfl 16 (by exact zeroa) ?_) | (refine wpList_stnr rfl rfl _ _ rfl _ _ blk rfl rfl rfl (by simp [rw8_size]) ?_))
      generalize w2.heap.size = gb at *
      generalize w2.alloc (.cells (rw8 16 blk) 44) = w3 at *
      refine wp_region_held_drew (S := fun wx => Rw wx (w.heap.size + 1) 44 16 h ∧ Rw wx gb 44 16 blk) (by kernel_rfl) ⟨a1.drew, a3.drew⟩ (fun hHeld => ?_)
      have a0 := a0.drew
      have a1 := a1.drew
      have a2 := a2.drew
      have a3 := a3.drew
      have b0 := bel_drew1 b0
      generalize w3.drew = wd at *
      refine take_to 1 18 (.agg (rw8 16 blk)) rfl rfl (by kernel_rfl) (by kernel_rfl) (by kernel_rfl) (fun _ _ _ h => h) (yields_rng (by rfl) _ _ rfl (gb) 0 16 _ rfl (fun w' h => h.2.rng0) _ under16 rfl size16) hHeld ?_
      try simp only [List.setIfInBounds_toArray, List.set_cons_zero, List.set_cons_succ]
      refine take_to 3 20 (.agg (rw8 16 h)) rfl rfl (by kernel_rfl) (by kernel_rfl) (by kernel_rfl) (fun _ _ _ h => h) (yields_rng (by rfl) _ _ rfl (w.heap.size + 1) 0 16 _ rfl (fun w' h => h.1.rng0) _ under16 rfl size16) hHeld ?_
      try simp only [List.setIfInBounds_toArray, List.set_cons_zero, List.set_cons_succ]
      refine wpAnyH_ready (rs := [0]) (by kernel_rfl) (by simp) ?_
      refine AllReadyH.cons rfl (fun K hK => ?_) AllReadyH.nil
      rw [if_pos (by rfl)]
      refine wp_ldw (some 17) rfl _ _ rfl _ rfl _ 16 _ (by with_reducible exact a0) _ under16 rfl size16 ?_
      refine hK.out _ _ ⟨a1, a3⟩ (fun hHeld => ?_)
      clear hK K
      try simp only [Act.put, List.setIfInBounds_toArray, List.set_cons_zero, List.set_cons_succ]
      refine wpAnyH_ready (rs := [2]) (by kernel_rfl) (by simp) ?_
      refine AllReadyH.cons rfl (fun K hK => ?_) AllReadyH.nil
      rw [if_pos (by rfl)]
      go_wp2_with fail
      refine (kx _).mono ?_
      rintro e wa ⟨rfl, g2⟩
      have a0 := a0.kept g2
      have a1 := a1.kept g2
      have a2 := a2.kept g2
      have a3 := a3.kept g2
      have b0 := bel_bel b0 b0.size g2
      clear g2 hHeld
      try go_wp2_with fail
      refine hK.out _ _ ⟨a1, a3⟩ (fun hHeld => ?_)
      clear hK K
      try simp only [Act.put, List.setIfInBounds_toArray, List.set_cons_zero, List.set_cons_succ]
      refine wpAnyH_ready (rs := [4]) (by kernel_rfl) (by simp) ?_
      refine AllReadyH.cons rfl (fun K hK => ?_) AllReadyH.nil
      rw [if_pos (by rfl)]
      go_wp2_with fail
      refine (km _).mono ?_
      rintro e wb ⟨rfl, g2⟩
      have a0 := a0.kept g2
      have a1 := a1.kept g2
      have a2 := a2.kept g2
      have a3 := a3.kept g2
      have b0 := bel_bel b0 b0.size g2
      clear g2 hHeld
      try go_wp2_with fail
      refine hK.out _ _ ⟨a1, a3⟩ (fun hHeld => ?_)
      clear hK K
      try simp only [Act.put, List.setIfInBounds_toArray, List.set_cons_zero, List.set_cons_succ]
      refine wpAnyH_ready (rs := [5]) (by kernel_rfl) (by simp) ?_
      refine AllReadyH.cons rfl (fun K hK => ?_) AllReadyH.nil
      rw [if_pos (by rfl)]
      refine wp_stm rfl _ _ _ rfl (w.heap.size) 0 rfl 16 n1 rfl _ _ _ (by with_reducible exact a0) (by omega) size16 ?_
      have a1 := a1.omid (g' := w.heap.size) (by omega) 0 (rw8 16 n1).toList
      have a2 := a2.omid (g' := w.heap.size) (by omega) 0 (rw8 16 n1).toList
      have a3 := a3.omid (g' := w.heap.size) (by omega) 0 (rw8 16 n1).toList
      have a0 := a0.whole n1
      have b0 := bel_cells (B := w.heap.size) (g := w.heap.size) (by omega) (rw8 16 n1).toList 0 _ b0
      refine hK.out _ _ ⟨a1, a3⟩ (fun hHeld => ?_)
      clear hK K
      try simp only [Act.put, List.setIfInBounds_toArray, List.set_cons_zero, List.set_cons_succ]
      generalize wb.setCells (w.heap.size) 0 (rw8 16 n1).toList = we at *
      refine wpAnyH_done (by kernel_rfl) ?_ _
      clear hHeld kx km a3
      have hmI : (mm : Int) ≤ (m : Int) := by omega
      have hmcI : (m : Int) ≤ (c : Int) := by omega
      go_wp2_with fail
      go_roundw
      case rel => exact ⟨r + 1, m - mm, c - mm, a2', by have := HM.out; omega, by have := HM.out; rcases HOR.out with h | h <;> omega, by omega, by omega, rfl, H2.out, by rw [Hn1.out]; exact a0, a1, a2, b0⟩
      case measure => show m - mm < m; rcases HOR.out with h | h <;> omega
    · have hge : ¬ (0 : Int) < (m : Int) := by omega
      have e : fd h b z r = fo h b z := by unfold fo; rw [HL.out, show r = (n + 15) / 16 from by omega]
      rw [e] at a0
      clear e hm hb
      obtain ⟨f, Hf⟩ : ∃ f, Hid (fo h b z = f) := ⟨_, rfl⟩
      rw [Hf.out] at a0
      go_wp2_with (first | (refine wpList_ldw rfl _ _ rfl _ rfl _ _ 16 _ (by with_reducible exact a0) (by omega) _ (by exact under16) rfl (by exact size16) ?_) | (refine wpList_stm rfl rfl _ _ _ rfl (w.heap.size + 1 + 1) 0 rfl 16 f rfl _ _ _ (by with_reducible exact a2) (by omega) (by exact size16) ?_))
      refine bodyPost_ret (v := .agg (rw8 16 f)) ?_ rfl ⟨by rw [Hf.out], bel_cells (by omega) _ _ _ b0⟩
      exact results_rw rfl _ _ (w.heap.size + 1 + 1) 16 f _ rfl (a2.whole _) under16 rfl size16
end Go.Proofs.Ytgjamfnhkeoedaa
