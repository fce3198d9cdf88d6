import Derived.Test.YtcbmgpmjnehjdaaGreatQ3
import Derived.Test.YtcbmgpmjnehjdaaGreatBGet
namespace Go.Proofs.YtcbmgpmjnehjdaaGreat
set_option maxRecDepth 100000
open Go.RowKit
set_option linter.unusedVariables false

theorem Row.own {w : World} {g b : Nat} {zs : List Int} (h : Row w g zs) (hb : b ≤ g) (hm : zs.length ≤ maxLen) : w.ownsRow b 5 1 (.slice (some ⟨g, 0, none⟩) zs.length zs.length) zs.length (cells zs) :=
  ⟨by rw [cells_length, Nat.mul_one], .inr ⟨g, zs.length, _, rfl, hb, h, Nat.le_refl _, hm, by simp [cells_length], by rw [Nat.mul_one]; exact List.take_of_length_le (by rw [cells_length]; exact Nat.le_refl _)⟩⟩
theorem be_ad {H L : Int} (hH : InU H) (hL : InU L) : be 8 H ++ be 8 L = be 16 (ad H L) := by
  unfold InU at hH hL
  have h1 : be 8 H = [H / 256 ^ 7 % 256, H / 256 ^ 6 % 256, H / 256 ^ 5 % 256, H / 256 ^ 4 % 256, H / 256 ^ 3 % 256, H / 256 ^ 2 % 256, H / 256 ^ 1 % 256, H / 256 ^ 0 % 256] := rfl
  have h2 : be 8 L = [L / 256 ^ 7 % 256, L / 256 ^ 6 % 256, L / 256 ^ 5 % 256, L / 256 ^ 4 % 256, L / 256 ^ 3 % 256, L / 256 ^ 2 % 256, L / 256 ^ 1 % 256, L / 256 ^ 0 % 256] := rfl
  have hv := be_val (be 8 H ++ be 8 L) (fun z hz => by
    rcases List.mem_append.1 hz with h | h
    · exact be_byte _ _ z h
    · exact be_byte _ _ z h)
  have hl : (be 8 H ++ be 8 L).length = 16 := rfl
  rw [hl] at hv
  have e : val (be 8 H ++ be 8 L) = ad H L := by
    have ea : val (be 8 H ++ be 8 L) = val (be 8 H) * 256 ^ 8 + val (be 8 L) := by
      have := fold_val (be 8 L) (val (be 8 H))
      unfold val at *
      rw [List.foldl_append, this]
      rfl
    rw [ea, val_be, val_be]
    unfold ad
    have : (256 : Int) ^ 8 = 18446744073709551616 := by decide
    rw [this]
    omega
  rw [e] at hv
  exact hv.symm
set_option maxHeartbeats 1000000 in
theorem putAddr_ (F H L : Int) (w : World) (hF : InI F) (hH : InU H) (hL : InU L) :
    Calls Tryz.prog 137 #[.agg #[.int .i64 F, .int .u64 H, .int .u64 L]] w fun e w' => ∃ v, e = .returned v ∧ w'.ownsRow w.heap.size 5 1 v (pa F H L).length (cells (pa F H L)) ∧ Below w.heap.size w w' := by
  have B0 := anew w F H L
  have m0 := Am.new w F H L
  have k1 := fun w => validAddr_ F H L w hF hH hL
  have c0 := m0.c0
  have c1 := m0.c1
  have c2 := m0.c2
  go_enter Tryz.func137, Tryz.ntmps137
  go_wp2_with fail
  clear c0 c1 c2
  refine (k1 _).mono ?_
  rintro e w1 ⟨rfl, g2⟩
  replace m0 := m0.kept g2
  replace B0 := bel_bel B0 B0.size g2
  clear g2 k1
  have c0 := m0.c0
  have c1 := m0.c1
  have c2 := m0.c2
  cases hv : va F H L with
  | false =>
    go_wp2_with fail
    go_ret
    have e : pa F H L = [] := by unfold pa; rw [hv]; rfl
    rw [e]
    exact ⟨_, rfl, World.ownsRow_nil _ _ _ _, B0⟩
  | true =>
    have hFF := of_decide_eq_true (show decide _ = true from hv)
    have HP : Hid (pa F H L = be (nb F / 8) (ad H L)) := by show _ = _; unfold pa; rw [hv]; rfl
    have hz : Bs w1 none 0 [] := ⟨rfl, by simp, .inl rfl⟩
    have hs := B0.size
    by_cases h4 : F = 4
    · subst h4
      obtain ⟨rfl, h2⟩ : H = 0 ∧ L < 4294967296 := by
        rcases hFF with h | h
        · omega
        · exact h.2
      have hLm : L % 4294967296 = L := Int.emod_eq_of_lt hL.1 h2
      have HQ : Hid (pa 4 0 L = be 4 L) := by
        show _ = _
        rw [HP.out]
        show be 4 (ad 0 L) = _
        unfold ad
        rw [Int.zero_mul, Int.zero_add]
      have k2 := fun w hz => putW32 none 0 0 [] L w hz (by omega) hL.1 (by omega)
      clear hFF hv HP hH
      unfold InU at hL
      go_wp2_with fail
      refine (k2 _ hz).mono ?_
      rintro e w2 ⟨rfl, hr, g2⟩
      clear c0 c1 c2
      replace B0 := bel_grow B0 B0.size g2
      go_wp2_with fail
      go_ret
      rw [HQ.out]
      rw [List.nil_append] at hr
      exact ⟨_, rfl, hr.own hs (by rw [be_length]; unfold maxLen; omega), B0⟩
    · have e4 : (F == 4) = false := by simpa using h4
      obtain rfl : F = 6 := by
        rcases hFF with h | h
        · exact h
        · exact absurd h.1 h4
      have HQ : Hid (pa 6 H L = be 8 H ++ be 8 L) := by
        show _ = _
        rw [HP.out, be_ad hH hL]
        rfl
      have k2 := fun w hz => putW64 none 0 0 [] H w hz (by omega) hH.1 hH.2
      have k3 := fun g w hz => putW64 (some ⟨g, 0, none⟩) 8 8 (be 8 H) L w hz (by omega) hL.1 hL.2
      clear hFF hv HP
      go_wp2_with fail
      refine wp_region_held_drew (S := fun wx => Am wx w.heap.size 6 H L) (by kernel_rfl) m0.drew (fun hHeld => ?_)
      replace m0 := m0.drew
      replace B0 := bel_drew1 B0
      replace hz : Bs w1.drew none 0 [] := ⟨rfl, by simp, .inl rfl⟩
      have hs1 : w.heap.size ≤ w1.drew.heap.size := hs
      clear c0 c1 c2
      generalize w1.drew = wd at *
      refine take_to 0 15 (.pointer (some ⟨w.heap.size, 1, none⟩)) rfl rfl (by kernel_rfl) (by kernel_rfl) (by kernel_rfl) (fun _ _ _ h => h) (Or.inl ⟨by rfl, fun w' h => ?_⟩) hHeld ?_
      · go_simp
      try simp only [List.setIfInBounds_toArray, List.set_cons_zero, List.set_cons_succ]
      refine take_to 1 16 (.int .u64 H) rfl rfl (by kernel_rfl) (by kernel_rfl) (by kernel_rfl) (fun _ _ _ h => h) (Or.inl ⟨by rfl, fun w' h => ?_⟩) hHeld ?_
      · have x0 := Am.c1 h
        go_simp
      try simp only [List.setIfInBounds_toArray, List.set_cons_zero, List.set_cons_succ]
      refine take_to 3 18 (.pointer (some ⟨w.heap.size, 2, none⟩)) rfl rfl (by kernel_rfl) (by kernel_rfl) (by kernel_rfl) (fun _ _ _ h => h) (Or.inl ⟨by rfl, fun w' h => ?_⟩) hHeld ?_
      · go_simp
      try simp only [List.setIfInBounds_toArray, List.set_cons_zero, List.set_cons_succ]
      refine take_to 4 19 (.int .u64 L) rfl rfl (by kernel_rfl) (by kernel_rfl) (by kernel_rfl) (fun _ _ _ h => h) (Or.inl ⟨by rfl, fun w' h => ?_⟩) hHeld ?_
      · have x0 := Am.c2 h
        go_simp
      try simp only [List.setIfInBounds_toArray, List.set_cons_zero, List.set_cons_succ]
      refine wpAnyH_ready (rs := [2]) (by kernel_rfl) (by simp) ?_
      refine AllReadyH.cons rfl (fun K' hK' => ?_) AllReadyH.nil
      rw [if_pos (by rfl)]
      go_wp2_with fail
      refine (k2 _ hz).mono ?_
      rintro e w2 ⟨rfl, hr, g2⟩
      replace m0 := m0.kept (below_of_grown g2)
      replace B0 := bel_grow B0 hs1 g2
      rw [List.nil_append] at hr
      have hb := (hr.bs (be_byte 8 H)).len (be_length 8 H)
      have hs2 := B0.size
      clear g2
      clear hHeld
      try go_wp2_with fail
      refine hK'.out _ _ m0 (fun hHeld => ?_)
      clear hK' K'
      try simp only [Act.put, List.setIfInBounds_toArray, List.set_cons_zero, List.set_cons_succ]
      refine wpAnyH_ready (rs := [5]) (by kernel_rfl) (by simp) ?_
      refine AllReadyH.cons rfl (fun K' hK' => ?_) AllReadyH.nil
      rw [if_pos (by rfl)]
      go_wp2_with fail
      refine (k3 _ _ hb).mono ?_
      rintro e w3 ⟨rfl, hr2, g3⟩
      replace m0 := m0.kept (below_of_grown g3)
      replace B0 := bel_grow B0 hs2 g3
      clear g3
      clear hHeld
      try go_wp2_with fail
      refine hK'.out _ _ m0 (fun hHeld => ?_)
      clear hK' K'
      try simp only [Act.put, List.setIfInBounds_toArray, List.set_cons_zero, List.set_cons_succ]
      refine take_to 6 2 (.slice (some ⟨w2.heap.size, 0, none⟩) 16 16) rfl rfl (by kernel_rfl) (by kernel_rfl) (by kernel_rfl) (fun _ _ _ h => h) (Or.inl ⟨by rfl, fun w' h => ?_⟩) hHeld ?_
      · go_simp
      try simp only [List.setIfInBounds_toArray, List.set_cons_zero, List.set_cons_succ]
      refine wpAnyH_done (by kernel_rfl) ?_ _
      go_wp2_with fail
      go_ret
      rw [HQ.out]
      exact ⟨_, rfl, hr2.own hs2 (by rw [List.length_append, be_length, be_length]; unfold maxLen; omega), B0⟩
set_option maxHeartbeats 1000000 in
theorem pput_ (F H L B : Int) (w : World) (hF : InI F) (hH : InU H) (hL : InU L) (hB : InI B) :
    Calls Tryz.prog 97 #[.agg #[.int .i64 F, .int .u64 H, .int .u64 L, .int .i64 B]] w fun e w' => ∃ v, e = .returned v ∧ w'.ownsRow w.heap.size 5 1 v (pp F H L B).length (cells (pp F H L B)) ∧ Below w.heap.size w w' := by
  obtain ⟨i5, hi, hz0, hz1, hz2⟩ := info_parts info5
  have B0 := pnew w F H L B
  have m0 := Pm.new w F H L B
  have k1 := fun w => pvalid_ F H L B w hF hH hL hB
  have k2 := fun w => putAddr_ F H L w hF hH hL
  have c0 := m0.c0
  have c1 := m0.c1
  have c2 := m0.c2
  have c3 := m0.c3
  go_enter Tryz.func97, Tryz.ntmps97
  go_wp2_with fail
  clear c0 c1 c2 c3
  refine (k1 _).mono ?_
  rintro e w1 ⟨rfl, g2⟩
  replace m0 := m0.kept g2
  replace B0 := bel_bel B0 B0.size g2
  clear g2 k1
  cases hv : vp F H L B with
  | false =>
    go_wp2_with fail
    go_ret
    have e : pp F H L B = [] := by unfold pp; rw [hv]; rfl
    rw [e]
    exact ⟨_, rfl, World.ownsRow_nil _ _ _ _, B0⟩
  | true =>
    have HE : Hid (pp F H L B = F :: B :: pa F H L) := by show _ = _; unfold pp; rw [hv]; rfl
    obtain ⟨h1, h2, h3, _⟩ := vp_in hv
    have hn128 := nb_le F
    have hF1 := of_decide_eq_true (show decide _ = true from h1)
    have hF2 : 0 ≤ F ∧ F ≤ 255 := by omega
    have hB2 : 0 ≤ B ∧ B ≤ 255 := by omega
    have hPL : (pa F H L).length = nb F / 8 := by rw [pa_length, h1]; rfl
    obtain ⟨hn, _⟩ := va_in h1 hH hL
    have hP0 : 0 < (pa F H L).length ∧ (pa F H L).length ≤ 16 := by omega
    clear hF1 h1 h2 h3 hn hn128 hPL hv hB
    generalize pa F H L = P at *
    have c0 := m0.c0
    have c1 := m0.c1
    have c2 := m0.c2
    have c3 := m0.c3
    have hso := own_two w1 F B
    have hs := B0.size
    have m1 := m0.alloc (.cells #[.int .u8 F, .int .u8 B] 5)
    have d0 := m1.c0
    have d1 := m1.c1
    have d2 := m1.c2
    have B1 := B0.alloc hs (.cells #[.int .u8 F, .int .u8 B] 5)
    have hs1 := B1.size
    go_wp2_with fail
    clear c0 c1 c2 c3 d0 d1 d2
    refine (k2 _).mono ?_
    rintro e w2 ⟨v, rfl, ho', g2⟩
    obtain ⟨ga, ca, rfl, _, _, hgb, hh, _⟩ := own_head ho' hP0.1
    replace hso := own_bel7 hso g2
    replace B1 := bel_bel B1 hs1 g2
    have hs2 := B1.size
    have hw2 := g2.size
    rw [World.size_alloc] at hw2 hgb
    clear g2 ho' k2 B0 m0 m1
    have HB1 := hid B1
    go_wp2_with (at_builtin; refine wpList_append_own _ rfl _ _ 52 rfl w1.heap.size 5 i5 (.int .u8 0) 1 1 Tryz.underlying52 hi hz0 hz1 hz2 rfl (by decide) _ _ _ rfl hso ⟨ga, 0, none⟩ P.length ca (cells P) rfl (by rw [cells_len7, Nat.mul_one]) (fun j u hj => head_src hh j u hj) (cells_one7 P) ?c3 ?c4 ?c5 ?_)
    case c3 => unfold maxLen; omega
    case c4 => omega
    case c5 => omega
    intro v' w3 hown hgrow _
    have e : cells [F, B] ++ cells P = cells (F :: B :: P) := by simp [cells]
    rw [e] at hown
    have B3 : Below w.heap.size w w3 := HB1.out.grown hgrow (by omega) fun p hp => by
      simp [Value.ownBlock] at hp
      omega
    clear hgrow hso
    go_wp2_with fail
    go_ret
    exact ⟨_, rfl, by rw [HE.out, show (F :: B :: P).length = 2 + P.length from by simp; omega]; exact own_le7 hown (by omega), B3⟩
end Go.Proofs.YtcbmgpmjnehjdaaGreat
