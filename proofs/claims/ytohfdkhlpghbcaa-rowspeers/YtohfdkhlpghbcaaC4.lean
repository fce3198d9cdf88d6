import Derived.Test.YtohfdkhlpghbcaaC3
import Derived.Test.YtohfdkhlpghbcaaS3
import Derived.Laws.Bits64b
namespace Go.Proofs.Ytohfdkhlpghbcaa
set_option maxRecDepth 100000
open Go.RowKit
set_option linter.unusedVariables false

theorem or8C (v z : Int) (v0 : 0 ≤ v) (v1 : v < 72057594037927936) (z0 : 0 ≤ z) (z1 : z ≤ 255) : bits BinOp.or IntKind.u64 (v * 256) z = v * 256 + z := by
  obtain ⟨a, rfl⟩ := Int.eq_ofNat_of_zero_le v0
  obtain ⟨b, rfl⟩ := Int.eq_ofNat_of_zero_le z0
  have h := bits_or_u64_nat (a * 256) b (by omega) (by omega)
  have e : a * 256 ||| b = a * 256 + b := by
    have := Nat.shiftLeft_add_eq_or_of_lt (a := a) (b := b) (i := 8) (by omega)
    rw [Nat.shiftLeft_eq] at this
    exact this.symm
  rw [e] at h
  rw [show ((a : Int) * 256) = ((a * 256 : Nat) : Int) from by omega, h]
  omega

set_option maxHeartbeats 400000 in
theorem laidNumber_ (b off n c : Nat) (zs : List Int) (w : World) (hl : zs.length = n) (hn : n ≤ 8) (hby : ∀ z ∈ zs, 0 ≤ z ∧ z ≤ 255) (hc : ∀ i, i < n → w.cell? ⟨b, off + i, none⟩ = some (.int .u8 (zs.getD i 0))) :
    Calls Try.prog 96 #[.slice (some ⟨b, off, none⟩) n c] w fun e w' => e = .returned (.int .u64 (val zs)) ∧ w' = w := by
  have HC := hid hc
  have HB := hid hby
  have HL := hid hl
  clear hc hby hl
  go_enter Try.func96, Try.ntmps96
  go_wp2_with fail
  go_loop [3, 8] (fun v i => ∃ j : Nat, j ≤ n ∧ i = .int .i64 j ∧ v = .int .u64 (val (zs.take j))) (fun _ i => n - (intOf i).toNat)
  case atStart => exact ⟨0, by omega, rfl, rfl⟩
  case round =>
    obtain ⟨j, hj, rfl, rfl⟩ := hrel
    by_cases hlt : j < n
    · have hI : (j : Int) < (n : Int) := by omega
      have cc := HC.out j hlt
      have HV := hid (val_take zs j (by rw [HL.out]; omega))
      have u0 := val_bound (zs.take j) (fun z hz => HB.out z (List.mem_of_mem_take hz))
      have ub := getD_byte6 HB.out j
      obtain ⟨V, HV2⟩ : ∃ V, Hid (val (zs.take j) = V) := ⟨_, rfl⟩
      rw [HV2.out] at u0 ⊢
      have hlen : (zs.take j).length = j := by rw [List.length_take, HL.out]; omega
      have hp : (256 : Int) ^ j ≤ 72057594037927936 := by
        have : j = 0 ∨ j = 1 ∨ j = 2 ∨ j = 3 ∨ j = 4 ∨ j = 5 ∨ j = 6 ∨ j = 7 := by omega
        rcases this with rfl | rfl | rfl | rfl | rfl | rfl | rfl | rfl <;> decide
      rw [hlen] at u0
      have hV : V < 72057594037927936 := by omega
      have u00 := u0.1
      generalize zs.getD j 0 = y at *
      have ho := hid (or8C V y u00 hV ub.1 ub.2)
      clear hlen hp u0
      go_wp2_with fail
      go_round
      case rel => exact ⟨j + 1, by omega, by go_num, by rw [HV.out, HV2.out, ho.out]⟩
      case measure => simp [intOf]; omega
    · have hI : ¬ (j : Int) < (n : Int) := by omega
      go_wp2_with fail
      go_ret
      exact ⟨by rw [List.take_of_length_le (by rw [HL.out]; omega)]; rfl, rfl⟩
set_option maxHeartbeats 1000000 in
theorem sget_ (a : Option Addr) (n c : Nat) (zs : List Int) (w : World) (hb : Bs w a n zs) (hnc : n ≤ c) (hcm : c ≤ maxLen) :
    Calls Try.prog 81 #[.slice a n c] w fun e w' => e = .returned (.tuple #[.agg #[.int .i64 (qs zs), .int .i64 (qn zs)], .int .i64 (qe zs)]) ∧ Below w.heap.size w w' := by
  have B0 := snew1 w 0 0
  have m0 := Sm.new w 0 0
  unfold maxLen at hcm
  by_cases h12 : n = 12
  · subst h12
    obtain ⟨hl, hby, hcs⟩ := hb
    obtain ⟨b, off, rfl, hc⟩ : ∃ b off, a = some ⟨b, off, none⟩ ∧ ∀ i, i < 12 → w.cell? ⟨b, off + i, none⟩ = some (.int .u8 (zs.getD i 0)) := by
      rcases hcs with h | h
      · omega
      · exact h
    have HC := hid hc
    have HLB : Hid (b < w.heap.size) := World.block_lt_of_cell? w _ (hc 0 (by omega))
    have HB := hid hby
    have HL := hid hl
    clear hc hcs hl hby
    have x1 : (8 : Int) ≤ (c : Int) := by omega
    have HG := hid B0
    go_enter Try.func81, Try.ntmps81
    go_wp2_with fail
    generalize w.alloc (.cells #[.int .i64 0, .int .i64 0] 46) = w1 at *
    have HC1 : Hid (∀ i, i < 12 → w1.cell? ⟨b, off + i, none⟩ = some (.int .u8 (zs.getD i 0))) := fun i hi => (HG.out.cell HLB.out).trans (HC.out i hi)
    have HB8 : Hid (∀ z ∈ zs.take 8, 0 ≤ z ∧ z ≤ 255) := fun z hz => HB.out z (List.mem_of_mem_take hz)
    have HB4 : Hid (∀ z ∈ zs.drop 8, 0 ≤ z ∧ z ≤ 255) := fun z hz => HB.out z (List.mem_of_mem_drop hz)
    have HL8 : Hid ((zs.take 8).length = 8) := by show _ = _; rw [List.length_take, HL.out]; rfl
    have HL4 : Hid ((zs.drop 8).length = 4) := by show _ = _; rw [List.length_drop, HL.out]
    have k1 := fun w cap hc => laidNumber_ b off 8 cap (zs.take 8) w HL8.out (by omega) HB8.out hc
    have k2 := fun w cap hc => laidNumber_ b (off + 8) 4 cap (zs.drop 8) w HL4.out (by omega) HB4.out hc
    refine wp_region_held_drew (S := fun _ => True) (by kernel_rfl) trivial (fun hHeld => ?_)
    replace m0 := m0.drew
    replace B0 := bel_drew1C B0
    have HC2 : Hid (∀ i, i < 12 → w1.drew.cell? ⟨b, off + i, none⟩ = some (.int .u8 (zs.getD i 0))) := HC1.out
    generalize w1.drew = wd at *
    refine take_toC 0 10 (.slice (some ⟨b, off, none⟩) 12 c) rfl rfl (by kernel_rfl) (by kernel_rfl) (by kernel_rfl) (fun _ _ _ h => h) (Or.inl ⟨by rfl, fun w' _ => ?_⟩) hHeld ?_
    · go_simp
    try simp only [List.setIfInBounds_toArray, List.set_cons_zero, List.set_cons_succ]
    refine take_toC 1 11 (.slice (some ⟨b, off, none⟩) 8 c) rfl rfl (by kernel_rfl) (by kernel_rfl) (by kernel_rfl) (fun _ _ _ h => h) (Or.inl ⟨by rfl, fun w' _ => ?_⟩) hHeld ?_
    · go_simp
    try simp only [List.setIfInBounds_toArray, List.set_cons_zero, List.set_cons_succ]
    refine take_toC 3 13 (.slice (some ⟨b, off, none⟩) 12 c) rfl rfl (by kernel_rfl) (by kernel_rfl) (by kernel_rfl) (fun _ _ _ h => h) (Or.inl ⟨by rfl, fun w' _ => ?_⟩) hHeld ?_
    · go_simp
    try simp only [List.setIfInBounds_toArray, List.set_cons_zero, List.set_cons_succ]
    refine take_toC 4 14 (.slice (some ⟨b, off + 8, none⟩) 4 (c - 8)) rfl rfl (by kernel_rfl) (by kernel_rfl) (by kernel_rfl) (fun _ _ _ h => h) (Or.inl ⟨by rfl, fun w' _ => ?_⟩) hHeld ?_
    · go_simp
      omega
    try simp only [List.setIfInBounds_toArray, List.set_cons_zero, List.set_cons_succ]
    refine wpAnyH_ready (rs := [2]) (by kernel_rfl) (by simp) ?_
    refine AllReadyH.cons rfl (fun K hK => ?_) AllReadyH.nil
    rw [if_pos (by rfl)]
    go_wp2_with fail
    refine (k1 _ _ ?_).mono ?_
    · intro i hi
      rw [HC2.out i (by omega)]
      simp only [List.getD, List.getElem?_take, if_pos hi]
    rintro e w3 ⟨rfl, rfl⟩
    try go_wp2_with fail
    refine hK.out _ _ trivial (fun hHeld => ?_)
    clear hK K
    try simp only [Act.put, List.setIfInBounds_toArray, List.set_cons_zero, List.set_cons_succ]
    refine wpAnyH_ready (rs := [5]) (by kernel_rfl) (by simp) ?_
    refine AllReadyH.cons rfl (fun K hK => ?_) AllReadyH.nil
    rw [if_pos (by rfl)]
    go_wp2_with fail
    refine (k2 _ _ ?_).mono ?_
    · intro i hi
      rw [Nat.add_assoc, HC2.out (8 + i) (by omega)]
      simp only [List.getD, List.getElem?_drop]
    rintro e w3 ⟨rfl, rfl⟩
    try go_wp2_with fail
    refine hK.out _ _ trivial (fun hHeld => ?_)
    clear hK K k1 k2
    try simp only [Act.put, List.setIfInBounds_toArray, List.set_cons_zero, List.set_cons_succ]
    have b8 := val_bound (zs.take 8) HB8.out
    have b4 := val_bound (zs.drop 8) HB4.out
    rw [HL8.out] at b8
    rw [HL4.out] at b4
    have HGK : Hid (gok zs = decide (zs.length = 12 ∧ val (zs.take 8) ≤ 9223372036854775807 ∧ val (zs.drop 8) ≤ 999999999)) := rfl
    have HQG : Hid (gok zs = true → val (zs.take 8) = qs zs ∧ val (zs.drop 8) = qn zs ∧ 0 = qe zs) := fun h => q_good h
    have HQB := hid (q_bad (l := zs))
    generalize val (zs.take 8) = X at *
    generalize val (zs.drop 8) = Y at *
    refine take_toC 6 4 (.int .u64 X) rfl rfl (by kernel_rfl) (by kernel_rfl) (by kernel_rfl) (fun _ _ _ h => h) (Or.inl ⟨by rfl, fun w' _ => ?_⟩) hHeld ?_
    · go_simp
    try simp only [List.setIfInBounds_toArray, List.set_cons_zero, List.set_cons_succ]
    refine take_toC 7 5 (.int .u64 Y) rfl rfl (by kernel_rfl) (by kernel_rfl) (by kernel_rfl) (fun _ _ _ h => h) (Or.inl ⟨by rfl, fun w' _ => ?_⟩) hHeld ?_
    · go_simp
    try simp only [List.setIfInBounds_toArray, List.set_cons_zero, List.set_cons_succ]
    refine wpAnyH_done (by kernel_rfl) ?_ _
    clear hHeld HC HC1 HC2 HG HLB
    by_cases h1 : 9223372036854775807 < X
    · have HE : Hid (gok zs = false) := by show _ = _; rw [HGK.out]; exact decide_eq_false (by omega)
      go_wp2_with (refine wpList_sst rfl rfl _ _ rfl w.heap.size 0 0 rfl rfl 0 0 (by with_reducible exact m0) ?_)
      refine bodyPost_ret (v := .tuple #[.agg #[.int .i64 0, .int .i64 0], .int .i64 60]) ?_ rfl ⟨ret_g (HQB.out HE.out).1 (HQB.out HE.out).2.1 (HQB.out HE.out).2.2, bel_row B0 (Nat.le_refl _) _⟩
      exact results_st rfl _ _ w.heap.size 0 0 _ rfl rfl (m0.row 0 0).c0 (m0.row 0 0).c1
    · by_cases h2 : 999999999 < Y
      · have HE : Hid (gok zs = false) := by show _ = _; rw [HGK.out]; exact decide_eq_false (by omega)
        go_wp2_with (refine wpList_sst rfl rfl _ _ rfl w.heap.size 0 0 rfl rfl 0 0 (by with_reducible exact m0) ?_)
        refine bodyPost_ret (v := .tuple #[.agg #[.int .i64 0, .int .i64 0], .int .i64 60]) ?_ rfl ⟨ret_g (HQB.out HE.out).1 (HQB.out HE.out).2.1 (HQB.out HE.out).2.2, bel_row B0 (Nat.le_refl _) _⟩
        exact results_st rfl _ _ w.heap.size 0 0 _ rfl rfl (m0.row 0 0).c0 (m0.row 0 0).c1
      · have HE : Hid (gok zs = true) := by show _ = _; rw [HGK.out]; exact decide_eq_true ⟨HL.out, by omega, by omega⟩
        have HX := hid (HQG.out HE.out)
        have x0 := b8.1
        have y0 := b4.1
        clear b8 b4
        go_wp2_with (refine wpList_sst rfl rfl _ _ rfl w.heap.size X Y rfl rfl 0 0 (by with_reducible exact m0) ?_)
        refine bodyPost_ret (v := .tuple #[.agg #[.int .i64 X, .int .i64 Y], .int .i64 0]) ?_ rfl ⟨ret_g HX.out.1 HX.out.2.1 HX.out.2.2, bel_row B0 (Nat.le_refl _) _⟩
        exact results_st rfl _ _ w.heap.size X Y _ rfl rfl (m0.row _ _).c0 (m0.row _ _).c1
  · have HE : Hid (gok zs = false) := by
      show _ = _
      unfold gok
      exact decide_eq_false (fun h => h12 (by rw [← hb.1]; exact h.1))
    have d1 : ((n : Int) != 12) = true := bne_iff_ne.2 (by omega)
    clear hb h12
    go_enter Try.func81, Try.ntmps81
    go_wp2_with (refine wpList_sst rfl rfl _ _ rfl w.heap.size 0 0 rfl rfl 0 0 (by with_reducible exact m0) ?_)
    refine bodyPost_ret (v := .tuple #[.agg #[.int .i64 0, .int .i64 0], .int .i64 60]) ?_ rfl ⟨ret_g (q_bad HE.out).1 (q_bad HE.out).2.1 (q_bad HE.out).2.2, bel_row B0 (Nat.le_refl _) _⟩
    exact results_st rfl _ _ w.heap.size 0 0 _ rfl rfl (m0.row 0 0).c0 (m0.row 0 0).c1
end Go.Proofs.Ytohfdkhlpghbcaa
