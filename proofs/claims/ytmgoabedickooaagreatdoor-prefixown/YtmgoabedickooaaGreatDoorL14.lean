import Derived.Test.YtmgoabedickooaaGreatDoorL13
namespace Go.Proofs.YtmgoabedickooaaGreatDoor
set_option maxRecDepth 100000
open Go.RowKit
set_option linter.unusedVariables false

theorem ta_va {F H L : Int} (h : ta F H L ≠ []) : va F H L = true := by
  cases hv : va F H L with
  | true => rfl
  | false =>
    exfalso
    apply h
    unfold ta pa
    rw [hv]
    rfl
theorem ak_va {l : List Nat} (h : ak l = true) : va (aF l) (aH l) (aL l) = true ∧ InU (aH l) ∧ InU (aL l) := by
  have h1 := ta_ak h
  have h2 := of_decide_eq_true (show decide _ = true from h)
  refine ⟨ta_va (by rw [h1]; exact h2.2.1), ?_, ?_⟩
  · rw [← (a_good h).2.1]; exact (g_in l).1
  · rw [← (a_good h).2.2.1]; exact (g_in l).2
theorem Gd.bad {l : List Nat} {F H L : Int} (h : Gd l F H L false) : ak l = false := by
  cases hk : ak l with
  | false => rfl
  | true =>
    obtain ⟨h1, h2, h3⟩ := ak_va hk
    rw [← ta_ak hk] at h
    exact absurd (h.of_ta h1 h2 h3).1 (by decide)
theorem Gd.miss {l : List Nat} {F H L : Int} (h : Gd l F H L true) (hn : ta F H L ≠ l) : ak l = false := by
  cases hk : ak l with
  | false => rfl
  | true =>
    obtain ⟨h1, h2, h3⟩ := ak_va hk
    have e := ta_ak hk
    rw [← e] at h
    obtain ⟨_, rfl, rfl, rfl⟩ := h.of_ta h1 h2 h3
    exact absurd e hn
theorem Gd.hit {l : List Nat} {F H L : Int} (h : Gd l F H L true) (hn : ta F H L = l) : F = aF l ∧ H = aH l ∧ L = aL l ∧ 0 = aE l := by
  obtain ⟨h1, h2, h3, _⟩ := h.ne
  have := ak_ta (ta_va (by rw [hn]; exact h1)) h2 h3
  rw [hn] at this
  exact ⟨this.2.1.symm, this.2.2.1.symm, this.2.2.2.1.symm, this.2.2.2.2.symm⟩
set_option maxHeartbeats 1000000 in
theorem parseAddr_ (l : List Nat) (w : World) (hy : ∀ x ∈ l, x < 256) (hl : l.length ≤ 140737488355328) (hT : Tb w) :
    Calls Tryz.prog 55 #[.string (sb l)] w fun e w' => e = .returned (.tuple #[.agg #[.int .i64 (aF l), .int .u64 (aH l), .int .u64 (aL l)], .int .i64 (aE l)]) ∧ Below w.heap.size w w' := by
  have k1 := fun w hT => gathered_ l w hy hl hT
  have B0 := anew w 0 0 0
  have m0 := Am.new w 0 0 0
  have HI := hid (fun F H L (h : sb (ta F H L) = sb l) => sb_inj (ta_lt F H L) hy h)
  have HB := hid (fun h => a_bad (l := l) h)
  obtain ⟨S, HS⟩ : ∃ S, Hid (sb l = S) := ⟨_, rfl⟩
  simp only [HS.out] at k1 HI
  rw [HS.out]
  have hT0 := hT.kept B0
  go_enter Tryz.func55, Tryz.ntmps55
  go_wp2_with fail
  refine (k1 _ hT0).mono ?_
  rintro e w1 ⟨F, H, L, ok, hG, rfl, g2⟩
  replace m0 := m0.kept g2
  replace B0 := bel_bel B0 B0.size g2
  have hs1 := m0.lt
  clear g2 k1 hT0
  obtain ⟨iF, iH, iL⟩ := hG.in
  have m1 := Am.new w1 F H L
  replace m0 := m0.alloc (.cells #[.int .i64 F, .int .u64 H, .int .u64 L] 48)
  replace B0 := B0.alloc B0.size (.cells #[.int .i64 F, .int .u64 H, .int .u64 L] 48)
  have HG := hid hG
  clear hG
  cases ok with
  | false =>
    have HE := hid (HB.out HG.out.bad)
    clear HB HI HG
    go_wp2_with (refine wpList_sa rfl rfl _ _ rfl w.heap.size 0 0 0 rfl rfl _ _ _ m0 ?_)
    refine bodyPost_ret (v := .tuple #[.agg #[.int .i64 0, .int .u64 0, .int .u64 0], .int .i64 70]) ?_ rfl ⟨ret_a HE.out, bel_row B0 (Nat.le_refl _) _⟩
    exact results_a2 rfl _ _ w.heap.size 0 0 0 _ rfl rfl (m0.row _ _ _)
  | true =>
    have k2 := fun w hT => printAddr_ F H L w iF iH iL hT
    have c0 := m1.c0
    have c1 := m1.c1
    have c2 := m1.c2
    have hTq := hT.kept B0
    go_wp2_with fail
    generalize w1.alloc (.cells #[.int .i64 F, .int .u64 H, .int .u64 L] 48) = w2 at *
    generalize w1.heap.size = g1 at *
    clear c0 c1 c2
    refine (k2 _ hTq).mono ?_
    rintro e w3 ⟨rfl, g3⟩
    replace m0 := m0.kept g3
    replace m1 := m1.kept g3
    replace B0 := bel_bel B0 B0.size g3
    clear g3 k2 hTq
    have c0 := m1.c0
    have c1 := m1.c1
    have c2 := m1.c2
    have HII := hid (HI.out F H L)
    clear HI
    obtain ⟨P, HP⟩ : ∃ P, Hid (sb (ta F H L) = P) := ⟨_, rfl⟩
    rw [HP.out] at HII ⊢
    by_cases hps : P = S
    · have HE := hid (HG.out.hit (HII.out hps))
      have d8 : (P.toList == S.toList) = true := by rw [hps]; exact beq_self_eq_true _
      have d8' : (P.toList != S.toList) = false := by unfold bne; rw [d8]; rfl
      clear hps HB HG HII HP
      go_wp2_with (refine wpList_sa rfl rfl _ _ rfl w.heap.size F H L rfl rfl _ _ _ m0 ?_)
      refine bodyPost_ret (v := .tuple #[.agg #[.int .i64 F, .int .u64 H, .int .u64 L], .int .i64 0]) ?_ rfl ⟨ret_a HE.out, bel_row B0 (Nat.le_refl _) _⟩
      exact results_a2 rfl _ _ w.heap.size F H L _ rfl rfl (m0.row _ _ _)
    · have HE := hid (HB.out (HG.out.miss (fun h => hps (by rw [← HP.out, h, HS.out]))))
      have d8 : (P.toList == S.toList) = false := beq_eq_false_iff_ne.2 fun h => hps (toList_inj h)
      have d8' : (P.toList != S.toList) = true := by unfold bne; rw [d8]; rfl
      clear hps HB HG HII HP
      go_wp2_with (refine wpList_sa rfl rfl _ _ rfl w.heap.size 0 0 0 rfl rfl _ _ _ m0 ?_)
      refine bodyPost_ret (v := .tuple #[.agg #[.int .i64 0, .int .u64 0, .int .u64 0], .int .i64 70]) ?_ rfl ⟨ret_a HE.out, bel_row B0 (Nat.le_refl _) _⟩
      exact results_a2 rfl _ _ w.heap.size 0 0 0 _ rfl rfl (m0.row _ _ _)
end Go.Proofs.YtmgoabedickooaaGreatDoor
