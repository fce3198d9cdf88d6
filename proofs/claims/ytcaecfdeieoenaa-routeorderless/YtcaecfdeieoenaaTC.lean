import Derived.Test.YtcaecfdeieoenaaTB
namespace Go.Proofs.Ytcaecfdeieoenaa
set_option maxRecDepth 100000
open Go.RowKit Go.Shelf
set_option linter.unusedVariables false
attribute [local go_sem] Oper.semAt_some

theorem wf_tF {F H L : Int} {t4 t6 : Tn} (h4 : Wf 4 t4) (h6 : Wf 6 t6) (ha : va F H L = true) : Wf F (tF F t4 t6) := by
  have h := of_decide_eq_true (show decide _ = true from ha)
  unfold tF
  rcases h with rfl | ⟨rfl, _⟩
  · rw [if_neg (by decide)]
    exact h6
  · rw [if_pos rfl]
    exact h4
theorem ws_F {F : Int} {t : Tn} (h : Wf F t) {y : Wy} (hy : y ∈ t.ws) : y.F = F ∧ y.Ok := by
  obtain ⟨⟨b, hb⟩, hk⟩ := (ws_mem y t).1 hy
  have := wf_nk h _ hb
  exact ⟨this.2.2.2, this.ok hk⟩
theorem tF_mem {F H L : Int} {t4 t6 : Tn} {l : List Wy} (h4 : Wf 4 t4) (h6 : Wf 6 t6) (hm : ∀ y, y ∈ l ↔ y ∈ t4.ws ∨ y ∈ t6.ws) (ha : va F H L = true) (y : Wy) : y ∈ (tF F t4 t6).ws ↔ y ∈ l ∧ y.F = F := by
  have h := of_decide_eq_true (show decide _ = true from ha)
  rw [hm]
  unfold tF
  rcases h with rfl | ⟨rfl, _⟩
  · rw [if_neg (by decide)]
    constructor
    · intro h
      exact ⟨.inr h, (ws_F h6 h).1⟩
    · rintro ⟨h | h, e⟩
      · rw [(ws_F h4 h).1] at e
        cases e
      · exact h
  · rw [if_pos rfl]
    constructor
    · intro h
      exact ⟨.inl h, (ws_F h4 h).1⟩
    · rintro ⟨h | h, e⟩
      · exact h
      · rw [(ws_F h6 h).1] at e
        cases e
theorem find_pure {F H L : Int} {t4 t6 : Tn} {l : List Wy} (hl : Tl l) (h4 : Wf 4 t4) (h6 : Wf 6 t6) (hm : ∀ y, y ∈ l ↔ y ∈ t4.ws ∨ y ∈ t6.ws) (ha : va F H L = true) :
    fdl 0 (pth (nb F) (ad H L) (nb F) (tF F t4 t6)) = fK l F H L ∧ fO l F H L = (fdl 0 (pth (nb F) (ad H L) (nb F) (tF F t4 t6)) != 0) := by
  have hwf := wf_tF h4 h6 ha
  have hmm := tF_mem h4 h6 hm ha
  have key : ∀ z ∈ pth (nb F) (ad H L) (nb F) (tF F t4 t6), z.2.K ≠ 0 → z.2 ∈ l ∧ z.2.ho F H L = true := fun z hz hk => by
    obtain ⟨h1, h2⟩ := pth_mem hwf z hz
    have hw : z.2 ∈ (tF F t4 t6).ws := (ws_mem _ _).2 ⟨⟨z.1, h1⟩, hk⟩
    refine ⟨((hmm _).1 hw).1, ?_⟩
    rw [nk_ho (wf_nk hwf z h1) ha]
    exact decide_eq_true h2
  cases hf : fnd l F H L with
  | none =>
    have h0 := fnd_none.1 hf
    have e : fdl 0 (pth (nb F) (ad H L) (nb F) (tF F t4 t6)) = 0 := fdl_none _ _ (fun z hz => Decidable.byContradiction (fun hk => by
      obtain ⟨h1, h2⟩ := key z hz hk
      rw [h0 _ h1] at h2
      cases h2))
    rw [e]
    unfold fK fO
    rw [hf]
    exact ⟨rfl, rfl⟩
  | some y =>
    obtain ⟨h1, h2, h3⟩ := fnd_some hf
    have hyF : y.F = F := by
      have := h2
      unfold Wy.ho Go.Proofs.Ytcaecfdeieoenaa.ho at this
      simp only [Bool.and_eq_true, decide_eq_true_eq] at this
      exact this.2.2.1
    obtain ⟨⟨b, hb⟩, hk⟩ := (ws_mem y _).1 ((hmm y).2 ⟨h1, hyF⟩)
    have nk := wf_nk hwf _ hb
    rw [nk_ho nk ha] at h2
    have hz := pth_hit hwf (b, y) hb (A := ad H L) (B := nb F) (of_decide_eq_true h2) nk.b.2
    have e := fdl_some _ 0 (b, y) (pth_srt hwf) hz hk (fun u hu huk => by
      obtain ⟨g1, g2⟩ := key u hu huk
      exact h3 _ g1 g2)
    rw [e]
    unfold fK fO
    rw [hf]
    refine ⟨rfl, ?_⟩
    have hk' : y.K ≠ 0 := hk
    simp [hk']
set_option maxHeartbeats 1000000 in
theorem or_ (g : Nat) (a b : Int) (w : World) (h0 : w.cell? ⟨g, 0, none⟩ = some (.int .i64 a)) (h1 : w.cell? ⟨g, 1, none⟩ = some (.int .i64 b)) :
    Calls Try.prog 38 #[.slice (some ⟨g, 0, none⟩) 2 2] w fun e w' => e = .returned (.int .i64 (if a = 0 then b else a)) ∧ w' = w := by
  by_cases ha : a = 0
  · subst ha
    rw [if_pos rfl]
    by_cases hb : b = 0
    · subst hb
      go_enter Try.func38, Try.ntmps38
      go_wp2_with fail
      refine wp_loop_rounds 3 ?_
      rw [rounds_succ]
      go_wp2_with fail
      rw [rounds_succ]
      go_wp2_with fail
      rw [rounds_succ]
      go_wp2_with fail
      go_ret
      exact ⟨rfl, rfl⟩
    · have hb' : (b != 0) = true := by simpa using hb
      go_enter Try.func38, Try.ntmps38
      go_wp2_with fail
      refine wp_loop_rounds 2 ?_
      rw [rounds_succ]
      go_wp2_with fail
      rw [rounds_succ]
      go_wp2_with fail
      go_ret
      exact ⟨rfl, rfl⟩
  · rw [if_neg ha]
    have ha' : (a != 0) = true := by simpa using ha
    go_enter Try.func38, Try.ntmps38
    go_wp2_with fail
    refine wp_loop_rounds 1 ?_
    rw [rounds_succ]
    go_wp2_with fail
    go_ret
    exact ⟨rfl, rfl⟩
theorem fdl_snoc (s : Int) (l : List (Nat × Wy)) (z : Nat × Wy) : fdl s (l ++ [z]) = if z.2.K = 0 then fdl s l else z.2.K := by
  unfold fdl
  rw [List.foldl_append]
  rfl
set_option maxHeartbeats 8000000 in
theorem rfind_ (w0 w : World) (k : Nat) (t4 t6 : Tn) (l : List Wy) (h : Tbm w0 k t4 t6) (hb : Below w0.heap.size w0 w) (hl : Tl l) (h4 : Wf 4 t4) (h6 : Wf 6 t6) (hm : ∀ y, y ∈ l ↔ y ∈ t4.ws ∨ y ∈ t6.ws) (F H L : Int) (hF : InI F) (hH : InU H) (hL : InU L) :
    Calls Try.prog 15 #[.pointer (some ⟨k, 0, none⟩), .agg #[.int .i64 F, .int .u64 H, .int .u64 L]] w fun e w' => e = .returned (.tuple #[.int .i64 (fK l F H L), .bool (fO l F H L)]) ∧ Below w.heap.size w w' := by
  have hmx : Try.prog.follows .mixedOrders = true := by kernel_rfl
  have B0 := anew w F H L
  have m0 := Am.new w F H L
  have kv := fun w => validAddr_ F H L w hF hH hL
  cases hv : va F H L with
  | false =>
    rw [hv] at kv
    have HE : Hid (fK l F H L = 0 ∧ fO l F H L = false) := by
      have hn : fnd l F H L = none := fnd_none.2 (fun y hy => Bool.eq_false_iff.2 (fun e => by
        unfold Wy.ho Go.Proofs.Ytcaecfdeieoenaa.ho at e
        simp only [Bool.and_eq_true, decide_eq_true_eq] at e
        rw [hv] at e
        cases e.2.1))
      show _ ∧ _
      unfold fK fO
      rw [hn]
      exact ⟨rfl, rfl⟩
    rw [HE.out.1, HE.out.2]
    clear hv HE
    have c0 := m0.c0
    have c1 := m0.c1
    have c2 := m0.c2
    go_enter Try.func15, Try.ntmps15
    go_wp2_with (go_at_call 35; refine (kv _).mono ?_; rintro e w1 ⟨rfl, g2⟩)
    go_ret2
    exact ⟨rfl, bel_bel B0 B0.size g2⟩
  | true =>
    rw [hv] at kv
    have HF := hid (find_pure hl h4 h6 hm hv)
    have hwf := wf_tF h4 h6 hv
    rw [← HF.out.1, HF.out.2]
    have hnb := nb_va hv
    have kw := fun w => rwidth_ F w
    rw [← hnb] at kw
    have kp := fun w hb => path_ w0 w k t4 t6 h hb ⟨F, H, L, nb F, 0⟩ ⟨hF, hH, hL, by unfold InI; have := nb_le F; simp only; omega, by unfold InI; simp only; omega⟩ hv (Int.le_refl _) hwf
    simp only [Wy.A] at kp
    have HT := hid (h.nd F)
    obtain ⟨PT, HPT⟩ : ∃ PT, Hid (pth (nb F) (ad H L) (nb F) (tF F t4 t6) = PT) := ⟨_, rfl⟩
    simp only [HPT.out] at kp ⊢
    obtain ⟨R, HR⟩ : ∃ R, Hid (fdl 0 PT = R) := ⟨_, rfl⟩
    simp only [HR.out]
    obtain ⟨NB, HNB⟩ : ∃ NB : Int, Hid ((nb F : Int) = NB) := ⟨_, rfl⟩
    simp only [HNB.out] at kp kw
    clear HF hwf h h4 h6 hm hl hv hnb
    have c0 := m0.c0
    have c1 := m0.c1
    have c2 := m0.c2
    refine (callsIn_wide (n := 9)).1 ?_
    refine callsIn_of_wp_marks Try.func15 rfl trivial ?_ rfl
    simp only [Try.ntmps15, List.size_toArray, List.length_cons, List.length_nil, Nat.reduceAdd, Nat.reduceSub, Array.replicate_succ, Array.replicate_zero, List.push_toArray, List.append_toArray, List.nil_append, List.cons_append]
    gi_wp2_with (refine ⟨trivial, ?_⟩; gi_at_call 35; refine (callsIn_wide.2 (kv _)).mono ?_; rintro e w1 ⟨rfl, g2⟩)
    replace m0 := (m0.kept g2).alloc (.cells #[.int .i64 0] 3)
    replace B0 := (bel_bel B0 B0.size g2).alloc (by have := B0.size; have := g2.size; omega) (.cells #[.int .i64 0] 3)
    have bL := Boxed.new w1 3 (.int .i64 0)
    have hwl : w.heap.size < w1.heap.size := by have := g2.size; rw [World.size_alloc] at this; omega
    clear g2 c0 c1 c2 kv
    have hs2 : w1.heap.size < (w1.alloc (.cells #[.int .i64 0] 3)).heap.size := by simp
    generalize w1.alloc (.cells #[.int .i64 0] 3) = wa at *
    refine only8 ?_
    refine regionN (S := fun wx => Am wx w.heap.size F H L) hmx m0.drew (fun hHeld => ?_)
    change anyN _ _ _ _ _ _ _ _ _ _ wa.drew
    replace m0 := m0.drew
    replace bL : Boxed wa.drew w1.heap.size 3 (.int .i64 0) := bL
    replace B0 := bel_drew1 B0
    replace hs2 : w1.heap.size < wa.drew.heap.size := hs2
    replace hHeld : Am wa.drew w.heap.size F H L := hHeld
    generalize wa.drew = w2 at *
    refine takeN (i := 0) 11 (.pointer (some ⟨k, 0, none⟩)) rfl rfl rfl (by kernel_rfl) (by kernel_rfl) (by kernel_rfl) (fun _ _ _ h => by cases h.1) (Or.inl ⟨by kernel_rfl, fun w' h => ?_⟩) (fun _ => rfl) hHeld ?_
    · go_simp
    try simp only [List.setIfInBounds_toArray, List.set_cons_zero, List.set_cons_succ]
    refine takeN (i := 1) 12 (.agg #[.int .i64 F, .int .u64 H, .int .u64 L]) rfl rfl rfl (by kernel_rfl) (by kernel_rfl) (by kernel_rfl) (fun _ _ _ h => by cases h.1) (Or.inl ⟨by kernel_rfl, fun w' h => ?_⟩) (fun _ => rfl) hHeld ?_
    · have y0 := Am.c0 h; have y1 := Am.c1 h; have y2 := Am.c2 h
      go_simp
    try simp only [List.setIfInBounds_toArray, List.set_cons_zero, List.set_cons_succ]
    refine takeN (i := 2) 13 (.pointer (some ⟨w.heap.size, 0, none⟩)) rfl rfl rfl (by kernel_rfl) (by kernel_rfl) (by kernel_rfl) (fun _ _ _ h => by cases h.1) (Or.inl ⟨by kernel_rfl, fun w' h => ?_⟩) (fun _ => rfl) hHeld ?_
    · go_simp
    try simp only [List.setIfInBounds_toArray, List.set_cons_zero, List.set_cons_succ]
    refine takeN (i := 3) 14 (.int .i64 F) rfl rfl rfl (by kernel_rfl) (by kernel_rfl) (by kernel_rfl) (fun _ _ _ h => by cases h.1) (Or.inl ⟨by kernel_rfl, fun w' h => ?_⟩) (fun _ => rfl) hHeld ?_
    · have y0 := Am.c0 h
      go_simp
    try simp only [List.setIfInBounds_toArray, List.set_cons_zero, List.set_cons_succ]
    refine nextN (i := 4) (by kernel_rfl) rfl (fun K hK => ?_)
    rw [if_pos (by kernel_rfl)]
    gi_wp2_with (refine ⟨trivial, ?_⟩; gi_at_call 37; refine (callsIn_wide.2 (kw _)).mono ?_; rintro e w2 ⟨rfl, rfl⟩)
    refine hK.out _ _ m0 (fun hHeld => ?_)
    clear hK K kw
    try simp only [Act.put, List.setIfInBounds_toArray, List.set_cons_zero, List.set_cons_succ]
    refine takeN (i := 5) 16 (.agg #[.int .i64 F, .int .u64 H, .int .u64 L, .int .i64 NB]) rfl rfl rfl (by kernel_rfl) (by kernel_rfl) (by kernel_rfl) (fun _ _ _ h => by cases h.1) (Or.inl ⟨by kernel_rfl, fun w' h => ?_⟩) (fun _ => rfl) hHeld ?_
    · go_simp
    try simp only [List.setIfInBounds_toArray, List.set_cons_zero, List.set_cons_succ]
    refine nextN (i := 6) (by kernel_rfl) rfl (fun K hK => ?_)
    rw [if_pos (by kernel_rfl)]
    have hbw : Below w0.heap.size w0 w2 := hb.trans (B0.mono hb.size)
    gi_wp2_with (refine ⟨trivial, ?_⟩; gi_at_call 36; refine (callsIn_wide.2 (kp _ hbw)).mono ?_; rintro e w3 ⟨⟨lb, rfl, hseq⟩, g2⟩)
    replace m0 := m0.kept g2
    replace bL := bL.kept (grown_of_below g2) (fun e => by cases e)
    have hs3 := g2.size
    replace B0 := bel_bel B0 B0.size g2
    have hb3 : Below w0.heap.size w0 w3 := hb.trans (B0.mono hb.size)
    have hw0 := hb.size
    clear g2 kp hHeld
    refine hK.out _ _ m0 (fun hHeld => ?_)
    clear hK K hHeld hbw
    try simp only [Act.put, List.setIfInBounds_toArray, List.set_cons_zero, List.set_cons_succ]
    refine doneN (by kernel_rfl) ?_ _
    refine ⟨rfl, ?_⟩
    gi_wp2
    refine with_act (fun A hA => ?_)
    refine wpIn_rangeFunc_ownH rfl (by omega) (gf := 52) (lb := lb) (by rw [hA]; rfl) trivial (enters_of Try.func52 (by kernel_rfl) rfl) (hseq 8 (by omega)) Kq.t (Kq.b (by omega) (Nat.le_refl _)) (Below.refl _ _) (fun _ => rfl)
      (fun pre W => Boxed W w1.heap.size 3 (.int .i64 (fdl 0 (pre.map (·.1)))) ∧ (Gs (fun j => j = w1.heap.size) w3 W ∧ Below w.heap.size w W))
      (fun _ _ _ => False)
      (OwnFrom.and (Own.from (boxed_own _ _ (fun pre : List (Zn (tF F t4 t6)) => Value.int .i64 (fdl 0 (pre.map (·.1))))) _) (OwnFrom.and (ownFrom_gs (Nat.le_refl _)) (ownFrom_below (Nat.le_refl _) (by omega))))
      (fun _ _ _ _ _ hs _ _ => hs)
      ⟨bL, Gs.refl _ _, B0⟩
      (fun x a' W => a' = { tmps := (A.tmps.setIfInBounds 18 (.pointer (some ⟨x.1.1, 0, none⟩))).setIfInBounds 7 (.pointer (some ⟨x.1.1, 0, none⟩)), defers := [] })
      (fun x a' _ X Y row hs hg hr => hs)
      ?assign ?body ?done ?stop
    case assign =>
      subst hA
      rintro lp pre x W K hi hK
      gi_wp2
      refine hK _ _ (KeepsFrom.refl _ _) (Kq.refl _ _ _ _) hi ?_
      simp only [List.setIfInBounds_toArray, List.set_cons_zero, List.set_cons_succ]
    case body =>
      subst hA
      rintro lp pre x a' W hlp _ ⟨bL, G1, Bw⟩ ha hlt
      have hsz1 := G1.1
      simp only [List.setIfInBounds_toArray, List.set_cons_zero, List.set_cons_succ] at ha
      subst ha
      obtain ⟨lv, rv, mn⟩ := HT.out.mem x.1 x.2
      have hml := mn.lt
      replace mn := mn.at ((G1.2 _ (by omega) (by omega)).trans (hb3.block _ mn.lt))
      obtain ⟨⟨zb, z⟩, hz⟩ := x
      simp only at mn hml
      have HE : Hid (fdl 0 ((pre ++ [(⟨(zb, z), hz⟩ : Zn (tF F t4 t6))]).map (·.1)) = if z.K = 0 then fdl 0 (pre.map (·.1)) else z.K) := by
        show _ = _
        rw [List.map_append]
        exact fdl_snoc _ _ _
      have hNR := Nr.boxed bL (by decide)
      generalize fdl 0 (pre.map (·.1)) = s at *
      obtain ⟨V, HV⟩ : ∃ V, Hid ((if z.K = 0 then s else z.K) = V) := ⟨_, rfl⟩
      rw [HV.out] at HE
      gi_wp2
      refine held_r (S := fun wx => Nm wx zb z lv rv) hmx ?hq (by simp) mn.drew (fun hHeld => ?_)
      case hq => rintro ⟨_, _, hh⟩; exact hh
      change wpAnyH _ _ _ _ _ _ _ _ W.drew
      replace hHeld : Nm W.drew zb z lv rv := hHeld
      have Gd : Gs (fun j => j = w1.heap.size) W W.drew := (Gs.refl _ W).below ⟨rfl, rfl, rfl, Nat.le_refl _, fun _ _ => rfl⟩
      replace mn := mn.drew
      replace Bw := bel_drew1 Bw
      have hsW := Bw.size
      replace bL : Boxed W.drew w1.heap.size 3 (.int .i64 s) := bL
      generalize W.drew = wd at *
      refine take_to8 0 19 (.pointer (some ⟨zb, 0, none⟩)) rfl rfl (by kernel_rfl) (by kernel_rfl) (by kernel_rfl) (fun _ _ _ h => h) (Or.inl ⟨by kernel_rfl, fun w' h => ?_⟩) hHeld ?_
      · go_simp
      try simp only [List.setIfInBounds_toArray, List.set_cons_zero, List.set_cons_succ]
      refine take_to8 1 20 (.pointer (some ⟨zb, 0, none⟩)) rfl rfl (by kernel_rfl) (by kernel_rfl) (by kernel_rfl) (fun _ _ _ h => h) (Or.inl ⟨by kernel_rfl, fun w' h => ?_⟩) hHeld ?_
      · go_simp
      try simp only [List.setIfInBounds_toArray, List.set_cons_zero, List.set_cons_succ]
      refine take_to8 2 21 (.pointer (some ⟨zb, 4, none⟩)) rfl rfl (by kernel_rfl) (by kernel_rfl) (by kernel_rfl) (fun _ _ _ h => h) (Or.inl ⟨by kernel_rfl, fun w' h => ?_⟩) hHeld ?_
      · go_simp
      try simp only [List.setIfInBounds_toArray, List.set_cons_zero, List.set_cons_succ]
      refine take_to8 3 22 (.int .i64 z.K) rfl rfl (by kernel_rfl) (by kernel_rfl) (by kernel_rfl) (fun _ _ _ h => h) (Or.inl ⟨by kernel_rfl, fun w' h => ?_⟩) hHeld ?_
      · have y0 := Nm.c4 h
        go_simp
      try simp only [List.setIfInBounds_toArray, List.set_cons_zero, List.set_cons_succ]
      refine wpAnyH_ready (rs := [4]) (by kernel_rfl) (by simp) ?_
      refine AllReadyH.cons rfl (fun K hK => ?_) AllReadyH.nil
      rw [if_pos (by rfl)]
      have cL := bL.cell
      go_wp2_with fail
      refine hK.out _ _ mn (fun hHeld => ?_)
      clear hK K cL
      try simp only [Act.put, List.setIfInBounds_toArray, List.set_cons_zero, List.set_cons_succ]
      refine wpAnyH_ready (rs := [5]) (by kernel_rfl) (by simp) ?_
      refine AllReadyH.cons rfl (fun K hK => ?_) AllReadyH.nil
      rw [if_pos (by rfl)]
      go_wp2_with fail
      have k0 : (wd.alloc (.cells #[.int .i64 z.K, .int .i64 s] 3)).cell? ⟨wd.heap.size, 0, none⟩ = some (.int .i64 z.K) := (cell_of_row _ _ 0 _ _ (0, 0) (heap_alloc_new _ _)).trans rfl
      have k1 : (wd.alloc (.cells #[.int .i64 z.K, .int .i64 s] 3)).cell? ⟨wd.heap.size, 1, none⟩ = some (.int .i64 s) := (cell_of_row _ _ 1 _ _ (0, 0) (heap_alloc_new _ _)).trans rfl
      replace mn := mn.alloc (.cells #[.int .i64 z.K, .int .i64 s] 3)
      replace bL := bL.alloc (.cells #[.int .i64 z.K, .int .i64 s] 3)
      replace Gd := Gd.alloc (.cells #[.int .i64 z.K, .int .i64 s] 3)
      replace Bw := Bw.alloc hsW (.cells #[.int .i64 z.K, .int .i64 s] 3)
      refine hK.out _ _ mn (fun hHeld => ?_)
      clear hK K
      try simp only [Act.put, List.setIfInBounds_toArray, List.set_cons_zero, List.set_cons_succ]
      generalize wd.heap.size = g at *
      generalize wd.alloc (.cells #[.int .i64 z.K, .int .i64 s] 3) = we at *
      refine wpAnyH_ready (rs := [6]) (by kernel_rfl) (by simp) ?_
      refine AllReadyH.cons rfl (fun K hK => ?_) AllReadyH.nil
      rw [if_pos (by rfl)]
      go_wp2_with fail
      have ko := or_ g z.K s we k0 k1
      rw [HV.out] at ko
      refine ko.mono ?_
      rintro e w9 ⟨rfl, rfl⟩
      refine hK.out _ _ mn (fun hHeld => ?_)
      clear hK K
      try simp only [Act.put, List.setIfInBounds_toArray, List.set_cons_zero, List.set_cons_succ]
      refine wpAnyH_ready (rs := [7]) (by kernel_rfl) (by simp) ?_
      refine AllReadyH.cons rfl (fun K hK => ?_) AllReadyH.nil
      rw [if_pos (by rfl)]
      have cL := bL.cell
      have fL := bL.frozen
      go_wp2_with fail
      replace mn := mn.other (g := w1.heap.size) (by omega) 0 (.int .i64 V)
      replace bL := bL.set (.int .i64 V)
      replace Gd := Gs.set (M := fun j => j = w1.heap.size) Gd (.inl rfl) (.int .i64 V)
      replace Bw := Bw.setCell (p := ⟨w1.heap.size, 0, none⟩) (Nat.le_of_lt hwl) (.int .i64 V)
      refine hK.out _ _ mn (fun hHeld => ?_)
      clear hK K cL fL
      try simp only [Act.put, List.setIfInBounds_toArray, List.set_cons_zero, List.set_cons_succ]
      refine wpAnyH_done (by kernel_rfl) ?_ _
      gi_wp2
      refine ⟨Gd.keeps (fun j h => by omega), Gd.kq (fun j h => by omega) (by omega) hsz1 (fun j h => by subst h; exact hNR), by rw [HE.out]; exact bL, G1.trans Gd, Bw⟩
    case done =>
      subst hA
      rintro D ys W hD hys ⟨bR, G1, Bw⟩ hK
      rw [hys, HR.out] at bR
      gi_wp2
      refine only8 ?_
      refine regionN (S := fun wx => Boxed wx w1.heap.size 3 (.int .i64 R)) hmx bR (fun hHeld => ?_)
      change anyN _ _ _ _ _ _ _ _ _ _ W.drew
      replace hHeld : Boxed W.drew w1.heap.size 3 (.int .i64 R) := hHeld
      replace hK : W.drew.heap[D]? = some (.deferred (some [])) := hK
      replace Bw := bel_drew1 Bw
      generalize W.drew = wz at *
      refine takeN (i := 0) 26 (.int .i64 R) rfl rfl rfl (by kernel_rfl) (by kernel_rfl) (by kernel_rfl) (fun _ _ _ h => by cases h.1) (Or.inl ⟨by kernel_rfl, fun w' h => ?_⟩) (fun _ => rfl) hHeld ?_
      · have y0 := Boxed.cell h
        go_simp
      try simp only [List.setIfInBounds_toArray, List.set_cons_zero, List.set_cons_succ]
      refine takeN (i := 1) 27 (.int .i64 R) rfl rfl rfl (by kernel_rfl) (by kernel_rfl) (by kernel_rfl) (fun _ _ _ h => by cases h.1) (Or.inl ⟨by kernel_rfl, fun w' h => ?_⟩) (fun _ => rfl) hHeld ?_
      · have y0 := Boxed.cell h
        go_simp
      try simp only [List.setIfInBounds_toArray, List.set_cons_zero, List.set_cons_succ]
      refine takeN (i := 2) 28 (.bool (R != 0)) rfl rfl rfl (by kernel_rfl) (by kernel_rfl) (by kernel_rfl) (fun _ _ _ h => by cases h.1) (Or.inl ⟨by kernel_rfl, fun w' h => ?_⟩) (fun _ => rfl) hHeld ?_
      · go_simp
      try simp only [List.setIfInBounds_toArray, List.set_cons_zero, List.set_cons_succ]
      refine takeN (i := 3) 4 (.int .i64 R) rfl rfl rfl (by kernel_rfl) (by kernel_rfl) (by kernel_rfl) (fun _ _ _ h => by cases h.1) (Or.inl ⟨by kernel_rfl, fun w' h => ?_⟩) (fun _ => rfl) hHeld ?_
      · go_simp
      try simp only [List.setIfInBounds_toArray, List.set_cons_zero, List.set_cons_succ]
      refine takeN (i := 4) 5 (.bool (R != 0)) rfl rfl rfl (by kernel_rfl) (by kernel_rfl) (by kernel_rfl) (fun _ _ _ h => by cases h.1) (Or.inl ⟨by kernel_rfl, fun w' h => ?_⟩) (fun _ => rfl) hHeld ?_
      · go_simp
      try simp only [List.setIfInBounds_toArray, List.set_cons_zero, List.set_cons_succ]
      refine doneN (by kernel_rfl) ?_ _
      refine ⟨rfl, ?_⟩
      gi_wp2
      refine ⟨by simp, .inl ⟨_, _, rfl, run_takeDeferred hK, ?_⟩⟩
      exact ⟨_, results_tmp2 rfl _ _ _, rfl, Bw.trans (belowK_b (w := w) (Nat.le_refl _) _ D _ _ (by omega) hK rfl rfl)⟩
    case stop =>
      rintro D c pre W _ _ h _
      exact h.elim
end Go.Proofs.Ytcaecfdeieoenaa
