import Derived.Test.YtcaecfdeieoenaaTE
namespace Go.Proofs.Ytcaecfdeieoenaa
set_option maxRecDepth 100000
open Go.RowKit Go.Shelf
set_option linter.unusedVariables false
attribute [local go_sem] Oper.semAt_some

/-- Nodes in order are the list. -/
theorem ord_eq {zs ys : List (Nat × Wy)} {l : List Wy} (hl : Tl l) (hp : ys.Perm zs) (hs : ys.Pairwise (fun a b => ¬ b.2.cm a.2 < 0)) (hd : zs.Pairwise (fun a b => a.2.sm b.2 = false)) (hm : ∀ y, y ∈ l ↔ ∃ z ∈ zs, z.2 = y) : ys.map (·.2) = l := by
  refine srt_ext _ _ ?_ hl.1 (fun y => ?_)
  · unfold Srt
    rw [List.pairwise_map]
    have hd' : ys.Pairwise (fun a b => a.2.sm b.2 = false) := (hp.pairwise_iff (fun {a b} h => by rw [sm_comm]; exact h)).2 hd
    refine List.Pairwise.imp (R := fun a b => ¬ b.2.cm a.2 < 0 ∧ a.2.sm b.2 = false) (fun {a b} h => ?_) (List.Pairwise.and hs hd')
    rcases cm_tri a.2 b.2 with h1 | h1 | h1
    · exact h1
    · rw [h.2] at h1
      cases h1
    · exact absurd h1 h.1
  · rw [hm, List.mem_map]
    constructor
    · rintro ⟨z, hz, e⟩
      exact ⟨z, hp.mem_iff.1 hz, e⟩
    · rintro ⟨z, hz, e⟩
      exact ⟨z, hp.mem_iff.2 hz, e⟩
theorem ord_len {zs : List (Nat × Wy)} {l : List Wy} (hl : Tl l) (hd : zs.Pairwise (fun a b => a.2.sm b.2 = false)) (hm : ∀ y, y ∈ l ↔ ∃ z ∈ zs, z.2 = y) : zs.length = l.length := by
  have h := ord_eq (ys := zs.mergeSort (fun a b => !decide (b.2.cm a.2 < 0))) hl (List.mergeSort_perm _ _) ?_ hd hm
  · have := congrArg List.length h
    rw [List.length_map, List.length_mergeSort] at this
    exact this
  · refine List.Pairwise.imp (fun {a b} h => ?_) (List.pairwise_mergeSort (le := fun a b : Nat × Wy => !decide (b.2.cm a.2 < 0)) (fun a b c h1 h2 => ?_) (fun a b => ?_) zs)
    · simpa using h
    · simp only [Bool.not_eq_true', decide_eq_false_iff_not] at h1 h2 ⊢
      rw [cm_lt] at *
      omega
    · simp only [Bool.or_eq_true, Bool.not_eq_true', decide_eq_false_iff_not]
      rw [cm_lt, cm_lt]
      omega
theorem zs_pw {t4 t6 : Tn} (h4 : Wf 4 t4) (h6 : Wf 6 t6) : (t4.gs ++ t6.gs).Pairwise (fun a b => a.2.sm b.2 = false) := by
  rw [List.pairwise_append]
  refine ⟨gs_pw h4, gs_pw h6, fun a ha b hb => Bool.eq_false_iff.2 (fun e => ?_)⟩
  have h1 := (wf_nk h4 a ((gs_mem a t4).1 ha).1).2.2.2
  have h2 := (wf_nk h6 b ((gs_mem b t6).1 hb).1).2.2.2
  have h3 := ((sm_iff a.2 b.2).1 e).1
  omega
theorem zs_mem {t4 t6 : Tn} {l : List Wy} (hm : ∀ y, y ∈ l ↔ y ∈ t4.ws ∨ y ∈ t6.ws) (y : Wy) : y ∈ l ↔ ∃ z ∈ t4.gs ++ t6.gs, z.2 = y := by
  rw [hm]
  unfold Tn.ws
  simp only [List.mem_map, List.mem_append]
  constructor
  · rintro (⟨z, hz, e⟩ | ⟨z, hz, e⟩)
    · exact ⟨z, .inl hz, e⟩
    · exact ⟨z, .inr hz, e⟩
  · rintro ⟨z, hz | hz, e⟩
    · exact .inl ⟨z, hz, e⟩
    · exact .inr ⟨z, hz, e⟩
/-- The rest of All's walk holds to this. -/
def Alw (g n0 a b : Nat) (ys : List (Nat × Wy)) (W : World) : Prop := (∃ cur, W.heap[g]? = some (.cells cur 73 (0, 0)) ∧ ∀ (j : Nat) (z : Nat × Wy), ys[j]? = some z → cur[j]? = some (Value.pointer (some ⟨z.1, 0, none⟩))) ∧ ∀ z ∈ ys, ∃ l r, Nm W z.1 z.2 l r
theorem Alw.kept {g n0 a b : Nat} {ys : List (Nat × Wy)} {W W' : World} (h : Alw g n0 a b ys W) (hb : Below W.heap.size W W') : Alw g n0 a b ys W' := by
  obtain ⟨⟨cur, h1, h2⟩, h3⟩ := h
  refine ⟨⟨cur, (hb.block _ (Array.getElem?_eq_some_iff.1 h1).1).trans h1, h2⟩, fun z hz => ?_⟩
  obtain ⟨l, r, h⟩ := h3 z hz
  exact ⟨l, r, h.kept hb⟩
theorem Alw.kq {g n0 a b : Nat} {ys : List (Nat × Wy)} {W W' : World} (h : Alw g n0 a b ys W) (hk : Kq n0 a b W W') (hn : ∀ z ∈ ys, z.1 < n0) : Alw g n0 a b ys W' := by
  obtain ⟨⟨cur, h1, h2⟩, h3⟩ := h
  refine ⟨⟨cur, (hk.2.2 g (fun hh => hh cur _ h1)).trans h1, h2⟩, fun z hz => ?_⟩
  obtain ⟨l, r, h⟩ := h3 z hz
  exact ⟨l, r, h.at (hk.2.1 _ (.inl (hn z hz)))⟩
set_option maxHeartbeats 8000000 in
theorem all1_ (n : Nat) (hn : 1 ≤ n) (lp n0 a b bt k : Nat) (t4 t6 : Tn) (l : List Wy) (xs : List Wi) (hx : xs.map (·.1) = l) (hl : Tl l) (hlen : l.length ≤ 99999) (hw4 : Wf 4 t4) (hw6 : Wf 6 t6) (hm : ∀ y, y ∈ l ↔ y ∈ t4.ws ∨ y ∈ t6.ws)
    (h4 : ∀ z ∈ t4.gs ++ t6.gs, z.1 < n0) (J Jx : List Wi → World → Prop) (hJ : ∀ pre W W', J pre W → Below W.heap.size W W' → J pre W')
    (hY : ∀ pre x W, J pre W → pre.length < xs.length → YieldAt Fence.wide (n - 1) Try.prog lp #[x.1.px, .int .i64 x.1.K] W fun e W' =>
      (e = .returned (.bool true) ∧ J (pre ++ [x]) W' ∧ Kq n0 a b W W') ∨ (e = .returned (.bool false) ∧ Jx (pre ++ [x]) W'))
    (W : World) (h0 : J [] W) (ht : W.heap[bt]? = some (.cells #[.pointer (some ⟨k, 0, none⟩)] 40 (0, 0))) (hT : Tbm W k t4 t6) :
    CallsIn Fence.wide n Try.prog 27 #[.func (.yield lp) #[] #[], .pointer (some ⟨bt, 0, none⟩)] W fun e W' => (∃ v, e = .returned v) ∧
      ((∃ ys, ys = xs ∧ J ys W') ∨ (∃ pre, pre <+: xs ∧ Jx pre W')) := by
  have hmx : Try.prog.follows .mixedOrders = true := by kernel_rfl
  have hlz := ord_len hl (zs_pw hw4 hw6) (zs_mem hm)
  rw [List.length_append] at hlz
  have k4 := gather_ W t4 hT.2.1 W none 0 0 [] (Below.refl _ _) (W.ownsRow_nil _ _ 1) (by omega)
  have k6 := fun w a c n xs => gather_ W t6 hT.2.2 w a c n xs
  obtain ⟨p4, hp4⟩ := t4.vp
  obtain ⟨p6, hp6⟩ := t6.vp
  have ct : W.cell? ⟨bt, 0, none⟩ = some (.pointer (some ⟨k, 0, none⟩)) := (cell_of_row _ _ 0 _ _ (0, 0) ht).trans rfl
  have c0 : W.cell? ⟨k, 0, none⟩ = some (.pointer p4) := (cell_of_row _ _ 0 _ _ (0, 0) hT.1).trans (by rw [hp4]; rfl)
  have c1 : W.cell? ⟨k, 1, none⟩ = some (.pointer p6) := (cell_of_row _ _ 1 _ _ (0, 0) hT.1).trans (by rw [hp6]; rfl)
  rw [hp4] at k4
  simp only [Nat.zero_add, List.nil_append] at k4
  rw [hp6] at k6
  have HJ := hid hJ
  have HY := hid hY
  have HX := hid hx
  have HL := hid hl
  have HW4 := hid hw4
  have HW6 := hid hw6
  have HM := hid hm
  have H4 := hid h4
  have HTB := hid hT
  have HJ0 := hid h0
  have HLZ := hid hlz
  have ik0 := fun w => (run_ixk p4 p6 w).1
  have ik1 := fun w => (run_ixk p4 p6 w).2
  clear hJ hY hx hl hw4 hw6 hm h4 hT h0 hp4 hp6 hlz
  refine callsIn_of_wp Try.func27 rfl trivial ?_ rfl
  simp only [Try.ntmps27, List.size_toArray, List.length_cons, List.length_nil, Nat.reduceAdd, Nat.reduceSub, Array.replicate_succ, Array.replicate_zero, List.push_toArray, List.append_toArray, List.nil_append, List.cons_append]
  gi_wp2
  refine wpIn_loop_rounds 3 ?_
  rw [roundsIn_succ]
  gi_wp2_with (refine ⟨trivial, ?_⟩; gi_at_call 28; refine (callsIn_wide.2 k4).mono ?_; clear k4; rintro e w1 ⟨⟨a1, c1', rfl, hr1⟩, hb1⟩)
  try rw [roundsIn_succ]
  gi_wp2_with (refine ⟨trivial, ?_⟩; gi_at_call 28; refine (callsIn_wide.2 (k6 w1 a1 c1' _ _ hb1 hr1 (by have := HLZ.out; omega))).mono ?_; clear k6; rintro e w2 ⟨⟨a2, c2', rfl, hr2⟩, hb2⟩)
  clear hr1 hb1
  try rw [roundsIn_succ]
  have HZS : Hid (pv t4.gs ++ pv t6.gs = pv (t4.gs ++ t6.gs)) := by
    show _ = _
    unfold pv
    rw [List.map_append]
  rw [HZS.out] at hr2
  obtain ⟨N, HN⟩ : ∃ N, Hid (t4.gs.length + t6.gs.length = N) := ⟨_, rfl⟩
  have HNL : Hid (N = l.length) := by
    show _ = _
    rw [← HN.out, ← HLZ.out]
  simp only [HN.out] at hr2 ⊢
  obtain ⟨zs, HZ⟩ : ∃ zs, Hid (t4.gs ++ t6.gs = zs) := ⟨_, rfl⟩
  rw [HZ.out] at hr2
  have HZL : Hid (zs.length = N) := by
    show _ = _
    rw [← HZ.out, List.length_append, ← HN.out]
  have hN : N ≤ 99999 := by rw [HNL.out]; exact hlen
  clear HZS
  by_cases h00 : N = 0
  · have kn := fun w => AnyF.slices_SortFunc_none (P := Try.prog) (ρ := Try.sortL_ren) { Try.sortL with } a2 c2' (.func (.func 30) #[] #[]) w
    change ∀ w, Calls Try.prog 29 _ _ _ at kn
    have HXE : Hid (xs = []) := by
      have h1 := HNL.out
      rw [h00] at h1
      show _ = _
      have h2 := congrArg List.length HX.out
      rw [List.length_map] at h2
      exact List.eq_nil_of_length_eq_zero (by omega)
    subst h00
    gi_wp2_with (refine ⟨trivial, ?_⟩; gi_at_call 29; refine (callsIn_wide.2 (kn _)).mono ?_; rintro e w3 ⟨rfl, rfl⟩)
    refine wpIn_loop_rounds 1 ?_
    rw [roundsIn_succ]
    gi_wp2
    go_end0
    first
      | exact ⟨⟨_, rfl⟩, .inl ⟨[], HXE.out.symm, HJ.out [] W _ HJ0.out hb2⟩⟩
      | exact ⟨⟨_, rfl⟩, .inl (by rw [HXE.out]; exact HJ.out [] W _ HJ0.out hb2)⟩
  · obtain ⟨g, cap, cur, hv, hgb, hg, _, _, _, hcu⟩ : ∃ g cap cur, Value.slice a2 N c2' = .slice (some ⟨g, 0, none⟩) N cap ∧ W.heap.size ≤ g ∧ w2.heap[g]? = some (.cells cur 73 (0, 0)) ∧ True ∧ True ∧ True ∧ cur.toList.take N = pv zs := by
      rcases hr2.2 with ⟨_, h0⟩ | ⟨g, cap, cur, e, hb, hg, h1, h2, h3, h4⟩
      · exact absurd h0 h00
      · exact ⟨g, cap, cur, e, hb, hg, trivial, trivial, trivial, by simpa using h4⟩
    obtain ⟨rfl, rfl⟩ : a2 = some ⟨g, 0, none⟩ ∧ c2' = cap := by
      injection hv with h1 _ h2
      exact ⟨h1, h2⟩
    have hc : ∀ (j : Nat) (z : Nat × Wy), zs[j]? = some z → cur[j]? = some (Value.pointer (some ⟨z.1, 0, none⟩)) := fun j z hz => by
      have hj : j < N := by
        rw [← HZL.out]
        exact (List.getElem?_eq_some_iff.1 hz).1
      have e1 : (pv zs)[j]? = some (Value.pointer (some ⟨z.1, 0, none⟩)) := by
        unfold pv
        rw [List.getElem?_map, hz]
        rfl
      rw [← hcu, List.getElem?_take, if_pos hj] at e1
      simpa using e1
    have hgl := (Array.getElem?_eq_some_iff.1 hg).1
    have hnm : ∀ z ∈ zs, ∃ l r, Nm w2 z.1 z.2 l r := fun z hz => by
      rw [← HZ.out, List.mem_append] at hz
      rcases hz with hz | hz
      · obtain ⟨l, r, h⟩ := HTB.out.2.1.mem z ((gs_mem z t4).1 hz).1
        exact ⟨l, r, h.at (hb2.block _ h.lt)⟩
      · obtain ⟨l, r, h⟩ := HTB.out.2.2.mem z ((gs_mem z t6).1 hz).1
        exact ⟨l, r, h.at (hb2.block _ h.lt)⟩
    have hin : ∀ z ∈ zs, z.2.In := fun z hz => by
      rw [← HZ.out, List.mem_append] at hz
      rcases hz with hz | hz
      · exact (wf_nk HW4.out z ((gs_mem z t4).1 hz).1).1
      · exact (wf_nk HW6.out z ((gs_mem z t6).1 hz).1).1
    have hlt0 : ∀ z ∈ zs, z.1 < n0 := fun z hz => H4.out z (by rw [HZ.out]; exact hz)
    have hltW : ∀ z ∈ zs, z.1 < W.heap.size := fun z hz => by
      rw [← HZ.out, List.mem_append] at hz
      rcases hz with hz | hz
      · exact HTB.out.2.1.lt z ((gs_mem z t4).1 hz).1
      · exact HTB.out.2.2.lt z ((gs_mem z t6).1 hz).1
    have ks := sort_ w2 zs (fun e => h00 (by rw [← HZL.out, e]; rfl)) g c2' cur hg hc hnm hin (by rw [HZL.out]; omega)
    rw [HZL.out] at ks
    have HLT := hid hlt0
    have HLW := hid hltW
    have HNM := hid hnm
    clear hc hcu hr2 hv hnm hin hlt0 hltW hg
    gi_wp2_with (refine ⟨trivial, ?_⟩; gi_at_call 29; refine (callsIn_wide.2 ks).mono ?_; rintro e w3 ⟨rfl, ys, hperm, hsort, hcur, hgr⟩)
    clear ks
    have HYL : Hid (ys.map (·.2) = l) := by
      have h1 := zs_pw HW4.out HW6.out
      have h2 := zs_mem HM.out
      rw [HZ.out] at h1 h2
      exact ord_eq HL.out hperm (List.Pairwise.imp (fun {a b} h => by omega) hsort) h1 h2
    have hb3 : Below W.heap.size W w3 := hb2.grown hgr hb2.size (fun j e => by cases e; exact hgb)
    have A0 : Alw g n0 a b ys w3 := ⟨hcur, fun z hz => by
      obtain ⟨l, r, h⟩ := HNM.out z (hperm.mem_iff.1 hz)
      have hne : z.1 ≠ g := by have := HLW.out z (hperm.mem_iff.1 hz); omega
      exact ⟨l, r, h.at (hgr.block _ h.lt (fun e => by cases e; exact hne rfl))⟩⟩
    have HLY : Hid (∀ z ∈ ys, z.1 < n0) := fun z hz => HLT.out z (hperm.mem_iff.1 hz)
    have J3 := HJ.out [] W w3 HJ0.out hb3
    have HA0 := hid A0
    have HJ3 := hid J3
    have HXN : Hid (xs.length = N) := by
      show _ = _
      have := congrArg List.length HX.out
      rw [List.length_map] at this
      rw [this, HNL.out]
    clear hperm hsort hcur hgr hb3 hb2 A0 J3
    gi_loopw [7, 23] (fun _ i wr => ∃ j : Nat, j ≤ N ∧ i = .int .i64 j ∧ Alw g n0 a b ys wr ∧ J (xs.take j) wr) (fun _ i _ => N - (intOf i).toNat)
    case atStart =>
      exact ⟨0, Nat.zero_le _, rfl, HA0.out, by rw [List.take_zero]; exact HJ3.out⟩
    case round =>
      clear HA0 HJ3
      obtain ⟨j, hj, rfl, hA, hJs⟩ := hrel
      have HJS := hid hJs
      have HA := hid hA
      clear hJs hA
      by_cases hlt : j < N
      · have hI : (j : Int) < (N : Int) := by omega
        obtain ⟨⟨zb, z⟩, hzz⟩ : ∃ z, ys[j]? = some z := ⟨_, List.getElem?_eq_getElem (by have h1 := congrArg List.length HYL.out; rw [List.length_map] at h1; have := HNL.out; omega)⟩
        have hmem : (zb, z) ∈ ys := List.mem_of_getElem? hzz
        obtain ⟨cur3, hg3, hc3⟩ := HA.out.1
        obtain ⟨lv, rv, mn⟩ := HA.out.2 _ hmem
        simp only at mn
        have cj : wr.cell? ⟨g, j, none⟩ = some (.pointer (some ⟨zb, 0, none⟩)) := (cell_of_row _ _ j _ _ (0, 0) hg3).trans (hc3 j _ hzz)
        obtain ⟨x, hxx⟩ : ∃ x, xs[j]? = some x := ⟨_, List.getElem?_eq_getElem (by have := HXN.out; omega)⟩
        have HXZ : Hid (x.1 = z) := by
          show _ = _
          have h1 : l[j]? = some x.1 := by rw [← HX.out, List.getElem?_map, hxx]; rfl
          have h2 : l[j]? = some z := by rw [← HYL.out, List.getElem?_map, hzz]; rfl
          rw [h1] at h2
          exact Option.some.inj h2
        have HTK : Hid (xs.take (j + 1) = xs.take j ++ [x]) := by
          show _ = _
          rw [List.take_add_one, hxx]
          rfl
        have HXL : Hid (j < xs.length) := by
          show _ < _
          rw [HXN.out]
          exact hlt
        clear hzz hmem hg3 hc3 hxx
        gi_wp2
        refine regionN (S := fun _ => True) hmx trivial (fun hHeld => ?_)
        change anyN _ _ _ _ _ _ _ _ _ _ wr.drew
        have x0 := mn.drew.c0
        have x1 := mn.drew.c1
        have x2 := mn.drew.c2
        have x3 := mn.drew.c3
        have x4 := mn.drew.c4
        replace HA := hid (HA.out.kept (W' := wr.drew) ⟨rfl, rfl, rfl, Nat.le_refl _, fun _ _ => rfl⟩)
        replace HJS := hid (HJ.out _ wr wr.drew HJS.out ⟨rfl, rfl, rfl, Nat.le_refl _, fun _ _ => rfl⟩)
        clear cj mn
        generalize wr.drew = wd at *
        refine takeN (i := 0) 27 (.func (.yield lp) #[] #[]) rfl rfl rfl (by kernel_rfl) (by kernel_rfl) (by kernel_rfl) (fun _ _ _ h => h) (Or.inl ⟨by kernel_rfl, fun w' h => ?_⟩) (fun _ => rfl) hHeld ?_
        · go_simp
        try simp only [List.setIfInBounds_toArray, List.set_cons_zero, List.set_cons_succ]
        refine takeN (i := 1) 28 (.pointer (some ⟨zb, 0, none⟩)) rfl rfl rfl (by kernel_rfl) (by kernel_rfl) (by kernel_rfl) (fun _ _ _ h => h) (Or.inl ⟨by kernel_rfl, fun w' h => ?_⟩) (fun _ => rfl) hHeld ?_
        · go_simp
        try simp only [List.setIfInBounds_toArray, List.set_cons_zero, List.set_cons_succ]
        refine takeN (i := 2) 29 (.pointer (some ⟨zb, 0, none⟩)) rfl rfl rfl (by kernel_rfl) (by kernel_rfl) (by kernel_rfl) (fun _ _ _ h => h) (Or.inl ⟨by kernel_rfl, fun w' h => ?_⟩) (fun _ => rfl) hHeld ?_
        · go_simp
        try simp only [List.setIfInBounds_toArray, List.set_cons_zero, List.set_cons_succ]
        refine takeN (i := 3) 30 (.pointer (some ⟨zb, 0, none⟩)) rfl rfl rfl (by kernel_rfl) (by kernel_rfl) (by kernel_rfl) (fun _ _ _ h => h) (Or.inl ⟨by kernel_rfl, fun w' h => ?_⟩) (fun _ => rfl) hHeld ?_
        · go_simp
        try simp only [List.setIfInBounds_toArray, List.set_cons_zero, List.set_cons_succ]
        refine takeN (i := 5) 32 (.pointer (some ⟨zb, 0, none⟩)) rfl rfl rfl (by kernel_rfl) (by kernel_rfl) (by kernel_rfl) (fun _ _ _ h => h) (Or.inl ⟨by kernel_rfl, fun w' h => ?_⟩) (fun _ => rfl) hHeld ?_
        · go_simp
        try simp only [List.setIfInBounds_toArray, List.set_cons_zero, List.set_cons_succ]
        refine takeN (i := 6) 33 (.pointer (some ⟨zb, 0, none⟩)) rfl rfl rfl (by kernel_rfl) (by kernel_rfl) (by kernel_rfl) (fun _ _ _ h => h) (Or.inl ⟨by kernel_rfl, fun w' h => ?_⟩) (fun _ => rfl) hHeld ?_
        · go_simp
        try simp only [List.setIfInBounds_toArray, List.set_cons_zero, List.set_cons_succ]
        refine takeN (i := 7) 34 (.pointer (some ⟨zb, 4, none⟩)) rfl rfl rfl (by kernel_rfl) (by kernel_rfl) (by kernel_rfl) (fun _ _ _ h => h) (Or.inl ⟨by kernel_rfl, fun w' h => ?_⟩) (fun _ => rfl) hHeld ?_
        · go_simp
        try simp only [List.setIfInBounds_toArray, List.set_cons_zero, List.set_cons_succ]
        refine readsN (i := 4) (j := 8) 31 35 (.agg #[.int .i64 z.F, .int .u64 z.H, .int .u64 z.L, .int .i64 z.B]) (.int .i64 z.K) rfl rfl rfl rfl rfl (by decide) (by decide) (by kernel_rfl) (by kernel_rfl) (by kernel_rfl) (Or.inl ⟨by kernel_rfl, fun w' h => ?_⟩) (Or.inl ⟨by kernel_rfl, fun w' h => ?_⟩) (Or.inl ⟨by kernel_rfl, fun w' h => ?_⟩) (Or.inl ⟨by kernel_rfl, fun w' h => ?_⟩) (fun _ _ => rfl) (fun _ _ => rfl) hHeld ?_
        · rw [h]
          go_simp
        · rw [h]
          go_simp
        · rw [h]
          go_simp
        · rw [h]
          go_simp
        try simp only [List.setIfInBounds_toArray, List.set_cons_zero, List.set_cons_succ]
        refine nextN (i := 9) (by kernel_rfl) rfl (fun K hK => ?_)
        rw [if_pos (by kernel_rfl)]
        obtain ⟨fn, tmps, assign, body, hy', hR⟩ := HY.out (xs.take j) x wd HJS.out (by rw [List.length_take]; have := HXL.out; omega)
        rw [HXZ.out] at hy'
        unfold Wy.px at hy'
        clear x0 x1 x2 x3 x4
        gi_wp2
        refine hR.mono ?_
        rintro e W3 (⟨rfl, hJ3, hk3⟩ | ⟨rfl, hJx3⟩)
        · clear hy' hR
          rw [← HTK.out] at hJ3
          have HJ3 := hid hJ3
          replace HA := hid (HA.out.kq hk3 HLY.out)
          clear hJ3 hk3
          refine hK.out _ _ trivial (fun hHeld => ?_)
          clear hK K
          try simp only [Act.put, List.setIfInBounds_toArray, List.set_cons_zero, List.set_cons_succ]
          refine takeN (i := 10) 37 (.bool false) rfl rfl rfl (by kernel_rfl) (by kernel_rfl) (by kernel_rfl) (fun _ _ _ h => h) (Or.inl ⟨by kernel_rfl, fun w' h => ?_⟩) (fun _ => rfl) hHeld ?_
          · go_simp
          try simp only [List.setIfInBounds_toArray, List.set_cons_zero, List.set_cons_succ]
          refine doneN (by kernel_rfl) ?_ _
          clear hHeld
          gi_wp2
          go_roundw
          case rel =>
            exact ⟨j + 1, by omega, by go_num, HA.out, HJ3.out⟩
          case measure =>
            simp [intOf]
            omega
        · clear hy' hR
          rw [← HTK.out] at hJx3
          have HJX := hid hJx3
          clear hJx3
          refine hK.out _ _ trivial (fun hHeld => ?_)
          clear hK K
          try simp only [Act.put, List.setIfInBounds_toArray, List.set_cons_zero, List.set_cons_succ]
          refine takeN (i := 10) 37 (.bool true) rfl rfl rfl (by kernel_rfl) (by kernel_rfl) (by kernel_rfl) (fun _ _ _ h => h) (Or.inl ⟨by kernel_rfl, fun w' h => ?_⟩) (fun _ => rfl) hHeld ?_
          · go_simp
          try simp only [List.setIfInBounds_toArray, List.set_cons_zero, List.set_cons_succ]
          refine doneN (by kernel_rfl) ?_ _
          clear hHeld
          gi_wp2
          (try simp only [Exit.inBlock, Exit.then]); refine bodyPost_ret (results_none rfl _ _ _) rfl ?_
          exact ⟨⟨_, rfl⟩, .inr ⟨_, List.take_prefix _ _, HJX.out⟩⟩
      · have hI : ¬ (j : Int) < (N : Int) := by omega
        have HXE : Hid (xs.take j = xs) := List.take_of_length_le (by have := HXN.out; omega)
        gi_wp2
        go_end0
        first
          | exact ⟨⟨_, rfl⟩, .inl ⟨_, HXE.out, HJS.out⟩⟩
          | exact ⟨⟨_, rfl⟩, .inl (by rw [← HXE.out]; exact HJS.out)⟩
end Go.Proofs.Ytcaecfdeieoenaa
