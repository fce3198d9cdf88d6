import Derived.Test.YtcaecfdeieoenaaT7
namespace Go.Proofs.Ytcaecfdeieoenaa
set_option maxRecDepth 100000
open Go.RowKit
set_option linter.unusedVariables false

theorem ndd_or (t l r : Tn) (K : Int) : ndd t l r K = t ∨ ndd t l r K = l ∨ ndd t l r K = r := by
  unfold ndd
  split
  · exact .inl rfl
  · split
    · exact .inr (.inr rfl)
    · split
      · exact .inr (.inl rfl)
      · exact .inl rfl
theorem Nd.ndd {w : World} {b : Nat} {x : Wy} {l r : Tn} (h : Nd w (.node b x l r)) : Nd w (Go.Proofs.Ytcaecfdeieoenaa.ndd (.node b x l r) l r x.K) := by
  rcases ndd_or (.node b x l r) l r x.K with e | e | e <;> rw [e]
  · exact h
  · exact h.2.1
  · exact h.2.2
theorem Frs.ndd {w : World} {t l r : Tn} {b : Nat} {x : Wy} (h : Frs w t (.node b x l r)) : Frs w t (Go.Proofs.Ytcaecfdeieoenaa.ndd (.node b x l r) l r x.K) := by
  have h' := nds_node.1 h
  rcases ndd_or (.node b x l r) l r x.K with e | e | e <;> rw [e]
  · exact h
  · exact h'.2.1
  · exact h'.2.2
/-- A region that reads a node and a prefix, beside a copy of the node. -/
def SWo (b g : Nat) (x p : Wy) (l r : Value) (w0 w : World) : Prop := Nm w b x l r ∧ Pm w w0.heap.size p.F p.H p.L p.B ∧ Nm w g x l r ∧ Below w0.heap.size w0 w
theorem SWo.kept {b g : Nat} {x p : Wy} {l r : Value} {w0 w w' : World} (h : SWo b g x p l r w0 w) (hb : Below w.heap.size w w') : SWo b g x p l r w0 w' := ⟨h.1.kept hb, h.2.1.kept hb, h.2.2.1.kept hb, bel_bel h.2.2.2 h.2.2.2.size hb⟩
theorem SWo.drew {b g : Nat} {x p : Wy} {l r : Value} {w0 w : World} (h : SWo b g x p l r w0 w) : SWo b g x p l r w0 { w with drawn := w.drawn + 1 } := h.kept ⟨rfl, rfl, rfl, Nat.le_refl _, fun _ _ => rfl⟩
set_option maxHeartbeats 8000000 in
theorem without_ (p : Wy) (hpk : Nk p.F p) : ∀ (t : Tn), Wf p.F t → (∃ y ∈ t.ws, y.sm p = true) → ∀ (w : World), Nd w t → Calls Try.prog 44 #[t.v, p.px] w fun e w' => (∃ t', e = .returned t'.v ∧ Nd w' t' ∧ Wout p.F p t t' ∧ Frs w t t') ∧ Below w.heap.size w w'
  | .nil, _, h, w, _ => by
    obtain ⟨y, hy, _⟩ := h
    exact ((ws_nil y).1 hy).elim
  | .node b x l r, hwf, hin, w, hnd => by
    have kl := fun h1 w h2 => without_ p hpk l hwf.2.2.2.1 h1 w h2
    have kr := fun h1 w h2 => without_ p hpk r hwf.2.2.2.2 h1 w h2
    have m0 := (Pm.new w p.F p.H p.L p.B).alloc (.cells #[.int .i64 x.F, .int .u64 x.H, .int .u64 x.L, .int .i64 x.B, .int .i64 x.K, l.v, r.v] 81)
    have n0 := (hnd.1.alloc (.cells #[.int .i64 p.F, .int .u64 p.H, .int .u64 p.L, .int .i64 p.B] 32)).alloc (.cells #[.int .i64 x.F, .int .u64 x.H, .int .u64 x.L, .int .i64 x.B, .int .i64 x.K, l.v, r.v] 81)
    have mg := Nm.new (w.alloc (.cells #[.int .i64 p.F, .int .u64 p.H, .int .u64 p.L, .int .i64 p.B] 32)) x l.v r.v
    have n1 := hnd.1.alloc (.cells #[.int .i64 p.F, .int .u64 p.H, .int .u64 p.L, .int .i64 p.B] 32)
    rw [World.size_alloc] at mg
    have B0 := (pnew w p.F p.H p.L p.B).alloc (by simp) (.cells #[.int .i64 x.F, .int .u64 x.H, .int .u64 x.L, .int .i64 x.B, .int .i64 x.K, l.v, r.v] 81)
    have HND := hid hnd
    have HWF := hid hwf
    have HIN := hid hin
    have HPK := hid hpk
    have KL := hid kl
    have KR := hid kr
    obtain ⟨lp, hlp⟩ := l.vp
    obtain ⟨rp, hrp⟩ := r.vp
    have HLP := hid hlp
    have HRP := hid hrp
    unfold Wy.px
    simp only [Tn.v]
    rw [hlp, hrp] at n0 mg m0 n1 B0
    clear hnd hwf hin kl kr hlp hrp
    obtain ⟨g, HG⟩ : ∃ g, Hid (w.heap.size + 1 = g) := ⟨_, rfl⟩
    have hg : w.heap.size < g := by have := HG.out; omega
    have e0 := n1.c0
    have e1 := n1.c1
    have e2 := n1.c2
    have e3 := n1.c3
    have e4 := n1.c4
    have e5 := n1.c5
    have e6 := n1.c6
    go_enter Try.func44, Try.ntmps44
    go_wp2_with fail
    clear e0 e1 e2 e3 e4 e5 e6 n1
    generalize (w.alloc (.cells #[.int .i64 p.F, .int .u64 p.H, .int .u64 p.L, .int .i64 p.B] 32)).alloc (.cells #[.int .i64 x.F, .int .u64 x.H, .int .u64 x.L, .int .i64 x.B, .int .i64 x.K, .pointer lp, .pointer rp] 81) = w1 at *
    simp only [HG.out] at mg ⊢
    have hbg : b ≠ g := by have := HND.out.1.lt; omega
    cases s1 : x.sm p with
    | true =>
      have e0 := n0.c0
      have e1 := n0.c1
      have e2 := n0.c2
      have e3 := n0.c3
      have f0 := m0.c0
      have f1 := m0.c1
      have f2 := m0.c2
      have f3 := m0.c3
      have q1 := fun w => eqp_sm x p w
      rw [s1] at q1
      go_quiet (fail)
      clear e0 e1 e2 e3 f0 f1 f2 f3
      replace mg : Nm (w1.drewN nq) g x (.pointer lp) (.pointer rp) := mg
      replace n0 : Nm (w1.drewN nq) b x (.pointer lp) (.pointer rp) := n0
      replace m0 : Pm (w1.drewN nq) w.heap.size p.F p.H p.L p.B := m0
      replace B0 : Below w.heap.size w (w1.drewN nq) := bel_drawn B0 nq
      generalize w1.drewN nq = wq at *
      clear q1
      have a4 := mg.c4
      have z4 := mg.fz 4
      have mk := mg.setK 0
      replace B0 := B0.setCell (p := ⟨g, 4, none⟩) (Nat.le_of_lt hg) (.int .i64 0)
      have hno : Nd (wq.setCell ⟨g, 4, none⟩ (.int .i64 0)) (.node g { x with K := 0 } l r) := ⟨by rw [HLP.out, HRP.out]; exact mk, HND.out.2.1.at (fun z hz => B0.block _ (HND.out.2.1.lt z hz)), HND.out.2.2.at (fun z hz => B0.block _ (HND.out.2.2.lt z hz))⟩
      have HN := hid hno
      have kd := needed_ g { x with K := 0 } l r _ hno.1
      clear hno mk
      go_wp2_with (go_at_call 58; refine kd.mono ?_; rintro e w9 ⟨rfl, rfl⟩)
      go_ret
      exact ⟨⟨_, rfl, HN.out.ndd, ndd_w (wout_same HWF.out s1 g), (Frs.node (Nat.le_of_lt hg) (Frs.l _ _ _ _ _) (Frs.r _ _ _ _ _)).ndd⟩, B0⟩
    | false =>
      rcases (has_side HWF.out s1 HIN.out).2 with ⟨u1, hin1⟩ | ⟨u1, hin1⟩
      · have e0 := n0.c0
        have e1 := n0.c1
        have e2 := n0.c2
        have e3 := n0.c3
        have f0 := m0.c0
        have f1 := m0.c1
        have f2 := m0.c2
        have f3 := m0.c3
        have q1 := fun w => eqp_sm x p w
        rw [s1] at q1
        go_quiet (fail)
        clear e0 e1 e2 e3 f0 f1 f2 f3
        replace mg : Nm (w1.drewN nq) g x (.pointer lp) (.pointer rp) := mg
        replace n0 : Nm (w1.drewN nq) b x (.pointer lp) (.pointer rp) := n0
        replace m0 : Pm (w1.drewN nq) w.heap.size p.F p.H p.L p.B := m0
        replace B0 : Below w.heap.size w (w1.drewN nq) := bel_drawn B0 nq
        generalize w1.drewN nq = wq at *
        clear q1
        have kb := fun w => bitw p.F p x.B w HPK.out ⟨HWF.out.1.b.1, by have h1 := u1.1; have h2 := HPK.out.b; omega⟩
        rw [und_bit u1 (.inl rfl)] at kb
        go_wp2_with fail
        refine wp_region_quiet (C := SWo b g x p (.pointer lp) (.pointer rp) w) (by kernel_rfl) (by kernel_rfl) (SWo.drew ⟨n0, m0, mg, B0⟩) ?_
        repeat
          refine wpQuiet_step (fun K hK => ?_)
          go_simp
          first
            | (refine hK _ ?_; clear hK K)
            | (apply Exists.intro
               refine ⟨fun wy hq => ?_, hK _ ?_⟩
               · first
                 | rfl
                 | (go_at_call 54; exact (kb _).mono fun _ _ h => ⟨h.1, hq.kept h.2⟩)
                 | (have y3 := Nm.c3 hq.1; have f0 := Pm.c0 hq.2.1; have f1 := Pm.c1 hq.2.1; have f2 := Pm.c2 hq.2.1; go_simp; rfl)
               clear hK K)
        refine wpQuiet_nil ?_
        rintro wz hq
        clear n0 m0 mg B0
        obtain ⟨n0, m0, mg, B0⟩ := hq
        go_wp2_with fail
        have kk := fun w h => KL.out hin1 w h
        rw [HLP.out] at kk
        unfold Wy.px at kk
        refine wp_region_held_drew (S := fun wx => Nm wx b x (.pointer lp) (.pointer rp) ∧ Pm wx w.heap.size p.F p.H p.L p.B) (by kernel_rfl) ⟨n0.drew, m0.drew⟩ (fun hHeld => ?_)
        replace mg := mg.drew
        replace n0 := n0.drew
        replace m0 := m0.drew
        replace B0 := bel_drew1 B0
        generalize wz.drew = wv at *
        refine take_to 0 25 (.int .i64 0) rfl rfl (by kernel_rfl) (by kernel_rfl) (by kernel_rfl) (fun _ _ _ h => h) (Or.inl ⟨by rfl, fun w' h => ?_⟩) hHeld ?_
        · go_simp
        try simp only [List.setIfInBounds_toArray, List.set_cons_zero, List.set_cons_succ]
        refine take_to 1 26 (.pointer (some ⟨b, 0, none⟩)) rfl rfl (by kernel_rfl) (by kernel_rfl) (by kernel_rfl) (fun _ _ _ h => h) (Or.inl ⟨by rfl, fun w' h => ?_⟩) hHeld ?_
        · go_simp
        try simp only [List.setIfInBounds_toArray, List.set_cons_zero, List.set_cons_succ]
        refine take_to 2 27 (.int .i64 0) rfl rfl (by kernel_rfl) (by kernel_rfl) (by kernel_rfl) (fun _ _ _ h => h) (Or.inl ⟨by rfl, fun w' h => ?_⟩) hHeld ?_
        · go_simp
        try simp only [List.setIfInBounds_toArray, List.set_cons_zero, List.set_cons_succ]
        refine take_to 3 28 (.pointer (some ⟨b, 0, none⟩)) rfl rfl (by kernel_rfl) (by kernel_rfl) (by kernel_rfl) (fun _ _ _ h => h) (Or.inl ⟨by rfl, fun w' h => ?_⟩) hHeld ?_
        · go_simp
        try simp only [List.setIfInBounds_toArray, List.set_cons_zero, List.set_cons_succ]
        refine take_to 4 29 (.pointer (some ⟨b, 5, none⟩)) rfl rfl (by kernel_rfl) (by kernel_rfl) (by kernel_rfl) (fun _ _ _ h => h) (Or.inl ⟨by rfl, fun w' h => ?_⟩) hHeld ?_
        · go_simp
        try simp only [List.setIfInBounds_toArray, List.set_cons_zero, List.set_cons_succ]
        refine take_to 5 30 (.pointer (some ⟨b, 5, none⟩)) rfl rfl (by kernel_rfl) (by kernel_rfl) (by kernel_rfl) (fun _ _ _ h => h) (Or.inl ⟨by rfl, fun w' h => ?_⟩) hHeld ?_
        · go_simp
        try simp only [List.setIfInBounds_toArray, List.set_cons_zero, List.set_cons_succ]
        refine take_to 6 31 (.pointer lp) rfl rfl (by kernel_rfl) (by kernel_rfl) (by kernel_rfl) (fun _ _ _ h => h) (Or.inl ⟨by rfl, fun w' h => ?_⟩) hHeld ?_
        · have x0 := Nm.c5 h.1
          go_simp
        try simp only [List.setIfInBounds_toArray, List.set_cons_zero, List.set_cons_succ]
        refine take_to 7 32 (.agg #[.int .i64 p.F, .int .u64 p.H, .int .u64 p.L, .int .i64 p.B]) rfl rfl (by kernel_rfl) (by kernel_rfl) (by kernel_rfl) (fun _ _ _ h => h) (Or.inl ⟨by rfl, fun w' h => ?_⟩) hHeld ?_
        · have x0 := Pm.c0 h.2; have x1 := Pm.c1 h.2; have x2 := Pm.c2 h.2; have x3 := Pm.c3 h.2
          go_simp
        try simp only [List.setIfInBounds_toArray, List.set_cons_zero, List.set_cons_succ]
        refine take_to 9 34 (.pointer (some ⟨g, 5, none⟩)) rfl rfl (by kernel_rfl) (by kernel_rfl) (by kernel_rfl) (fun _ _ _ h => h) (Or.inl ⟨by rfl, fun w' h => ?_⟩) hHeld ?_
        · go_simp
        try simp only [List.setIfInBounds_toArray, List.set_cons_zero, List.set_cons_succ]
        refine wpAnyH_ready (rs := [8]) (by kernel_rfl) (by simp) ?_
        refine AllReadyH.cons rfl (fun K hK => ?_) AllReadyH.nil
        rw [if_pos (by rfl)]
        go_wp2_with fail
        have hgv : g < wv.heap.size := mg.lt
        have HB3 := hid B0.size
        refine (kk wv (HND.out.2.1.at (fun z hz => B0.block _ (HND.out.2.1.lt z hz)))).mono ?_
        rintro e we ⟨⟨t1, rfl, hn1, ht1, hf1⟩, g3⟩
        obtain ⟨vp, hvp⟩ := t1.vp
        have HVP := hid hvp
        simp only [hvp]
        replace mg := mg.kept g3
        replace n0 := n0.kept g3
        replace m0 := m0.kept g3
        replace B0 := bel_bel B0 B0.size g3
        clear hHeld g3 hvp
        try go_wp2_with fail
        refine hK.out _ _ ⟨n0, m0⟩ (fun hHeld => ?_)
        clear hK K
        try simp only [Act.put, List.setIfInBounds_toArray, List.set_cons_zero, List.set_cons_succ]
        refine take_to 10 35 (.pointer (some ⟨g, 5, none⟩)) rfl rfl (by kernel_rfl) (by kernel_rfl) (by kernel_rfl) (fun _ _ _ h => h) (Or.inl ⟨by rfl, fun w' h => ?_⟩) hHeld ?_
        · go_simp
        try simp only [List.setIfInBounds_toArray, List.set_cons_zero, List.set_cons_succ]
        refine wpAnyH_ready (rs := [11]) (by kernel_rfl) (by simp) ?_
        refine AllReadyH.cons rfl (fun K hK => ?_) AllReadyH.nil
        rw [if_pos (by rfl)]
        have k5 := mg.c5
        have z5 := mg.fz 5
        go_wp2_with fail
        replace mg := mg.set5 (.pointer vp)
        replace n0 := n0.other (g := g) hbg 5 (.pointer vp)
        replace m0 := m0.other (g' := g) (by omega) 5 (.pointer vp)
        replace B0 := B0.setCell (p := ⟨g, 5, none⟩) (Nat.le_of_lt hg) (.pointer vp)
        refine hK.out _ _ ⟨n0, m0⟩ (fun hHeld => ?_)
        clear hK K k5 z5 hHeld
        try simp only [Act.put, List.setIfInBounds_toArray, List.set_cons_zero, List.set_cons_succ]
        refine wpAnyH_done (by kernel_rfl) ?_ _
        replace hn1 := hn1.set (hf1.ne HND.out.2.1 (Nat.le_of_lt hg) hgv) 5 (.pointer vp)
        generalize we.setCell ⟨g, 5, none⟩ (.pointer vp) = wf at *
        have hno : Nd wf (.node g x t1 r) := ⟨by rw [HVP.out, HRP.out]; exact mg, hn1, HND.out.2.2.at (fun z hz => B0.block _ (HND.out.2.2.lt z hz))⟩
        have kd := needed_ g x t1 r _ hno.1
        have HN := hid hno
        clear hno
        go_wp2_with (go_at_call 58; refine kd.mono ?_; rintro e w9 ⟨rfl, rfl⟩)
        go_ret
        exact ⟨⟨_, rfl, HN.out.ndd, ndd_w (wout_left HWF.out s1 u1 ht1 g), (Frs.node (Nat.le_of_lt hg) (hf1.up HB3.out (Frs.l _ _ _ _ _)) (Frs.r _ _ _ _ _)).ndd⟩, B0⟩
      · have e0 := n0.c0
        have e1 := n0.c1
        have e2 := n0.c2
        have e3 := n0.c3
        have f0 := m0.c0
        have f1 := m0.c1
        have f2 := m0.c2
        have f3 := m0.c3
        have q1 := fun w => eqp_sm x p w
        rw [s1] at q1
        go_quiet (fail)
        clear e0 e1 e2 e3 f0 f1 f2 f3
        replace mg : Nm (w1.drewN nq) g x (.pointer lp) (.pointer rp) := mg
        replace n0 : Nm (w1.drewN nq) b x (.pointer lp) (.pointer rp) := n0
        replace m0 : Pm (w1.drewN nq) w.heap.size p.F p.H p.L p.B := m0
        replace B0 : Below w.heap.size w (w1.drewN nq) := bel_drawn B0 nq
        generalize w1.drewN nq = wq at *
        clear q1
        have kb := fun w => bitw p.F p x.B w HPK.out ⟨HWF.out.1.b.1, by have h1 := u1.1; have h2 := HPK.out.b; omega⟩
        rw [und_bit u1 (.inr rfl)] at kb
        go_wp2_with fail
        refine wp_region_quiet (C := SWo b g x p (.pointer lp) (.pointer rp) w) (by kernel_rfl) (by kernel_rfl) (SWo.drew ⟨n0, m0, mg, B0⟩) ?_
        repeat
          refine wpQuiet_step (fun K hK => ?_)
          go_simp
          first
            | (refine hK _ ?_; clear hK K)
            | (apply Exists.intro
               refine ⟨fun wy hq => ?_, hK _ ?_⟩
               · first
                 | rfl
                 | (go_at_call 54; exact (kb _).mono fun _ _ h => ⟨h.1, hq.kept h.2⟩)
                 | (have y3 := Nm.c3 hq.1; have f0 := Pm.c0 hq.2.1; have f1 := Pm.c1 hq.2.1; have f2 := Pm.c2 hq.2.1; go_simp; rfl)
               clear hK K)
        refine wpQuiet_nil ?_
        rintro wz hq
        clear n0 m0 mg B0
        obtain ⟨n0, m0, mg, B0⟩ := hq
        go_wp2_with fail
        have kk := fun w h => KR.out hin1 w h
        rw [HRP.out] at kk
        unfold Wy.px at kk
        refine wp_region_held_drew (S := fun wx => Nm wx b x (.pointer lp) (.pointer rp) ∧ Pm wx w.heap.size p.F p.H p.L p.B) (by kernel_rfl) ⟨n0.drew, m0.drew⟩ (fun hHeld => ?_)
        replace mg := mg.drew
        replace n0 := n0.drew
        replace m0 := m0.drew
        replace B0 := bel_drew1 B0
        generalize wz.drew = wv at *
        refine take_to 0 25 (.int .i64 1) rfl rfl (by kernel_rfl) (by kernel_rfl) (by kernel_rfl) (fun _ _ _ h => h) (Or.inl ⟨by rfl, fun w' h => ?_⟩) hHeld ?_
        · go_simp
        try simp only [List.setIfInBounds_toArray, List.set_cons_zero, List.set_cons_succ]
        refine take_to 1 26 (.pointer (some ⟨b, 0, none⟩)) rfl rfl (by kernel_rfl) (by kernel_rfl) (by kernel_rfl) (fun _ _ _ h => h) (Or.inl ⟨by rfl, fun w' h => ?_⟩) hHeld ?_
        · go_simp
        try simp only [List.setIfInBounds_toArray, List.set_cons_zero, List.set_cons_succ]
        refine take_to 2 27 (.int .i64 1) rfl rfl (by kernel_rfl) (by kernel_rfl) (by kernel_rfl) (fun _ _ _ h => h) (Or.inl ⟨by rfl, fun w' h => ?_⟩) hHeld ?_
        · go_simp
        try simp only [List.setIfInBounds_toArray, List.set_cons_zero, List.set_cons_succ]
        refine take_to 3 28 (.pointer (some ⟨b, 0, none⟩)) rfl rfl (by kernel_rfl) (by kernel_rfl) (by kernel_rfl) (fun _ _ _ h => h) (Or.inl ⟨by rfl, fun w' h => ?_⟩) hHeld ?_
        · go_simp
        try simp only [List.setIfInBounds_toArray, List.set_cons_zero, List.set_cons_succ]
        refine take_to 4 29 (.pointer (some ⟨b, 5, none⟩)) rfl rfl (by kernel_rfl) (by kernel_rfl) (by kernel_rfl) (fun _ _ _ h => h) (Or.inl ⟨by rfl, fun w' h => ?_⟩) hHeld ?_
        · go_simp
        try simp only [List.setIfInBounds_toArray, List.set_cons_zero, List.set_cons_succ]
        refine take_to 5 30 (.pointer (some ⟨b, 6, none⟩)) rfl rfl (by kernel_rfl) (by kernel_rfl) (by kernel_rfl) (fun _ _ _ h => h) (Or.inl ⟨by rfl, fun w' h => ?_⟩) hHeld ?_
        · go_simp
        try simp only [List.setIfInBounds_toArray, List.set_cons_zero, List.set_cons_succ]
        refine take_to 6 31 (.pointer rp) rfl rfl (by kernel_rfl) (by kernel_rfl) (by kernel_rfl) (fun _ _ _ h => h) (Or.inl ⟨by rfl, fun w' h => ?_⟩) hHeld ?_
        · have x0 := Nm.c6 h.1
          go_simp
        try simp only [List.setIfInBounds_toArray, List.set_cons_zero, List.set_cons_succ]
        refine take_to 7 32 (.agg #[.int .i64 p.F, .int .u64 p.H, .int .u64 p.L, .int .i64 p.B]) rfl rfl (by kernel_rfl) (by kernel_rfl) (by kernel_rfl) (fun _ _ _ h => h) (Or.inl ⟨by rfl, fun w' h => ?_⟩) hHeld ?_
        · have x0 := Pm.c0 h.2; have x1 := Pm.c1 h.2; have x2 := Pm.c2 h.2; have x3 := Pm.c3 h.2
          go_simp
        try simp only [List.setIfInBounds_toArray, List.set_cons_zero, List.set_cons_succ]
        refine take_to 9 34 (.pointer (some ⟨g, 5, none⟩)) rfl rfl (by kernel_rfl) (by kernel_rfl) (by kernel_rfl) (fun _ _ _ h => h) (Or.inl ⟨by rfl, fun w' h => ?_⟩) hHeld ?_
        · go_simp
        try simp only [List.setIfInBounds_toArray, List.set_cons_zero, List.set_cons_succ]
        refine wpAnyH_ready (rs := [8]) (by kernel_rfl) (by simp) ?_
        refine AllReadyH.cons rfl (fun K hK => ?_) AllReadyH.nil
        rw [if_pos (by rfl)]
        go_wp2_with fail
        have hgv : g < wv.heap.size := mg.lt
        have HB3 := hid B0.size
        refine (kk wv (HND.out.2.2.at (fun z hz => B0.block _ (HND.out.2.2.lt z hz)))).mono ?_
        rintro e we ⟨⟨t1, rfl, hn1, ht1, hf1⟩, g3⟩
        obtain ⟨vp, hvp⟩ := t1.vp
        have HVP := hid hvp
        simp only [hvp]
        replace mg := mg.kept g3
        replace n0 := n0.kept g3
        replace m0 := m0.kept g3
        replace B0 := bel_bel B0 B0.size g3
        clear hHeld g3 hvp
        try go_wp2_with fail
        refine hK.out _ _ ⟨n0, m0⟩ (fun hHeld => ?_)
        clear hK K
        try simp only [Act.put, List.setIfInBounds_toArray, List.set_cons_zero, List.set_cons_succ]
        refine take_to 10 35 (.pointer (some ⟨g, 6, none⟩)) rfl rfl (by kernel_rfl) (by kernel_rfl) (by kernel_rfl) (fun _ _ _ h => h) (Or.inl ⟨by rfl, fun w' h => ?_⟩) hHeld ?_
        · go_simp
        try simp only [List.setIfInBounds_toArray, List.set_cons_zero, List.set_cons_succ]
        refine wpAnyH_ready (rs := [11]) (by kernel_rfl) (by simp) ?_
        refine AllReadyH.cons rfl (fun K hK => ?_) AllReadyH.nil
        rw [if_pos (by rfl)]
        have k5 := mg.c6
        have z5 := mg.fz 6
        go_wp2_with fail
        replace mg := mg.set6 (.pointer vp)
        replace n0 := n0.other (g := g) hbg 6 (.pointer vp)
        replace m0 := m0.other (g' := g) (by omega) 6 (.pointer vp)
        replace B0 := B0.setCell (p := ⟨g, 6, none⟩) (Nat.le_of_lt hg) (.pointer vp)
        refine hK.out _ _ ⟨n0, m0⟩ (fun hHeld => ?_)
        clear hK K k5 z5 hHeld
        try simp only [Act.put, List.setIfInBounds_toArray, List.set_cons_zero, List.set_cons_succ]
        refine wpAnyH_done (by kernel_rfl) ?_ _
        replace hn1 := hn1.set (hf1.ne HND.out.2.2 (Nat.le_of_lt hg) hgv) 6 (.pointer vp)
        generalize we.setCell ⟨g, 6, none⟩ (.pointer vp) = wf at *
        have hno : Nd wf (.node g x l t1) := ⟨by rw [HVP.out, HLP.out]; exact mg, HND.out.2.1.at (fun z hz => B0.block _ (HND.out.2.1.lt z hz)), hn1⟩
        have kd := needed_ g x l t1 _ hno.1
        have HN := hid hno
        clear hno
        go_wp2_with (go_at_call 58; refine kd.mono ?_; rintro e w9 ⟨rfl, rfl⟩)
        go_ret
        exact ⟨⟨_, rfl, HN.out.ndd, ndd_w (wout_right HWF.out s1 u1 ht1 g), (Frs.node (Nat.le_of_lt hg) (Frs.l _ _ _ _ _) (hf1.up HB3.out (Frs.r _ _ _ _ _))).ndd⟩, B0⟩
end Go.Proofs.Ytcaecfdeieoenaa
