import Derived.Test.YtcaecfdeieoenaaTC
import Derived.Test.YtcaecfdeieoenaaT8
namespace Go.Proofs.Ytcaecfdeieoenaa
set_option maxRecDepth 100000
open Go.RowKit
set_option linter.unusedVariables false

/-- A table's two trees. -/
def Tm (w : World) (k : Nat) (v4 v6 : Value) : Prop := w.heap[k]? = some (.cells #[v4, v6] 76 (0, 0))
section
variable {w w' : World} {k : Nat} {v4 v6 : Value}
theorem Tm.lt (h : Tm w k v4 v6) : k < w.heap.size := (Array.getElem?_eq_some_iff.1 h).1
theorem Tm.at (h : Tm w k v4 v6) (e : w'.heap[k]? = w.heap[k]?) : Tm w' k v4 v6 := e.trans h
theorem Tm.kept (h : Tm w k v4 v6) (hb : Below w.heap.size w w') : Tm w' k v4 v6 := h.at (hb.block k h.lt)
theorem Tm.alloc (h : Tm w k v4 v6) (o : Obj) : Tm (w.alloc o) k v4 v6 := h.at (Below.heap_alloc _ _ _ h.lt)
theorem Tm.drew (h : Tm w k v4 v6) : Tm w.drew k v4 v6 := h
theorem Tm.fz (h : Tm w k v4 v6) (i : Nat) : w.frozen? ⟨k, i, none⟩ = false := by unfold Tm at h; simp [World.frozen?, h]
theorem Tm.c0 (h : Tm w k v4 v6) : w.cell? ⟨k, 0, none⟩ = some v4 := (cell_of_row w k 0 _ _ (0, 0) h).trans rfl
theorem Tm.c1 (h : Tm w k v4 v6) : w.cell? ⟨k, 1, none⟩ = some v6 := (cell_of_row w k 1 _ _ (0, 0) h).trans rfl
theorem Tm.other (h : Tm w k v4 v6) {g : Nat} (hn : k ≠ g) (i : Nat) (v : Value) : Tm (w.setCell ⟨g, i, none⟩ v) k v4 v6 := h.at (Below.heap_setCell _ _ _ _ hn)
theorem Tm.set0 (h : Tm w k v4 v6) (v : Value) : Tm (w.setCell ⟨k, 0, none⟩ v) k v v6 := by
  unfold Tm at *; simp [World.setCell, Array.getElem?_modify, h]
theorem Tm.set1 (h : Tm w k v4 v6) (v : Value) : Tm (w.setCell ⟨k, 1, none⟩ v) k v4 v := by
  unfold Tm at *; simp [World.setCell, Array.getElem?_modify, h]
theorem Tm.new (w : World) (v4 v6 : Value) : Tm (w.alloc (.cells #[v4, v6] 76)) w.heap.size v4 v6 := heap_alloc_new _ _
end
/-- The table in memory has these ways. -/
def Tr (w : World) (v : Value) (l : List Wy) : Prop := ∃ k t4 t6, v = .pointer (some ⟨k, 0, none⟩) ∧ Tbm w k t4 t6 ∧ Wf 4 t4 ∧ Wf 6 t6 ∧ Tl l ∧ ∀ y, y ∈ l ↔ y ∈ t4.ws ∨ y ∈ t6.ws
theorem Tr.kept {w w' : World} {v : Value} {l : List Wy} (h : Tr w v l) (hb : Below w.heap.size w w') : Tr w' v l := by
  obtain ⟨k, t4, t6, e, h1, h2⟩ := h
  exact ⟨k, t4, t6, e, h1.kept hb, h2⟩
set_option maxHeartbeats 400000 in
theorem new_ (w : World) : Calls Try.prog 22 #[] w fun e w' => (∃ v, e = .returned v ∧ Tr w' v []) ∧ Below w.heap.size w w' := by
  go_enter Try.func22, Try.ntmps22
  go_wp2_with fail
  go_ret
  refine ⟨⟨_, rfl, _, .nil, .nil, rfl, ⟨Tm.new w _ _, trivial, trivial⟩, trivial, trivial, tl_nil, fun y => ?_⟩, (Below.refl _ _).alloc (Nat.le_refl _) _⟩
  rw [ws_nil]
  simp
theorem vp_F {p : Wy} (h : vp p.F p.H p.L p.B = true) : p.F = 4 ∨ p.F = 6 := by
  have h := of_decide_eq_true (show decide _ = true from (vp_in h).1)
  omega
theorem lk_has {p : Wy} {t4 t6 : Tn} {l : List Wy} (h4 : Wf 4 t4) (h6 : Wf 6 t6) (hm : ∀ y, y ∈ l ↔ y ∈ t4.ws ∨ y ∈ t6.ws) (hv : vp p.F p.H p.L p.B = true) : lk p (pth (nb p.F) p.A p.B (tF p.F t4 t6)) = 0 ↔ has p l = false := by
  have ha := (vp_in hv).1
  rw [lk_zero (wf_tF h4 h6 ha) (Int.le_refl _), has_false]
  constructor
  · intro h y hy
    refine Bool.eq_false_iff.2 (fun e => ?_)
    have := h y ((tF_mem h4 h6 hm ha y).2 ⟨hy, ((sm_iff y p).1 e).1⟩)
    rw [e] at this
    cases this
  · intro h y hy
    exact h y ((tF_mem h4 h6 hm ha y).1 hy).1
/-- A table of a tree more. -/
theorem with_tr {w' : World} {g : Nat} {p : Wy} {t4 t6 t' : Tn} {l : List Wy} (hw4 : Wf 4 t4) (hw6 : Wf 6 t6) (hl : Tl l) (hm : ∀ y, y ∈ l ↔ y ∈ t4.ws ∨ y ∈ t6.ws) (hp : p.Ok) (hn : has p l = false) (ht : Wth p.F p (tF p.F t4 t6) t')
    (h4 : p.F = 4 → Tbm w' g t' t6) (h6 : p.F ≠ 4 → Tbm w' g t4 t') : Tr w' (.pointer (some ⟨g, 0, none⟩)) (ins p l) := by
  rcases vp_F hp.2.1 with e | e
  · have ht2 := ht
    unfold tF at ht2
    rw [if_pos e] at ht2
    refine ⟨g, t', t6, rfl, h4 e, by rw [← e]; exact ht.1, hw6, tl_ins hl hp hn, fun y => ?_⟩
    rw [mem_ins, hm, ht2.2.1]
    constructor
    · rintro (h | h | h)
      · exact .inl (.inl h)
      · exact .inl (.inr h)
      · exact .inr h
    · rintro ((h | h) | h)
      · exact .inl h
      · exact .inr (.inl h)
      · exact .inr (.inr h)
  · have ht2 := ht
    unfold tF at ht2
    rw [if_neg (by omega)] at ht2
    refine ⟨g, t4, t', rfl, h6 (by omega), hw4, by rw [← e]; exact ht.1, tl_ins hl hp hn, fun y => ?_⟩
    rw [mem_ins, hm, ht2.2.1]
    constructor
    · rintro (h | h | h)
      · exact .inr (.inl h)
      · exact .inl h
      · exact .inr (.inr h)
    · rintro (h | h | h)
      · exact .inr (.inl h)
      · exact .inl h
      · exact .inr (.inr h)
theorem without_tr {w' : World} {g : Nat} {p p' : Wy} {t4 t6 t' : Tn} {l : List Wy} (hw4 : Wf 4 t4) (hw6 : Wf 6 t6) (hl : Tl l) (hm : ∀ y, y ∈ l ↔ y ∈ t4.ws ∨ y ∈ t6.ws) (hv : vp p.F p.H p.L p.B = true) (hs : ∀ y : Wy, y.sm p' = y.sm p) (ht : Wout p.F p' (tF p.F t4 t6) t')
    (h4 : p.F = 4 → Tbm w' g t' t6) (h6 : p.F ≠ 4 → Tbm w' g t4 t') : Tr w' (.pointer (some ⟨g, 0, none⟩)) (del p l) := by
  have ho : ∀ y : Wy, y.F ≠ p.F → y.sm p = false := fun y hy => Bool.eq_false_iff.2 (fun e => hy ((sm_iff y p).1 e).1)
  rcases vp_F hv with e | e
  · have ht2 := ht
    unfold tF at ht2
    rw [if_pos e] at ht2
    refine ⟨g, t', t6, rfl, h4 e, by rw [← e]; exact ht.1, hw6, tl_del hl, fun y => ?_⟩
    rw [mem_del, hm, ht2.2.1, hs]
    constructor
    · rintro ⟨h | h, k⟩
      · exact .inl ⟨h, k⟩
      · exact .inr h
    · rintro (h | h)
      · exact ⟨.inl h.1, h.2⟩
      · exact ⟨.inr h, ho y (by rw [(ws_F hw6 h).1, e]; decide)⟩
  · have ht2 := ht
    unfold tF at ht2
    rw [if_neg (by omega)] at ht2
    refine ⟨g, t4, t', rfl, h6 (by omega), hw4, by rw [← e]; exact ht.1, tl_del hl, fun y => ?_⟩
    rw [mem_del, hm, ht2.2.1, hs]
    constructor
    · rintro ⟨h | h, k⟩
      · exact .inl h
      · exact .inr ⟨h, k⟩
    · rintro (h | h)
      · exact ⟨.inl h, ho y (by rw [(ws_F hw4 h).1, e]; decide)⟩
      · exact ⟨.inr h.1, h.2⟩
set_option maxHeartbeats 8000000 in
theorem rwith_ (w : World) (v : Value) (l : List Wy) (p : Wy) (h : Tr w v l) (hp : p.In) :
    Calls Try.prog 19 #[v, p.px, .int .i64 p.K] w fun e w' => ((wE p l ≠ 0 ∧ e = .returned (.tuple #[.pointer none, .int .i64 (wE p l)])) ∨ (wE p l = 0 ∧ ∃ v', e = .returned (.tuple #[v', .int .i64 0]) ∧ Tr w' v' (ins p l))) ∧ Below w.heap.size w w' := by
  obtain ⟨k, t4, t6, rfl, htb, hw4, hw6, hl, hm⟩ := h
  have m0 := Pm.new w p.F p.H p.L p.B
  have B0 := pnew w p.F p.H p.L p.B
  have kv := fun w => valid_ p.F p.H p.L p.B w hp.1 hp.2.1 hp.2.2.1 hp.2.2.2.1
  cases hv : vp p.F p.H p.L p.B with
  | false =>
    have HE : Hid (wE p l = 70) := if_pos hv
    rw [HE.out]
    rw [hv] at kv
    clear hv HE htb hw4 hw6 hl hm
    unfold Wy.px
    have c0 := m0.c0
    have c1 := m0.c1
    have c2 := m0.c2
    have c3 := m0.c3
    go_enter Try.func19, Try.ntmps19
    go_wp2_with (go_at_call 40; refine (kv _).mono ?_; rintro e w1 ⟨rfl, g2⟩; have m1 := m0.kept g2; have B1 := bel_bel B0 B0.size g2; have d0 := m1.c0; have d1 := m1.c1; have d2 := m1.c2; have d3 := m1.c3)
    go_ret2
    exact ⟨.inl ⟨by decide, rfl⟩, B1⟩
  | true =>
    rw [hv] at kv
    by_cases hk : p.K < 1 ∨ 4294967295 < p.K
    · have HE : Hid (wE p l = 81) := by
        show _ = _
        unfold wE
        rw [if_neg (by rw [hv]; decide), if_pos hk]
      rw [HE.out]
      clear hv HE htb hw4 hw6 hl hm
      by_cases h1 : p.K < 1
      · unfold Wy.px
        have c0 := m0.c0
        have c1 := m0.c1
        have c2 := m0.c2
        have c3 := m0.c3
        go_enter Try.func19, Try.ntmps19
        go_wp2_with (go_at_call 40; refine (kv _).mono ?_; rintro e w1 ⟨rfl, g2⟩; have m1 := m0.kept g2; have B1 := bel_bel B0 B0.size g2; have d0 := m1.c0; have d1 := m1.c1; have d2 := m1.c2; have d3 := m1.c3)
        go_ret2
        exact ⟨.inl ⟨by decide, rfl⟩, B1⟩
      · have h2 : 4294967295 < p.K := by omega
        unfold Wy.px
        have c0 := m0.c0
        have c1 := m0.c1
        have c2 := m0.c2
        have c3 := m0.c3
        go_enter Try.func19, Try.ntmps19
        go_wp2_with (go_at_call 40; refine (kv _).mono ?_; rintro e w1 ⟨rfl, g2⟩; have m1 := m0.kept g2; have B1 := bel_bel B0 B0.size g2; have d0 := m1.c0; have d1 := m1.c1; have d2 := m1.c2; have d3 := m1.c3)
        go_ret2
        exact ⟨.inl ⟨by decide, rfl⟩, B1⟩
    · have hk1 : ¬ p.K < 1 := by omega
      have hk2 : ¬ 4294967295 < p.K := by omega
      have ha := (vp_in hv).1
      have hB := (vp_in hv).2.2.1
      have hwf := wf_tF hw4 hw6 ha
      have kl := fun w2 hb => linkOf_ w w2 k t4 t6 htb hb p hp ha hB hwf
      have hb0 : ∀ X, Below w.heap.size w X → Below w.heap.size w X := fun _ h => h
      have hlk := lk_has hw4 hw6 hm hv
      cases hh : has p l with
      | true =>
        have HE : Hid (wE p l = 80) := by
          show _ = _
          unfold wE
          rw [if_neg (by rw [hv]; decide), if_neg hk, if_pos hh]
        rw [HE.out]
        have hne : lk p (pth (nb p.F) p.A p.B (tF p.F t4 t6)) ≠ 0 := fun e => by
          rw [hlk.1 e] at hh
          cases hh
        generalize lk p (pth (nb p.F) p.A p.B (tF p.F t4 t6)) = R at *
        have hR : (R != 0) = true := by simpa using hne
        clear hv HE htb hw4 hw6 hl hm hlk hh hwf hk
        unfold Wy.px
        have c0 := m0.c0
        have c1 := m0.c1
        have c2 := m0.c2
        have c3 := m0.c3
        go_enter Try.func19, Try.ntmps19
        go_wp2_with (first | (go_at_call 40; refine (kv _).mono ?_; rintro e w1 ⟨rfl, g2⟩; have m1 := m0.kept g2; have B1 := bel_bel B0 B0.size g2; have d0 := m1.c0; have d1 := m1.c1; have d2 := m1.c2; have d3 := m1.c3) | (go_at_call 41; refine (kl _ (hb0 _ B1)).mono ?_; rintro e w2 ⟨rfl, g3⟩; have m2 := m1.kept g3; have B2 := bel_bel B1 B1.size g3; have b0 := m2.c0; have b1 := m2.c1; have b2 := m2.c2; have b3 := m2.c3))
        go_ret2
        exact ⟨.inl ⟨by decide, rfl⟩, B2⟩
      | false =>
        have hz := hlk.2 hh
        have hok : p.Ok := ⟨hp, hv, by omega, by omega⟩
        have HZ : Hid (wE p l = 0) := by
          show _ = _
          exact (wE_zero hp).2 ⟨hok, hh⟩
        have HNH := hid hh
        have HOK := hid hok
        have hno : ∀ y ∈ (tF p.F t4 t6).ws, y.sm p = false := fun y hy => has_false.1 hh y ((tF_mem hw4 hw6 hm ha y).1 hy).1
        have KW := hid (with_ p hok (tF p.F t4 t6) hwf hno)
        unfold Wy.px at KW
        clear hlk hh hno hok hv hk
        have HTB := hid htb
        have HW4 := hid hw4
        have HW6 := hid hw6
        have HM := hid hm
        have HL := hid hl
        obtain ⟨p4, hp4⟩ := t4.vp
        obtain ⟨p6, hp6⟩ := t6.vp
        have HV4 := hid hp4
        have HV6 := hid hp6
        have mk0 : Tm w k (.pointer p4) (.pointer p6) := by
          have := htb.1
          rw [hp4, hp6] at this
          exact this
        have kpl := fun w => place_ p.F w
        rw [hz] at kl
        clear htb hw4 hw6 hm hl hp4 hp6 hwf
        unfold Wy.px
        have c0 := m0.c0
        have c1 := m0.c1
        have c2 := m0.c2
        have c3 := m0.c3
        by_cases hF : p.F = 4
        · rw [if_pos hF] at kpl
          have HTF : Hid (tF p.F t4 t6 = t4) := if_pos hF
          have kk := fun w' h => KW.out w' h
          rw [HTF.out, HV4.out] at kk
          have HFF := hid hF
          clear hF
          go_enter Try.func19, Try.ntmps19
          go_wp2_with (first | (go_at_call 40; refine (kv _).mono ?_; rintro e w1 ⟨rfl, g2⟩; have m1 := m0.kept g2; have B1 := bel_bel B0 B0.size g2; have d0 := m1.c0; have d1 := m1.c1; have d2 := m1.c2; have d3 := m1.c3) | (go_at_call 41; refine (kl _ (hb0 _ B1)).mono ?_; rintro e w2 ⟨rfl, g3⟩; have m2 := m1.kept g3; have B2 := bel_bel B1 B1.size g3; have b0 := m2.c0; have b1 := m2.c1; have b2 := m2.c2; have b3 := m2.c3; have mk2 := mk0.at (B2.block k mk0.lt); have e0 := mk2.c0; have e1 := mk2.c1) | (go_at_call 42; refine (kpl _).mono ?_; rintro e w4 ⟨rfl, rfl⟩))
          have hF := HFF.out
          replace mk0 := mk2.alloc (.cells #[.pointer p4, .pointer p6] 76)
          have mg := Tm.new w4 (.pointer p4) (.pointer p6)
          replace m0 := m2.alloc (.cells #[.pointer p4, .pointer p6] 76)
          have hsz4 := B2.size
          have hg : w.heap.size < w4.heap.size := m2.lt
          have hkg : k ≠ w4.heap.size := by have := mk2.lt; omega
          replace B0 := B2.alloc hsz4 (.cells #[.pointer p4, .pointer p6] 76)
          have mk := mk0
          clear c0 c1 c2 c3 d0 d1 d2 d3 b0 b1 b2 b3 e0 e1 m1 m2 mk2 mk0 B1 B2 g2 g3 kl kv kpl hb0
          generalize w4.heap.size = g at *
          generalize w4.alloc (.cells #[.pointer p4, .pointer p6] 76) = w5 at *
          clear hF
          refine wp_region_held_drew (S := fun wx => Tm wx k (.pointer p4) (.pointer p6) ∧ Pm wx w.heap.size p.F p.H p.L p.B) (by kernel_rfl) ⟨mk.drew, m0.drew⟩ (fun hHeld => ?_)
          replace mk := mk.drew
          replace m0 := m0.drew
          replace mg := mg.drew
          replace B0 := bel_drew1 B0
          generalize w5.drew = wv at *
          refine take_to 0 33 (.int .i64 0) rfl rfl (by kernel_rfl) (by kernel_rfl) (by kernel_rfl) (fun _ _ _ h => h) (Or.inl ⟨by rfl, fun w' h => ?_⟩) hHeld ?_
          · go_simp
          try simp only [List.setIfInBounds_toArray, List.set_cons_zero, List.set_cons_succ]
          refine take_to 1 34 (.pointer (some ⟨k, 0, none⟩)) rfl rfl (by kernel_rfl) (by kernel_rfl) (by kernel_rfl) (fun _ _ _ h => h) (Or.inl ⟨by rfl, fun w' h => ?_⟩) hHeld ?_
          · go_simp
          try simp only [List.setIfInBounds_toArray, List.set_cons_zero, List.set_cons_succ]
          refine take_to 2 35 (.int .i64 0) rfl rfl (by kernel_rfl) (by kernel_rfl) (by kernel_rfl) (fun _ _ _ h => h) (Or.inl ⟨by rfl, fun w' h => ?_⟩) hHeld ?_
          · go_simp
          try simp only [List.setIfInBounds_toArray, List.set_cons_zero, List.set_cons_succ]
          refine take_to 3 36 (.pointer (some ⟨k, 0, none⟩)) rfl rfl (by kernel_rfl) (by kernel_rfl) (by kernel_rfl) (fun _ _ _ h => h) (Or.inl ⟨by rfl, fun w' h => ?_⟩) hHeld ?_
          · go_simp
          try simp only [List.setIfInBounds_toArray, List.set_cons_zero, List.set_cons_succ]
          refine take_to 4 37 (.pointer (some ⟨k, 0, none⟩)) rfl rfl (by kernel_rfl) (by kernel_rfl) (by kernel_rfl) (fun _ _ _ h => h) (Or.inl ⟨by rfl, fun w' h => ?_⟩) hHeld ?_
          · go_simp
          try simp only [List.setIfInBounds_toArray, List.set_cons_zero, List.set_cons_succ]
          refine take_to 5 38 (.pointer (some ⟨k, 0, none⟩)) rfl rfl (by kernel_rfl) (by kernel_rfl) (by kernel_rfl) (fun _ _ _ h => h) (Or.inl ⟨by rfl, fun w' h => ?_⟩) hHeld ?_
          · go_simp
          try simp only [List.setIfInBounds_toArray, List.set_cons_zero, List.set_cons_succ]
          refine take_to 6 39 (.pointer p4) rfl rfl (by kernel_rfl) (by kernel_rfl) (by kernel_rfl) (fun _ _ _ h => h) (Or.inl ⟨by rfl, fun w' h => ?_⟩) hHeld ?_
          · have x0 := Tm.c0 h.1
            go_simp
          try simp only [List.setIfInBounds_toArray, List.set_cons_zero, List.set_cons_succ]
          refine take_to 7 40 (.agg #[.int .i64 p.F, .int .u64 p.H, .int .u64 p.L, .int .i64 p.B]) rfl rfl (by kernel_rfl) (by kernel_rfl) (by kernel_rfl) (fun _ _ _ h => h) (Or.inl ⟨by rfl, fun w' h => ?_⟩) hHeld ?_
          · have x0 := Pm.c0 h.2; have x1 := Pm.c1 h.2; have x2 := Pm.c2 h.2; have x3 := Pm.c3 h.2
            go_simp
          try simp only [List.setIfInBounds_toArray, List.set_cons_zero, List.set_cons_succ]
          refine take_to 8 41 (.int .i64 p.K) rfl rfl (by kernel_rfl) (by kernel_rfl) (by kernel_rfl) (fun _ _ _ h => h) (Or.inl ⟨by rfl, fun w' h => ?_⟩) hHeld ?_
          · go_simp
          try simp only [List.setIfInBounds_toArray, List.set_cons_zero, List.set_cons_succ]
          refine take_to 10 43 (.pointer (some ⟨g, 0, none⟩)) rfl rfl (by kernel_rfl) (by kernel_rfl) (by kernel_rfl) (fun _ _ _ h => h) (Or.inl ⟨by rfl, fun w' h => ?_⟩) hHeld ?_
          · go_simp
          try simp only [List.setIfInBounds_toArray, List.set_cons_zero, List.set_cons_succ]
          refine wpAnyH_ready (rs := [9]) (by kernel_rfl) (by simp) ?_
          refine AllReadyH.cons rfl (fun K hK => ?_) AllReadyH.nil
          rw [if_pos (by rfl)]
          go_wp2_with fail
          have hgv : g < wv.heap.size := mg.lt
          have HBv := hid B0
          refine (kk wv (HTB.out.2.1.at (fun z hz => B0.block _ (HTB.out.2.1.lt z hz)))).mono ?_
          rintro e we ⟨⟨t1, rfl, hn1, ht1, hf1⟩, g3⟩
          obtain ⟨vp, hvp⟩ := t1.vp
          have HVP := hid hvp
          simp only [hvp]
          replace mk := mk.kept g3
          replace m0 := m0.kept g3
          replace mg := mg.kept g3
          replace B0 := bel_bel B0 B0.size g3
          clear hHeld g3 hvp
          try go_wp2_with fail
          refine hK.out _ _ ⟨mk, m0⟩ (fun hHeld => ?_)
          clear hK K
          try simp only [Act.put, List.setIfInBounds_toArray, List.set_cons_zero, List.set_cons_succ]
          refine take_to 11 44 (.pointer (some ⟨g, 0, none⟩)) rfl rfl (by kernel_rfl) (by kernel_rfl) (by kernel_rfl) (fun _ _ _ h => h) (Or.inl ⟨by rfl, fun w' h => ?_⟩) hHeld ?_
          · go_simp
          try simp only [List.setIfInBounds_toArray, List.set_cons_zero, List.set_cons_succ]
          refine wpAnyH_ready (rs := [12]) (by kernel_rfl) (by simp) ?_
          refine AllReadyH.cons rfl (fun K hK => ?_) AllReadyH.nil
          rw [if_pos (by rfl)]
          have k5 := mg.c0
          have z5 := mg.fz 0
          go_wp2_with fail
          replace mg := mg.set0 (.pointer vp)
          replace mk := mk.other (g := g) hkg 0 (.pointer vp)
          replace m0 := m0.other (g' := g) (by omega) 0 (.pointer vp)
          replace B0 := B0.setCell (p := ⟨g, 0, none⟩) (Nat.le_of_lt hg) (.pointer vp)
          refine hK.out _ _ ⟨mk, m0⟩ (fun hHeld => ?_)
          clear hK K k5 z5 hHeld
          try simp only [Act.put, List.setIfInBounds_toArray, List.set_cons_zero, List.set_cons_succ]
          refine wpAnyH_done (by kernel_rfl) ?_ _
          replace hn1 := hn1.set (hf1.ne HTB.out.2.1 (Nat.le_of_lt hg) hgv) 0 (.pointer vp)
          generalize we.setCell ⟨g, 0, none⟩ (.pointer vp) = wf at *
          go_wp2_with fail
          go_ret2
          have hF := HFF.out
          rw [← HTF.out] at ht1
          exact ⟨.inr ⟨HZ.out, _, rfl, with_tr HW4.out HW6.out HL.out HM.out HOK.out HNH.out ht1 (fun _ => ⟨by rw [HVP.out, HV6.out]; exact mg, hn1, HTB.out.2.2.at (fun z hz => B0.block _ (HTB.out.2.2.lt z hz))⟩) (fun h => absurd hF h)⟩, B0⟩
        · rw [if_neg hF] at kpl
          have HTF : Hid (tF p.F t4 t6 = t6) := if_neg hF
          have kk := fun w' h => KW.out w' h
          rw [HTF.out, HV6.out] at kk
          have HFF := hid hF
          clear hF
          go_enter Try.func19, Try.ntmps19
          go_wp2_with (first | (go_at_call 40; refine (kv _).mono ?_; rintro e w1 ⟨rfl, g2⟩; have m1 := m0.kept g2; have B1 := bel_bel B0 B0.size g2; have d0 := m1.c0; have d1 := m1.c1; have d2 := m1.c2; have d3 := m1.c3) | (go_at_call 41; refine (kl _ (hb0 _ B1)).mono ?_; rintro e w2 ⟨rfl, g3⟩; have m2 := m1.kept g3; have B2 := bel_bel B1 B1.size g3; have b0 := m2.c0; have b1 := m2.c1; have b2 := m2.c2; have b3 := m2.c3; have mk2 := mk0.at (B2.block k mk0.lt); have e0 := mk2.c0; have e1 := mk2.c1) | (go_at_call 42; refine (kpl _).mono ?_; rintro e w4 ⟨rfl, rfl⟩))
          have hF := HFF.out
          replace mk0 := mk2.alloc (.cells #[.pointer p4, .pointer p6] 76)
          have mg := Tm.new w4 (.pointer p4) (.pointer p6)
          replace m0 := m2.alloc (.cells #[.pointer p4, .pointer p6] 76)
          have hsz4 := B2.size
          have hg : w.heap.size < w4.heap.size := m2.lt
          have hkg : k ≠ w4.heap.size := by have := mk2.lt; omega
          replace B0 := B2.alloc hsz4 (.cells #[.pointer p4, .pointer p6] 76)
          have mk := mk0
          clear c0 c1 c2 c3 d0 d1 d2 d3 b0 b1 b2 b3 e0 e1 m1 m2 mk2 mk0 B1 B2 g2 g3 kl kv kpl hb0
          generalize w4.heap.size = g at *
          generalize w4.alloc (.cells #[.pointer p4, .pointer p6] 76) = w5 at *
          clear hF
          refine wp_region_held_drew (S := fun wx => Tm wx k (.pointer p4) (.pointer p6) ∧ Pm wx w.heap.size p.F p.H p.L p.B) (by kernel_rfl) ⟨mk.drew, m0.drew⟩ (fun hHeld => ?_)
          replace mk := mk.drew
          replace m0 := m0.drew
          replace mg := mg.drew
          replace B0 := bel_drew1 B0
          generalize w5.drew = wv at *
          refine take_to 0 33 (.int .i64 1) rfl rfl (by kernel_rfl) (by kernel_rfl) (by kernel_rfl) (fun _ _ _ h => h) (Or.inl ⟨by rfl, fun w' h => ?_⟩) hHeld ?_
          · go_simp
          try simp only [List.setIfInBounds_toArray, List.set_cons_zero, List.set_cons_succ]
          refine take_to 1 34 (.pointer (some ⟨k, 0, none⟩)) rfl rfl (by kernel_rfl) (by kernel_rfl) (by kernel_rfl) (fun _ _ _ h => h) (Or.inl ⟨by rfl, fun w' h => ?_⟩) hHeld ?_
          · go_simp
          try simp only [List.setIfInBounds_toArray, List.set_cons_zero, List.set_cons_succ]
          refine take_to 2 35 (.int .i64 1) rfl rfl (by kernel_rfl) (by kernel_rfl) (by kernel_rfl) (fun _ _ _ h => h) (Or.inl ⟨by rfl, fun w' h => ?_⟩) hHeld ?_
          · go_simp
          try simp only [List.setIfInBounds_toArray, List.set_cons_zero, List.set_cons_succ]
          refine take_to 3 36 (.pointer (some ⟨k, 0, none⟩)) rfl rfl (by kernel_rfl) (by kernel_rfl) (by kernel_rfl) (fun _ _ _ h => h) (Or.inl ⟨by rfl, fun w' h => ?_⟩) hHeld ?_
          · go_simp
          try simp only [List.setIfInBounds_toArray, List.set_cons_zero, List.set_cons_succ]
          refine take_to 4 37 (.pointer (some ⟨k, 0, none⟩)) rfl rfl (by kernel_rfl) (by kernel_rfl) (by kernel_rfl) (fun _ _ _ h => h) (Or.inl ⟨by rfl, fun w' h => ?_⟩) hHeld ?_
          · go_simp
          try simp only [List.setIfInBounds_toArray, List.set_cons_zero, List.set_cons_succ]
          refine take_to 5 38 (.pointer (some ⟨k, 1, none⟩)) rfl rfl (by kernel_rfl) (by kernel_rfl) (by kernel_rfl) (fun _ _ _ h => h) (Or.inl ⟨by rfl, fun w' h => ?_⟩) hHeld ?_
          · go_simp
          try simp only [List.setIfInBounds_toArray, List.set_cons_zero, List.set_cons_succ]
          refine take_to 6 39 (.pointer p6) rfl rfl (by kernel_rfl) (by kernel_rfl) (by kernel_rfl) (fun _ _ _ h => h) (Or.inl ⟨by rfl, fun w' h => ?_⟩) hHeld ?_
          · have x0 := Tm.c1 h.1
            go_simp
          try simp only [List.setIfInBounds_toArray, List.set_cons_zero, List.set_cons_succ]
          refine take_to 7 40 (.agg #[.int .i64 p.F, .int .u64 p.H, .int .u64 p.L, .int .i64 p.B]) rfl rfl (by kernel_rfl) (by kernel_rfl) (by kernel_rfl) (fun _ _ _ h => h) (Or.inl ⟨by rfl, fun w' h => ?_⟩) hHeld ?_
          · have x0 := Pm.c0 h.2; have x1 := Pm.c1 h.2; have x2 := Pm.c2 h.2; have x3 := Pm.c3 h.2
            go_simp
          try simp only [List.setIfInBounds_toArray, List.set_cons_zero, List.set_cons_succ]
          refine take_to 8 41 (.int .i64 p.K) rfl rfl (by kernel_rfl) (by kernel_rfl) (by kernel_rfl) (fun _ _ _ h => h) (Or.inl ⟨by rfl, fun w' h => ?_⟩) hHeld ?_
          · go_simp
          try simp only [List.setIfInBounds_toArray, List.set_cons_zero, List.set_cons_succ]
          refine take_to 10 43 (.pointer (some ⟨g, 0, none⟩)) rfl rfl (by kernel_rfl) (by kernel_rfl) (by kernel_rfl) (fun _ _ _ h => h) (Or.inl ⟨by rfl, fun w' h => ?_⟩) hHeld ?_
          · go_simp
          try simp only [List.setIfInBounds_toArray, List.set_cons_zero, List.set_cons_succ]
          refine wpAnyH_ready (rs := [9]) (by kernel_rfl) (by simp) ?_
          refine AllReadyH.cons rfl (fun K hK => ?_) AllReadyH.nil
          rw [if_pos (by rfl)]
          go_wp2_with fail
          have hgv : g < wv.heap.size := mg.lt
          have HBv := hid B0
          refine (kk wv (HTB.out.2.2.at (fun z hz => B0.block _ (HTB.out.2.2.lt z hz)))).mono ?_
          rintro e we ⟨⟨t1, rfl, hn1, ht1, hf1⟩, g3⟩
          obtain ⟨vp, hvp⟩ := t1.vp
          have HVP := hid hvp
          simp only [hvp]
          replace mk := mk.kept g3
          replace m0 := m0.kept g3
          replace mg := mg.kept g3
          replace B0 := bel_bel B0 B0.size g3
          clear hHeld g3 hvp
          try go_wp2_with fail
          refine hK.out _ _ ⟨mk, m0⟩ (fun hHeld => ?_)
          clear hK K
          try simp only [Act.put, List.setIfInBounds_toArray, List.set_cons_zero, List.set_cons_succ]
          refine take_to 11 44 (.pointer (some ⟨g, 1, none⟩)) rfl rfl (by kernel_rfl) (by kernel_rfl) (by kernel_rfl) (fun _ _ _ h => h) (Or.inl ⟨by rfl, fun w' h => ?_⟩) hHeld ?_
          · go_simp
          try simp only [List.setIfInBounds_toArray, List.set_cons_zero, List.set_cons_succ]
          refine wpAnyH_ready (rs := [12]) (by kernel_rfl) (by simp) ?_
          refine AllReadyH.cons rfl (fun K hK => ?_) AllReadyH.nil
          rw [if_pos (by rfl)]
          have k5 := mg.c1
          have z5 := mg.fz 1
          go_wp2_with fail
          replace mg := mg.set1 (.pointer vp)
          replace mk := mk.other (g := g) hkg 1 (.pointer vp)
          replace m0 := m0.other (g' := g) (by omega) 1 (.pointer vp)
          replace B0 := B0.setCell (p := ⟨g, 1, none⟩) (Nat.le_of_lt hg) (.pointer vp)
          refine hK.out _ _ ⟨mk, m0⟩ (fun hHeld => ?_)
          clear hK K k5 z5 hHeld
          try simp only [Act.put, List.setIfInBounds_toArray, List.set_cons_zero, List.set_cons_succ]
          refine wpAnyH_done (by kernel_rfl) ?_ _
          replace hn1 := hn1.set (hf1.ne HTB.out.2.2 (Nat.le_of_lt hg) hgv) 1 (.pointer vp)
          generalize we.setCell ⟨g, 1, none⟩ (.pointer vp) = wf at *
          go_wp2_with fail
          go_ret2
          have hF := HFF.out
          rw [← HTF.out] at ht1
          exact ⟨.inr ⟨HZ.out, _, rfl, with_tr HW4.out HW6.out HL.out HM.out HOK.out HNH.out ht1 (fun h => absurd h hF) (fun _ => ⟨by rw [HVP.out, HV4.out]; exact mg, HTB.out.2.1.at (fun z hz => B0.block _ (HTB.out.2.1.lt z hz)), hn1⟩)⟩, B0⟩
set_option maxHeartbeats 8000000 in
theorem rwithout_ (w : World) (v : Value) (l : List Wy) (p : Wy) (h : Tr w v l) (hp : p.In) :
    Calls Try.prog 21 #[v, p.px] w fun e w' => ((oE p l ≠ 0 ∧ e = .returned (.tuple #[.pointer none, .int .i64 (oE p l)])) ∨ (oE p l = 0 ∧ ∃ v', e = .returned (.tuple #[v', .int .i64 0]) ∧ Tr w' v' (del p l))) ∧ Below w.heap.size w w' := by
  obtain ⟨k, t4, t6, rfl, htb, hw4, hw6, hl, hm⟩ := h
  have m0 := Pm.new w p.F p.H p.L p.B
  have B0 := pnew w p.F p.H p.L p.B
  have kv := fun w => valid_ p.F p.H p.L p.B w hp.1 hp.2.1 hp.2.2.1 hp.2.2.2.1
  cases hv : vp p.F p.H p.L p.B with
  | false =>
    have HE : Hid (oE p l = 70) := if_pos hv
    rw [HE.out]
    rw [hv] at kv
    clear hv HE htb hw4 hw6 hl hm
    unfold Wy.px
    have c0 := m0.c0
    have c1 := m0.c1
    have c2 := m0.c2
    have c3 := m0.c3
    go_enter Try.func21, Try.ntmps21
    go_wp2_with (go_at_call 40; refine (kv _).mono ?_; rintro e w1 ⟨rfl, g2⟩; have m1 := m0.kept g2; have B1 := bel_bel B0 B0.size g2; have d0 := m1.c0; have d1 := m1.c1; have d2 := m1.c2; have d3 := m1.c3)
    go_ret2
    exact ⟨.inl ⟨by decide, rfl⟩, B1⟩
  | true =>
    rw [hv] at kv
    have ha := (vp_in hv).1
    have hB := (vp_in hv).2.2.1
    have hwf := wf_tF hw4 hw6 ha
    have kl := fun w2 hb => linkOf_ w w2 k t4 t6 htb hb p hp ha hB hwf
    have hb0 : ∀ X, Below w.heap.size w X → Below w.heap.size w X := fun _ h => h
    have hlk := lk_has hw4 hw6 hm hv
    cases hh : has p l with
    | false =>
      have HE : Hid (oE p l = 82) := by
        show _ = _
        unfold oE
        rw [if_neg (by rw [hv]; decide), if_pos hh]
      rw [HE.out]
      have hz := hlk.2 hh
      rw [hz] at kl
      clear hv HE htb hw4 hw6 hl hm hlk hh hwf hz
      unfold Wy.px
      have c0 := m0.c0
      have c1 := m0.c1
      have c2 := m0.c2
      have c3 := m0.c3
      go_enter Try.func21, Try.ntmps21
      go_wp2_with (first | (go_at_call 40; refine (kv _).mono ?_; rintro e w1 ⟨rfl, g2⟩; have m1 := m0.kept g2; have B1 := bel_bel B0 B0.size g2; have d0 := m1.c0; have d1 := m1.c1; have d2 := m1.c2; have d3 := m1.c3) | (go_at_call 41; refine (kl _ (hb0 _ B1)).mono ?_; rintro e w2 ⟨rfl, g3⟩; have m2 := m1.kept g3; have B2 := bel_bel B1 B1.size g3; have b0 := m2.c0; have b1 := m2.c1; have b2 := m2.c2; have b3 := m2.c3))
      go_ret2
      exact ⟨.inl ⟨by decide, rfl⟩, B2⟩
    | true =>
      have HZ : Hid (oE p l = 0) := by
        show _ = _
        unfold oE
        rw [if_neg (by rw [hv]; decide), if_neg (by rw [hh]; decide)]
      have HVA := hid hv
      obtain ⟨R, hz, hR⟩ : ∃ R, lk p (pth (nb p.F) p.A p.B (tF p.F t4 t6)) = R ∧ (R == 0) = false := ⟨_, rfl, by
        have hne : lk p (pth (nb p.F) p.A p.B (tF p.F t4 t6)) ≠ 0 := fun e => by
          rw [hlk.1 e] at hh
          cases hh
        simpa using hne⟩
      have hpk : Nk p.F { p with K := 0 } := ⟨⟨hp.1, hp.2.1, hp.2.2.1, hp.2.2.2.1, (by show InI 0; unfold InI; omega)⟩, hv, ⟨Int.le_refl _, by show (0 : Int) ≤ _; omega⟩, rfl⟩
      have hin : ∃ y ∈ (tF p.F t4 t6).ws, y.sm { p with K := 0 } = true := by
        obtain ⟨y, hy, hs⟩ := has_true.1 hh
        exact ⟨y, (tF_mem hw4 hw6 hm ha y).2 ⟨hy, ((sm_iff y p).1 hs).1⟩, hs⟩
      have KW := hid (without_ { p with K := 0 } hpk (tF p.F t4 t6) hwf hin)
      unfold Wy.px at KW
      simp only at KW
      clear hlk hh hin hpk hv
      have HTB := hid htb
      have HW4 := hid hw4
      have HW6 := hid hw6
      have HM := hid hm
      have HL := hid hl
      obtain ⟨p4, hp4⟩ := t4.vp
      obtain ⟨p6, hp6⟩ := t6.vp
      have HV4 := hid hp4
      have HV6 := hid hp6
      have mk0 : Tm w k (.pointer p4) (.pointer p6) := by
        have := htb.1
        rw [hp4, hp6] at this
        exact this
      have kpl := fun w => place_ p.F w
      rw [hz] at kl
      clear htb hw4 hw6 hm hl hp4 hp6 hwf
      unfold Wy.px
      have c0 := m0.c0
      have c1 := m0.c1
      have c2 := m0.c2
      have c3 := m0.c3
      by_cases hF : p.F = 4
      · rw [if_pos hF] at kpl
        have HTF : Hid (tF p.F t4 t6 = t4) := if_pos hF
        have kk := fun w' h => KW.out w' h
        rw [HTF.out, HV4.out] at kk
        have HFF := hid hF
        clear hF
        go_enter Try.func21, Try.ntmps21
        go_wp2_with (first | (go_at_call 40; refine (kv _).mono ?_; rintro e w1 ⟨rfl, g2⟩; have m1 := m0.kept g2; have B1 := bel_bel B0 B0.size g2; have d0 := m1.c0; have d1 := m1.c1; have d2 := m1.c2; have d3 := m1.c3) | (go_at_call 41; refine (kl _ (hb0 _ B1)).mono ?_; rintro e w2 ⟨rfl, g3⟩; have m2 := m1.kept g3; have B2 := bel_bel B1 B1.size g3; have b0 := m2.c0; have b1 := m2.c1; have b2 := m2.c2; have b3 := m2.c3; have mk2 := mk0.at (B2.block k mk0.lt); have e0 := mk2.c0; have e1 := mk2.c1) | (go_at_call 42; refine (kpl _).mono ?_; rintro e w4 ⟨rfl, rfl⟩))
        have hF := HFF.out
        replace mk0 := mk2.alloc (.cells #[.pointer p4, .pointer p6] 76)
        have mg := Tm.new w4 (.pointer p4) (.pointer p6)
        replace m0 := m2.alloc (.cells #[.pointer p4, .pointer p6] 76)
        have hsz4 := B2.size
        have hg : w.heap.size < w4.heap.size := m2.lt
        have hkg : k ≠ w4.heap.size := by have := mk2.lt; omega
        replace B0 := B2.alloc hsz4 (.cells #[.pointer p4, .pointer p6] 76)
        have mk := mk0
        clear c0 c1 c2 c3 d0 d1 d2 d3 b0 b1 b2 b3 e0 e1 m1 m2 mk2 mk0 B1 B2 g2 g3 kl kv kpl hb0
        generalize w4.heap.size = g at *
        generalize w4.alloc (.cells #[.pointer p4, .pointer p6] 76) = w5 at *
        clear hF
        refine wp_region_held_drew (S := fun wx => Tm wx k (.pointer p4) (.pointer p6) ∧ Pm wx w.heap.size p.F p.H p.L p.B) (by kernel_rfl) ⟨mk.drew, m0.drew⟩ (fun hHeld => ?_)
        replace mk := mk.drew
        replace m0 := m0.drew
        replace mg := mg.drew
        replace B0 := bel_drew1 B0
        generalize w5.drew = wv at *
        refine take_to 0 24 (.int .i64 0) rfl rfl (by kernel_rfl) (by kernel_rfl) (by kernel_rfl) (fun _ _ _ h => h) (Or.inl ⟨by rfl, fun w' h => ?_⟩) hHeld ?_
        · go_simp
        try simp only [List.setIfInBounds_toArray, List.set_cons_zero, List.set_cons_succ]
        refine take_to 1 25 (.pointer (some ⟨k, 0, none⟩)) rfl rfl (by kernel_rfl) (by kernel_rfl) (by kernel_rfl) (fun _ _ _ h => h) (Or.inl ⟨by rfl, fun w' h => ?_⟩) hHeld ?_
        · go_simp
        try simp only [List.setIfInBounds_toArray, List.set_cons_zero, List.set_cons_succ]
        refine take_to 2 26 (.int .i64 0) rfl rfl (by kernel_rfl) (by kernel_rfl) (by kernel_rfl) (fun _ _ _ h => h) (Or.inl ⟨by rfl, fun w' h => ?_⟩) hHeld ?_
        · go_simp
        try simp only [List.setIfInBounds_toArray, List.set_cons_zero, List.set_cons_succ]
        refine take_to 3 27 (.pointer (some ⟨k, 0, none⟩)) rfl rfl (by kernel_rfl) (by kernel_rfl) (by kernel_rfl) (fun _ _ _ h => h) (Or.inl ⟨by rfl, fun w' h => ?_⟩) hHeld ?_
        · go_simp
        try simp only [List.setIfInBounds_toArray, List.set_cons_zero, List.set_cons_succ]
        refine take_to 4 28 (.pointer (some ⟨k, 0, none⟩)) rfl rfl (by kernel_rfl) (by kernel_rfl) (by kernel_rfl) (fun _ _ _ h => h) (Or.inl ⟨by rfl, fun w' h => ?_⟩) hHeld ?_
        · go_simp
        try simp only [List.setIfInBounds_toArray, List.set_cons_zero, List.set_cons_succ]
        refine take_to 5 29 (.pointer (some ⟨k, 0, none⟩)) rfl rfl (by kernel_rfl) (by kernel_rfl) (by kernel_rfl) (fun _ _ _ h => h) (Or.inl ⟨by rfl, fun w' h => ?_⟩) hHeld ?_
        · go_simp
        try simp only [List.setIfInBounds_toArray, List.set_cons_zero, List.set_cons_succ]
        refine take_to 6 30 (.pointer p4) rfl rfl (by kernel_rfl) (by kernel_rfl) (by kernel_rfl) (fun _ _ _ h => h) (Or.inl ⟨by rfl, fun w' h => ?_⟩) hHeld ?_
        · have x0 := Tm.c0 h.1
          go_simp
        try simp only [List.setIfInBounds_toArray, List.set_cons_zero, List.set_cons_succ]
        refine take_to 7 31 (.agg #[.int .i64 p.F, .int .u64 p.H, .int .u64 p.L, .int .i64 p.B]) rfl rfl (by kernel_rfl) (by kernel_rfl) (by kernel_rfl) (fun _ _ _ h => h) (Or.inl ⟨by rfl, fun w' h => ?_⟩) hHeld ?_
        · have x0 := Pm.c0 h.2; have x1 := Pm.c1 h.2; have x2 := Pm.c2 h.2; have x3 := Pm.c3 h.2
          go_simp
        try simp only [List.setIfInBounds_toArray, List.set_cons_zero, List.set_cons_succ]
        refine take_to 9 33 (.pointer (some ⟨g, 0, none⟩)) rfl rfl (by kernel_rfl) (by kernel_rfl) (by kernel_rfl) (fun _ _ _ h => h) (Or.inl ⟨by rfl, fun w' h => ?_⟩) hHeld ?_
        · go_simp
        try simp only [List.setIfInBounds_toArray, List.set_cons_zero, List.set_cons_succ]
        refine wpAnyH_ready (rs := [8]) (by kernel_rfl) (by simp) ?_
        refine AllReadyH.cons rfl (fun K hK => ?_) AllReadyH.nil
        rw [if_pos (by rfl)]
        go_wp2_with fail
        have hgv : g < wv.heap.size := mg.lt
        have HBv := hid B0
        refine (kk wv (HTB.out.2.1.at (fun z hz => B0.block _ (HTB.out.2.1.lt z hz)))).mono ?_
        rintro e we ⟨⟨t1, rfl, hn1, ht1, hf1⟩, g3⟩
        obtain ⟨vp, hvp⟩ := t1.vp
        have HVP := hid hvp
        simp only [hvp]
        replace mk := mk.kept g3
        replace m0 := m0.kept g3
        replace mg := mg.kept g3
        replace B0 := bel_bel B0 B0.size g3
        clear hHeld g3 hvp
        try go_wp2_with fail
        refine hK.out _ _ ⟨mk, m0⟩ (fun hHeld => ?_)
        clear hK K
        try simp only [Act.put, List.setIfInBounds_toArray, List.set_cons_zero, List.set_cons_succ]
        refine take_to 10 34 (.pointer (some ⟨g, 0, none⟩)) rfl rfl (by kernel_rfl) (by kernel_rfl) (by kernel_rfl) (fun _ _ _ h => h) (Or.inl ⟨by rfl, fun w' h => ?_⟩) hHeld ?_
        · go_simp
        try simp only [List.setIfInBounds_toArray, List.set_cons_zero, List.set_cons_succ]
        refine wpAnyH_ready (rs := [11]) (by kernel_rfl) (by simp) ?_
        refine AllReadyH.cons rfl (fun K hK => ?_) AllReadyH.nil
        rw [if_pos (by rfl)]
        have k5 := mg.c0
        have z5 := mg.fz 0
        go_wp2_with fail
        replace mg := mg.set0 (.pointer vp)
        replace mk := mk.other (g := g) hkg 0 (.pointer vp)
        replace m0 := m0.other (g' := g) (by omega) 0 (.pointer vp)
        replace B0 := B0.setCell (p := ⟨g, 0, none⟩) (Nat.le_of_lt hg) (.pointer vp)
        refine hK.out _ _ ⟨mk, m0⟩ (fun hHeld => ?_)
        clear hK K k5 z5 hHeld
        try simp only [Act.put, List.setIfInBounds_toArray, List.set_cons_zero, List.set_cons_succ]
        refine wpAnyH_done (by kernel_rfl) ?_ _
        replace hn1 := hn1.set (hf1.ne HTB.out.2.1 (Nat.le_of_lt hg) hgv) 0 (.pointer vp)
        generalize we.setCell ⟨g, 0, none⟩ (.pointer vp) = wf at *
        go_wp2_with fail
        go_ret2
        have hF := HFF.out
        rw [← HTF.out] at ht1
        exact ⟨.inr ⟨HZ.out, _, rfl, without_tr HW4.out HW6.out HL.out HM.out HVA.out (fun _ => rfl) ht1 (fun _ => ⟨by rw [HVP.out, HV6.out]; exact mg, hn1, HTB.out.2.2.at (fun z hz => B0.block _ (HTB.out.2.2.lt z hz))⟩) (fun h => absurd hF h)⟩, B0⟩
      · rw [if_neg hF] at kpl
        have HTF : Hid (tF p.F t4 t6 = t6) := if_neg hF
        have kk := fun w' h => KW.out w' h
        rw [HTF.out, HV6.out] at kk
        have HFF := hid hF
        clear hF
        go_enter Try.func21, Try.ntmps21
        go_wp2_with (first | (go_at_call 40; refine (kv _).mono ?_; rintro e w1 ⟨rfl, g2⟩; have m1 := m0.kept g2; have B1 := bel_bel B0 B0.size g2; have d0 := m1.c0; have d1 := m1.c1; have d2 := m1.c2; have d3 := m1.c3) | (go_at_call 41; refine (kl _ (hb0 _ B1)).mono ?_; rintro e w2 ⟨rfl, g3⟩; have m2 := m1.kept g3; have B2 := bel_bel B1 B1.size g3; have b0 := m2.c0; have b1 := m2.c1; have b2 := m2.c2; have b3 := m2.c3; have mk2 := mk0.at (B2.block k mk0.lt); have e0 := mk2.c0; have e1 := mk2.c1) | (go_at_call 42; refine (kpl _).mono ?_; rintro e w4 ⟨rfl, rfl⟩))
        have hF := HFF.out
        replace mk0 := mk2.alloc (.cells #[.pointer p4, .pointer p6] 76)
        have mg := Tm.new w4 (.pointer p4) (.pointer p6)
        replace m0 := m2.alloc (.cells #[.pointer p4, .pointer p6] 76)
        have hsz4 := B2.size
        have hg : w.heap.size < w4.heap.size := m2.lt
        have hkg : k ≠ w4.heap.size := by have := mk2.lt; omega
        replace B0 := B2.alloc hsz4 (.cells #[.pointer p4, .pointer p6] 76)
        have mk := mk0
        clear c0 c1 c2 c3 d0 d1 d2 d3 b0 b1 b2 b3 e0 e1 m1 m2 mk2 mk0 B1 B2 g2 g3 kl kv kpl hb0
        generalize w4.heap.size = g at *
        generalize w4.alloc (.cells #[.pointer p4, .pointer p6] 76) = w5 at *
        clear hF
        refine wp_region_held_drew (S := fun wx => Tm wx k (.pointer p4) (.pointer p6) ∧ Pm wx w.heap.size p.F p.H p.L p.B) (by kernel_rfl) ⟨mk.drew, m0.drew⟩ (fun hHeld => ?_)
        replace mk := mk.drew
        replace m0 := m0.drew
        replace mg := mg.drew
        replace B0 := bel_drew1 B0
        generalize w5.drew = wv at *
        refine take_to 0 24 (.int .i64 1) rfl rfl (by kernel_rfl) (by kernel_rfl) (by kernel_rfl) (fun _ _ _ h => h) (Or.inl ⟨by rfl, fun w' h => ?_⟩) hHeld ?_
        · go_simp
        try simp only [List.setIfInBounds_toArray, List.set_cons_zero, List.set_cons_succ]
        refine take_to 1 25 (.pointer (some ⟨k, 0, none⟩)) rfl rfl (by kernel_rfl) (by kernel_rfl) (by kernel_rfl) (fun _ _ _ h => h) (Or.inl ⟨by rfl, fun w' h => ?_⟩) hHeld ?_
        · go_simp
        try simp only [List.setIfInBounds_toArray, List.set_cons_zero, List.set_cons_succ]
        refine take_to 2 26 (.int .i64 1) rfl rfl (by kernel_rfl) (by kernel_rfl) (by kernel_rfl) (fun _ _ _ h => h) (Or.inl ⟨by rfl, fun w' h => ?_⟩) hHeld ?_
        · go_simp
        try simp only [List.setIfInBounds_toArray, List.set_cons_zero, List.set_cons_succ]
        refine take_to 3 27 (.pointer (some ⟨k, 0, none⟩)) rfl rfl (by kernel_rfl) (by kernel_rfl) (by kernel_rfl) (fun _ _ _ h => h) (Or.inl ⟨by rfl, fun w' h => ?_⟩) hHeld ?_
        · go_simp
        try simp only [List.setIfInBounds_toArray, List.set_cons_zero, List.set_cons_succ]
        refine take_to 4 28 (.pointer (some ⟨k, 0, none⟩)) rfl rfl (by kernel_rfl) (by kernel_rfl) (by kernel_rfl) (fun _ _ _ h => h) (Or.inl ⟨by rfl, fun w' h => ?_⟩) hHeld ?_
        · go_simp
        try simp only [List.setIfInBounds_toArray, List.set_cons_zero, List.set_cons_succ]
        refine take_to 5 29 (.pointer (some ⟨k, 1, none⟩)) rfl rfl (by kernel_rfl) (by kernel_rfl) (by kernel_rfl) (fun _ _ _ h => h) (Or.inl ⟨by rfl, fun w' h => ?_⟩) hHeld ?_
        · go_simp
        try simp only [List.setIfInBounds_toArray, List.set_cons_zero, List.set_cons_succ]
        refine take_to 6 30 (.pointer p6) rfl rfl (by kernel_rfl) (by kernel_rfl) (by kernel_rfl) (fun _ _ _ h => h) (Or.inl ⟨by rfl, fun w' h => ?_⟩) hHeld ?_
        · have x0 := Tm.c1 h.1
          go_simp
        try simp only [List.setIfInBounds_toArray, List.set_cons_zero, List.set_cons_succ]
        refine take_to 7 31 (.agg #[.int .i64 p.F, .int .u64 p.H, .int .u64 p.L, .int .i64 p.B]) rfl rfl (by kernel_rfl) (by kernel_rfl) (by kernel_rfl) (fun _ _ _ h => h) (Or.inl ⟨by rfl, fun w' h => ?_⟩) hHeld ?_
        · have x0 := Pm.c0 h.2; have x1 := Pm.c1 h.2; have x2 := Pm.c2 h.2; have x3 := Pm.c3 h.2
          go_simp
        try simp only [List.setIfInBounds_toArray, List.set_cons_zero, List.set_cons_succ]
        refine take_to 9 33 (.pointer (some ⟨g, 0, none⟩)) rfl rfl (by kernel_rfl) (by kernel_rfl) (by kernel_rfl) (fun _ _ _ h => h) (Or.inl ⟨by rfl, fun w' h => ?_⟩) hHeld ?_
        · go_simp
        try simp only [List.setIfInBounds_toArray, List.set_cons_zero, List.set_cons_succ]
        refine wpAnyH_ready (rs := [8]) (by kernel_rfl) (by simp) ?_
        refine AllReadyH.cons rfl (fun K hK => ?_) AllReadyH.nil
        rw [if_pos (by rfl)]
        go_wp2_with fail
        have hgv : g < wv.heap.size := mg.lt
        have HBv := hid B0
        refine (kk wv (HTB.out.2.2.at (fun z hz => B0.block _ (HTB.out.2.2.lt z hz)))).mono ?_
        rintro e we ⟨⟨t1, rfl, hn1, ht1, hf1⟩, g3⟩
        obtain ⟨vp, hvp⟩ := t1.vp
        have HVP := hid hvp
        simp only [hvp]
        replace mk := mk.kept g3
        replace m0 := m0.kept g3
        replace mg := mg.kept g3
        replace B0 := bel_bel B0 B0.size g3
        clear hHeld g3 hvp
        try go_wp2_with fail
        refine hK.out _ _ ⟨mk, m0⟩ (fun hHeld => ?_)
        clear hK K
        try simp only [Act.put, List.setIfInBounds_toArray, List.set_cons_zero, List.set_cons_succ]
        refine take_to 10 34 (.pointer (some ⟨g, 1, none⟩)) rfl rfl (by kernel_rfl) (by kernel_rfl) (by kernel_rfl) (fun _ _ _ h => h) (Or.inl ⟨by rfl, fun w' h => ?_⟩) hHeld ?_
        · go_simp
        try simp only [List.setIfInBounds_toArray, List.set_cons_zero, List.set_cons_succ]
        refine wpAnyH_ready (rs := [11]) (by kernel_rfl) (by simp) ?_
        refine AllReadyH.cons rfl (fun K hK => ?_) AllReadyH.nil
        rw [if_pos (by rfl)]
        have k5 := mg.c1
        have z5 := mg.fz 1
        go_wp2_with fail
        replace mg := mg.set1 (.pointer vp)
        replace mk := mk.other (g := g) hkg 1 (.pointer vp)
        replace m0 := m0.other (g' := g) (by omega) 1 (.pointer vp)
        replace B0 := B0.setCell (p := ⟨g, 1, none⟩) (Nat.le_of_lt hg) (.pointer vp)
        refine hK.out _ _ ⟨mk, m0⟩ (fun hHeld => ?_)
        clear hK K k5 z5 hHeld
        try simp only [Act.put, List.setIfInBounds_toArray, List.set_cons_zero, List.set_cons_succ]
        refine wpAnyH_done (by kernel_rfl) ?_ _
        replace hn1 := hn1.set (hf1.ne HTB.out.2.2 (Nat.le_of_lt hg) hgv) 1 (.pointer vp)
        generalize we.setCell ⟨g, 1, none⟩ (.pointer vp) = wf at *
        go_wp2_with fail
        go_ret2
        have hF := HFF.out
        rw [← HTF.out] at ht1
        exact ⟨.inr ⟨HZ.out, _, rfl, without_tr HW4.out HW6.out HL.out HM.out HVA.out (fun _ => rfl) ht1 (fun h => absurd h hF) (fun _ => ⟨by rw [HVP.out, HV4.out]; exact mg, HTB.out.2.1.at (fun z hz => B0.block _ (HTB.out.2.1.lt z hz)), hn1⟩)⟩, B0⟩
end Go.Proofs.Ytcaecfdeieoenaa
