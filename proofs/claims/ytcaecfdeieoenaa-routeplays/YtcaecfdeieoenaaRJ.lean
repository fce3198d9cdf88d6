import Derived.Test.YtcaecfdeieoenaaRI
namespace Go.Proofs.Ytcaecfdeieoenaa
set_option maxRecDepth 100000
open Go.RowKit
set_option linter.unusedVariables false

/-- Go's remainder, brought up from below 0. -/
theorem place8 (x M : Int) (h0 : 0 < M) (hM : M ≤ 4611686018427387904) : ∃ k : Nat, (k : Int) < M ∧ (wrap64 (x.tmod M + M)).tmod M = k := by
  have h1 := Int.tmod_lt_of_pos x h0
  have h2 := Int.lt_tmod_of_pos x h0
  generalize x.tmod M = r at *
  have e : wrap64 (r + M) = r + M := by
    unfold wrap64
    omega
  rw [e, Int.tmod_eq_emod_of_nonneg (by omega)]
  have h3 := Int.emod_nonneg (r + M) (show M ≠ 0 by omega)
  have h4 := Int.emod_lt_of_pos (r + M) h0
  exact ⟨((r + M) % M).toNat, by omega, by omega⟩
/-- A row of tables of one's own, with one at least. -/
theorem own_slice {w : World} {base n : Nat} {t : TypeId} {v : Value} {xs : List Value} (h : w.ownsRow base t 1 v n xs) (hn : 0 < n) : ∃ g c, v = .slice (some ⟨g, 0, none⟩) n c ∧ n ≤ c ∧ c ≤ maxLen ∧ ∀ i u, xs[i]? = some u → w.cell? ⟨g, i, none⟩ = some u := by
  rcases h.2 with ⟨_, h0⟩ | ⟨g, cap, cur, e, _, hg, h1, h2, _, _⟩
  · omega
  · refine ⟨g, cap, e, h1, h2, fun i u hu => ?_⟩
    have := h.cells (g := g) (by rw [e]; rfl) i u hu
    rwa [Addr.add_lit, Nat.zero_add] at this
/-- A step in a variable, the world, the two rows, and a table and a list in them. -/
def SS (k B gt gr i : Nat) (vt vr x y : Value) (p : Wy) (F H L : Int) (w0 w : World) : Prop :=
  (w.cell? ⟨k, 0, none⟩ = some vt ∧ w.cell? ⟨k, 1, none⟩ = some vr ∧ w.cell? ⟨gt, i, none⟩ = some x ∧ w.cell? ⟨gr, i, none⟩ = some y ∧ w.cell? ⟨B, 2, none⟩ = some (.int .i64 p.K) ∧ w.cell? ⟨B, 3, none⟩ = some (.int .i64 p.F) ∧ w.cell? ⟨B, 4, none⟩ = some (.int .u64 p.H) ∧ w.cell? ⟨B, 5, none⟩ = some (.int .u64 p.L) ∧ w.cell? ⟨B, 6, none⟩ = some (.int .i64 p.B) ∧ w.cell? ⟨B, 7, none⟩ = some (.int .i64 F) ∧ w.cell? ⟨B, 8, none⟩ = some (.int .u64 H) ∧ w.cell? ⟨B, 9, none⟩ = some (.int .u64 L)) ∧ Below w0.heap.size w0 w
theorem SS.kept {k B gt gr i : Nat} {vt vr x y : Value} {p : Wy} {F H L : Int} {w0 w w' : World} (h : SS k B gt gr i vt vr x y p F H L w0 w) (hb : Below w.heap.size w w') : SS k B gt gr i vt vr x y p F H L w0 w' := by
  obtain ⟨⟨a0, a1, a2, a3, a4, a5, a6, a7, a8, a9, b0, b1⟩, b⟩ := h
  exact ⟨⟨cell_be8 hb a0, cell_be8 hb a1, cell_be8 hb a2, cell_be8 hb a3, cell_be8 hb a4, cell_be8 hb a5, cell_be8 hb a6, cell_be8 hb a7, cell_be8 hb a8, cell_be8 hb a9, cell_be8 hb b0, cell_be8 hb b1⟩, bel_bel b b.size hb⟩
theorem SS.drew {k B gt gr i : Nat} {vt vr x y : Value} {p : Wy} {F H L : Int} {w0 w : World} (h : SS k B gt gr i vt vr x y p F H L w0 w) : SS k B gt gr i vt vr x y p F H L w0 w.drew := h.kept ⟨rfl, rfl, rfl, Nat.le_refl _, fun _ _ => rfl⟩
theorem bel_drew8 (w : World) : Below w.heap.size w w.drew := ⟨rfl, rfl, rfl, Nat.le_refl _, fun _ _ => rfl⟩
theorem rt_ptr {w : World} {v : Value} {l : List Wy} (h : Rt w v l) : ∃ k, v = .pointer (some ⟨k, 0, none⟩) := by
  obtain ⟨k, _, e, _⟩ := h
  exact ⟨k, e⟩
/-- Every list is no longer than there are tables. -/
def Le (E : List En) : Prop := ∀ e ∈ E, e.2.2.length ≤ E.length
theorem le_snoc {E : List En} {e : En} (h : Le E) (he : e.2.2.length ≤ E.length + 1) : Le (E ++ [e]) := fun x hx => by
  rw [List.length_append, List.length_singleton]
  rcases List.mem_append.1 hx with hx | hx
  · exact Nat.le_trans (h x hx) (Nat.le_succ _)
  · rw [List.mem_singleton] at hx
    subst hx
    exact he
set_option maxHeartbeats 8000000 in
theorem step_ {Tr : World → Value → List Wy → Prop} (R : Rte Tr) (hO : Ofw Tr) (k : Nat) (E : List En) (K T : Int) (p : Wy) (F H L : Int) (w0 w : World) (h : Pl Tr w0 w k E) (h0 : 0 < E.length) (hE : E.length ≤ 500) (hLe : Le E) (hp : p.In) (hF : InI F) (hH : InU H) (hL : InU L) :
    Calls Try.prog 10 #[.pointer (some ⟨k, 0, none⟩), .agg #[.int .i64 K, .int .i64 T, .int .i64 p.K, .int .i64 p.F, .int .u64 p.H, .int .u64 p.L, .int .i64 p.B, .int .i64 F, .int .u64 H, .int .u64 L]] w fun en w' => en = .returned (.bool true) ∧ ∃ E', Pl Tr w0 w' k E' ∧ E.length ≤ E'.length ∧ E'.length ≤ E.length + 1 ∧ Le E' := by
  have Bw : Below w.heap.size w (w.alloc (.cells #[.int .i64 K, .int .i64 T, .int .i64 p.K, .int .i64 p.F, .int .u64 p.H, .int .u64 p.L, .int .i64 p.B, .int .i64 F, .int .u64 H, .int .u64 L] 34)) := (Below.refl _ _).alloc (Nat.le_refl _) _
  have P1 := h.kept R Bw
  obtain ⟨vt, vr, h1, h2, h3⟩ := P1.own
  obtain ⟨gt, ct, rfl, t1, t2, t3⟩ := own_slice h2 h0
  obtain ⟨gr, cr, rfl, r1, r2, r3⟩ := own_slice h3 h0
  obtain ⟨i, hi, hpl⟩ := place8 T E.length (by omega) (by omega)
  have hi' : i < E.length := by omega
  obtain ⟨x, y, l, hxy⟩ : ∃ x y l, E[i]? = some (x, y, l) := ⟨_, _, _, List.getElem?_eq_getElem hi'⟩
  have hmem : (x, y, l) ∈ E := List.mem_of_getElem? hxy
  obtain ⟨HTx, HRy⟩ := P1.tr _ hmem
  have hl9 : l.length ≤ E.length := hLe _ hmem
  have cx := t3 i x (by rw [List.getElem?_map, hxy]; rfl)
  have cy := r3 i y (by rw [List.getElem?_map, hxy]; rfl)
  have q0 : _ = some (Value.slice (some ⟨gt, 0, none⟩) E.length ct) := (cell_of_row _ _ 0 _ _ (0, 0) h1).trans rfl
  have q1 : _ = some (Value.slice (some ⟨gr, 0, none⟩) E.length cr) := (cell_of_row _ _ 1 _ _ (0, 0) h1).trans rfl
  have hs := heap_alloc_new w (.cells #[.int .i64 K, .int .i64 T, .int .i64 p.K, .int .i64 p.F, .int .u64 p.H, .int .u64 p.L, .int .i64 p.B, .int .i64 F, .int .u64 H, .int .u64 L] 34)
  have s0 : _ = some (Value.int .i64 K) := (cell_of_row _ _ 0 _ _ (0, 0) hs).trans rfl
  have s1 : _ = some (Value.int .i64 T) := (cell_of_row _ _ 1 _ _ (0, 0) hs).trans rfl
  have hS := SS.drew (k := k) (B := w.heap.size) (gt := gt) (gr := gr) (i := i) (vt := .slice (some ⟨gt, 0, none⟩) E.length ct) (vr := .slice (some ⟨gr, 0, none⟩) E.length cr) (x := x) (y := y) (p := p) (F := F) (H := H) (L := L) (w0 := w.alloc (.cells #[.int .i64 K, .int .i64 T, .int .i64 p.K, .int .i64 p.F, .int .u64 p.H, .int .u64 p.L, .int .i64 p.B, .int .i64 F, .int .u64 H, .int .u64 L] 34)) ⟨⟨q0, q1, cx, cy, (cell_of_row _ _ 2 _ _ (0, 0) hs).trans rfl, (cell_of_row _ _ 3 _ _ (0, 0) hs).trans rfl, (cell_of_row _ _ 4 _ _ (0, 0) hs).trans rfl, (cell_of_row _ _ 5 _ _ (0, 0) hs).trans rfl, (cell_of_row _ _ 6 _ _ (0, 0) hs).trans rfl, (cell_of_row _ _ 7 _ _ (0, 0) hs).trans rfl, (cell_of_row _ _ 8 _ _ (0, 0) hs).trans rfl, (cell_of_row _ _ 9 _ _ (0, 0) hs).trans rfl⟩, Below.refl _ _⟩
  obtain ⟨xa, rfl⟩ := R.ptr HTx
  obtain ⟨ky, rfl⟩ : ∃ ky, y = .pointer (some ⟨ky, 0, none⟩) := by
    obtain ⟨ky, _, e, _⟩ := id HRy
    exact ⟨ky, e⟩
  have HPl := hid P1
  have HX := hid HTx
  have HY := hid HRy
  clear h P1 h1 h2 h3 t3 r3 hxy hmem HTx HRy cx cy hs Bw
  unfold maxLen at t2 r2
  have hnE : ¬ (E.length : Int) = 0 := by omega
  have hiE : (i : Int) < (E.length : Int) := hi
  by_cases hK1 : K = 1
  · subst hK1
    by_cases hE0 : wE p l = 0
    · have kT : ∀ W, Tr W (.pointer (some xa)) l → Calls Try.prog 19 #[.pointer (some xa), .agg #[.int .i64 p.F, .int .u64 p.H, .int .u64 p.L, .int .i64 p.B], .int .i64 p.K] W fun e w' => (∃ v', e = .returned (.tuple #[v', .int .i64 0]) ∧ Tr w' v' (ins p l)) ∧ Below W.heap.size W w' := fun W hW => (R.with_ W _ l p hW hp (by omega)).mono (fun e w' h => ⟨h.1.elim (fun h => absurd hE0 h.1) (fun h => h.2), h.2⟩)
      have kR : ∀ W, Rt W (.pointer (some ⟨ky, 0, none⟩)) l → Calls Try.prog 23 #[.pointer (some ⟨ky, 0, none⟩), .agg #[.int .i64 p.F, .int .u64 p.H, .int .u64 p.L, .int .i64 p.B], .int .i64 p.K] W fun e w' => (∃ v', e = .returned (.tuple #[v', .int .i64 0]) ∧ Rt w' v' (ins p l)) ∧ Below W.heap.size W w' := fun W hW => (refWith_ _ l p W hW hp (by omega)).mono (fun e w' h => ⟨h.1.elim (fun h => absurd hE0 h.1) (fun h => h.2), h.2⟩)
      clear hE0
      go_enter Try.func10, Try.ntmps10
      go_wp2_with fail
      generalize w.alloc (.cells #[.int .i64 1, .int .i64 T, .int .i64 p.K, .int .i64 p.F, .int .u64 p.H, .int .u64 p.L, .int .i64 p.B, .int .i64 F, .int .u64 H, .int .u64 L] 34) = wb at *
      generalize w.heap.size = B at *
      refine wp_region_held_drew (S := SS k B gt gr i (.slice (some ⟨gt, 0, none⟩) E.length ct) (.slice (some ⟨gr, 0, none⟩) E.length cr) (.pointer (some xa)) (.pointer (some ⟨ky, 0, none⟩)) p F H L wb) (by kernel_rfl) hS (fun hHeld => ?_)
      clear hS
      generalize wb.drew = v0 at *
      refine take_to8 0 37 (.pointer (some ⟨k, 0, none⟩)) rfl rfl (by kernel_rfl) (by kernel_rfl) (by kernel_rfl) (fun _ _ _ h => h) (Or.inl ⟨by rfl, fun w' h => ?_⟩) hHeld ?_
      · obtain ⟨⟨a0, a1, a2, a3, a4, a5, a6, a7, a8, a9, b0, b1⟩, _⟩ := h
        go_simp
      try simp only [List.setIfInBounds_toArray, List.set_cons_zero, List.set_cons_succ]
      refine take_to8 1 38 (.pointer (some ⟨k, 0, none⟩)) rfl rfl (by kernel_rfl) (by kernel_rfl) (by kernel_rfl) (fun _ _ _ h => h) (Or.inl ⟨by rfl, fun w' h => ?_⟩) hHeld ?_
      · obtain ⟨⟨a0, a1, a2, a3, a4, a5, a6, a7, a8, a9, b0, b1⟩, _⟩ := h
        go_simp
      try simp only [List.setIfInBounds_toArray, List.set_cons_zero, List.set_cons_succ]
      refine take_to8 2 39 (.pointer (some ⟨k, 0, none⟩)) rfl rfl (by kernel_rfl) (by kernel_rfl) (by kernel_rfl) (fun _ _ _ h => h) (Or.inl ⟨by rfl, fun w' h => ?_⟩) hHeld ?_
      · obtain ⟨⟨a0, a1, a2, a3, a4, a5, a6, a7, a8, a9, b0, b1⟩, _⟩ := h
        go_simp
      try simp only [List.setIfInBounds_toArray, List.set_cons_zero, List.set_cons_succ]
      refine take_to8 3 40 (.slice (some ⟨gt, 0, none⟩) E.length ct) rfl rfl (by kernel_rfl) (by kernel_rfl) (by kernel_rfl) (fun _ _ _ h => h) (Or.inl ⟨by rfl, fun w' h => ?_⟩) hHeld ?_
      · obtain ⟨⟨a0, a1, a2, a3, a4, a5, a6, a7, a8, a9, b0, b1⟩, _⟩ := h
        go_simp
      try simp only [List.setIfInBounds_toArray, List.set_cons_zero, List.set_cons_succ]
      refine take_to8 4 41 (.int .i64 i) rfl rfl (by kernel_rfl) (by kernel_rfl) (by kernel_rfl) (fun _ _ _ h => h) (Or.inl ⟨by rfl, fun w' h => ?_⟩) hHeld ?_
      · obtain ⟨⟨a0, a1, a2, a3, a4, a5, a6, a7, a8, a9, b0, b1⟩, _⟩ := h
        go_simp
      try simp only [List.setIfInBounds_toArray, List.set_cons_zero, List.set_cons_succ]
      refine take_to8 5 42 (.pointer (some ⟨gt, i, none⟩)) rfl rfl (by kernel_rfl) (by kernel_rfl) (by kernel_rfl) (fun _ _ _ h => h) (Or.inl ⟨by rfl, fun w' h => ?_⟩) hHeld ?_
      · obtain ⟨⟨a0, a1, a2, a3, a4, a5, a6, a7, a8, a9, b0, b1⟩, _⟩ := h
        go_simp
      try simp only [List.setIfInBounds_toArray, List.set_cons_zero, List.set_cons_succ]
      refine take_to8 6 43 (.pointer (some xa)) rfl rfl (by kernel_rfl) (by kernel_rfl) (by kernel_rfl) (fun _ _ _ h => h) (Or.inl ⟨by rfl, fun w' h => ?_⟩) hHeld ?_
      · obtain ⟨⟨a0, a1, a2, a3, a4, a5, a6, a7, a8, a9, b0, b1⟩, _⟩ := h
        go_simp
      try simp only [List.setIfInBounds_toArray, List.set_cons_zero, List.set_cons_succ]
      refine take_to8 7 44 (.pointer (some ⟨B, 3, none⟩)) rfl rfl (by kernel_rfl) (by kernel_rfl) (by kernel_rfl) (fun _ _ _ h => h) (Or.inl ⟨by rfl, fun w' h => ?_⟩) hHeld ?_
      · obtain ⟨⟨a0, a1, a2, a3, a4, a5, a6, a7, a8, a9, b0, b1⟩, _⟩ := h
        go_simp
      try simp only [List.setIfInBounds_toArray, List.set_cons_zero, List.set_cons_succ]
      refine take_to8 8 45 (.agg #[.int .i64 p.F, .int .u64 p.H, .int .u64 p.L, .int .i64 p.B]) rfl rfl (by kernel_rfl) (by kernel_rfl) (by kernel_rfl) (fun _ _ _ h => h) (Or.inl ⟨by rfl, fun w' h => ?_⟩) hHeld ?_
      · obtain ⟨⟨a0, a1, a2, a3, a4, a5, a6, a7, a8, a9, b0, b1⟩, _⟩ := h
        go_simp
      try simp only [List.setIfInBounds_toArray, List.set_cons_zero, List.set_cons_succ]
      refine take_to8 9 46 (.pointer (some ⟨B, 2, none⟩)) rfl rfl (by kernel_rfl) (by kernel_rfl) (by kernel_rfl) (fun _ _ _ h => h) (Or.inl ⟨by rfl, fun w' h => ?_⟩) hHeld ?_
      · obtain ⟨⟨a0, a1, a2, a3, a4, a5, a6, a7, a8, a9, b0, b1⟩, _⟩ := h
        go_simp
      try simp only [List.setIfInBounds_toArray, List.set_cons_zero, List.set_cons_succ]
      refine take_to8 10 47 (.int .i64 p.K) rfl rfl (by kernel_rfl) (by kernel_rfl) (by kernel_rfl) (fun _ _ _ h => h) (Or.inl ⟨by rfl, fun w' h => ?_⟩) hHeld ?_
      · obtain ⟨⟨a0, a1, a2, a3, a4, a5, a6, a7, a8, a9, b0, b1⟩, _⟩ := h
        go_simp
      try simp only [List.setIfInBounds_toArray, List.set_cons_zero, List.set_cons_succ]
      refine wpAnyH_ready (rs := [11]) (by kernel_rfl) (by simp) ?_
      refine AllReadyH.cons rfl (fun K' hK' => ?_) AllReadyH.nil
      rw [if_pos (by rfl)]
      go_wp2_with fail
      refine (kT _ (R.kept HX.out hHeld.2)).mono ?_
      rintro e v1 ⟨⟨v', rfl, hu⟩, g6⟩
      have hS6 := hHeld.kept g6
      clear hHeld
      obtain ⟨tb, rfl⟩ := R.ptr hu
      have HU := hid hu
      clear hu
      try go_wp2_with fail
      refine hK'.out _ _ hS6 (fun hHeld => ?_)
      clear hK' K' hS6
      try simp only [Act.put, List.setIfInBounds_toArray, List.set_cons_zero, List.set_cons_succ]
      refine take_to8 12 36 (.tuple #[.pointer (some tb), .int .i64 0]) rfl rfl (by kernel_rfl) (by kernel_rfl) (by kernel_rfl) (fun _ _ _ h => h) (Or.inl ⟨by rfl, fun w' h => ?_⟩) hHeld ?_
      · obtain ⟨⟨a0, a1, a2, a3, a4, a5, a6, a7, a8, a9, b0, b1⟩, _⟩ := h
        go_simp
      try simp only [List.setIfInBounds_toArray, List.set_cons_zero, List.set_cons_succ]
      refine take_to8 13 49 (.pointer (some tb)) rfl rfl (by kernel_rfl) (by kernel_rfl) (by kernel_rfl) (fun _ _ _ h => h) (Or.inl ⟨by rfl, fun w' h => ?_⟩) hHeld ?_
      · obtain ⟨⟨a0, a1, a2, a3, a4, a5, a6, a7, a8, a9, b0, b1⟩, _⟩ := h
        go_simp
      try simp only [List.setIfInBounds_toArray, List.set_cons_zero, List.set_cons_succ]
      refine take_to8 14 50 (.int .i64 0) rfl rfl (by kernel_rfl) (by kernel_rfl) (by kernel_rfl) (fun _ _ _ h => h) (Or.inl ⟨by rfl, fun w' h => ?_⟩) hHeld ?_
      · obtain ⟨⟨a0, a1, a2, a3, a4, a5, a6, a7, a8, a9, b0, b1⟩, _⟩ := h
        go_simp
      try simp only [List.setIfInBounds_toArray, List.set_cons_zero, List.set_cons_succ]
      refine take_to8 15 7 (.pointer (some tb)) rfl rfl (by kernel_rfl) (by kernel_rfl) (by kernel_rfl) (fun _ _ _ h => h) (Or.inl ⟨by rfl, fun w' h => ?_⟩) hHeld ?_
      · obtain ⟨⟨a0, a1, a2, a3, a4, a5, a6, a7, a8, a9, b0, b1⟩, _⟩ := h
        go_simp
      try simp only [List.setIfInBounds_toArray, List.set_cons_zero, List.set_cons_succ]
      refine take_to8 16 8 (.int .i64 0) rfl rfl (by kernel_rfl) (by kernel_rfl) (by kernel_rfl) (fun _ _ _ h => h) (Or.inl ⟨by rfl, fun w' h => ?_⟩) hHeld ?_
      · obtain ⟨⟨a0, a1, a2, a3, a4, a5, a6, a7, a8, a9, b0, b1⟩, _⟩ := h
        go_simp
      try simp only [List.setIfInBounds_toArray, List.set_cons_zero, List.set_cons_succ]
      refine wpAnyH_done (by kernel_rfl) ?_ _
      have hS := hHeld
      clear hHeld
      go_wp2_with fail
      refine wp_region_held_drew (S := SS k B gt gr i (.slice (some ⟨gt, 0, none⟩) E.length ct) (.slice (some ⟨gr, 0, none⟩) E.length cr) (.pointer (some xa)) (.pointer (some ⟨ky, 0, none⟩)) p F H L wb) (by kernel_rfl) hS.drew (fun hHeld => ?_)
      clear hS
      replace HU := hid (R.kept HU.out (bel_drew8 v1))
      generalize v1.drew = v2 at *
      refine take_to8 0 52 (.pointer (some ⟨k, 0, none⟩)) rfl rfl (by kernel_rfl) (by kernel_rfl) (by kernel_rfl) (fun _ _ _ h => h) (Or.inl ⟨by rfl, fun w' h => ?_⟩) hHeld ?_
      · obtain ⟨⟨a0, a1, a2, a3, a4, a5, a6, a7, a8, a9, b0, b1⟩, _⟩ := h
        go_simp
      try simp only [List.setIfInBounds_toArray, List.set_cons_zero, List.set_cons_succ]
      refine take_to8 1 53 (.pointer (some ⟨k, 0, none⟩)) rfl rfl (by kernel_rfl) (by kernel_rfl) (by kernel_rfl) (fun _ _ _ h => h) (Or.inl ⟨by rfl, fun w' h => ?_⟩) hHeld ?_
      · obtain ⟨⟨a0, a1, a2, a3, a4, a5, a6, a7, a8, a9, b0, b1⟩, _⟩ := h
        go_simp
      try simp only [List.setIfInBounds_toArray, List.set_cons_zero, List.set_cons_succ]
      refine take_to8 2 54 (.pointer (some ⟨k, 1, none⟩)) rfl rfl (by kernel_rfl) (by kernel_rfl) (by kernel_rfl) (fun _ _ _ h => h) (Or.inl ⟨by rfl, fun w' h => ?_⟩) hHeld ?_
      · obtain ⟨⟨a0, a1, a2, a3, a4, a5, a6, a7, a8, a9, b0, b1⟩, _⟩ := h
        go_simp
      try simp only [List.setIfInBounds_toArray, List.set_cons_zero, List.set_cons_succ]
      refine take_to8 3 55 (.slice (some ⟨gr, 0, none⟩) E.length cr) rfl rfl (by kernel_rfl) (by kernel_rfl) (by kernel_rfl) (fun _ _ _ h => h) (Or.inl ⟨by rfl, fun w' h => ?_⟩) hHeld ?_
      · obtain ⟨⟨a0, a1, a2, a3, a4, a5, a6, a7, a8, a9, b0, b1⟩, _⟩ := h
        go_simp
      try simp only [List.setIfInBounds_toArray, List.set_cons_zero, List.set_cons_succ]
      refine take_to8 4 56 (.int .i64 i) rfl rfl (by kernel_rfl) (by kernel_rfl) (by kernel_rfl) (fun _ _ _ h => h) (Or.inl ⟨by rfl, fun w' h => ?_⟩) hHeld ?_
      · obtain ⟨⟨a0, a1, a2, a3, a4, a5, a6, a7, a8, a9, b0, b1⟩, _⟩ := h
        go_simp
      try simp only [List.setIfInBounds_toArray, List.set_cons_zero, List.set_cons_succ]
      refine take_to8 5 57 (.pointer (some ⟨gr, i, none⟩)) rfl rfl (by kernel_rfl) (by kernel_rfl) (by kernel_rfl) (fun _ _ _ h => h) (Or.inl ⟨by rfl, fun w' h => ?_⟩) hHeld ?_
      · obtain ⟨⟨a0, a1, a2, a3, a4, a5, a6, a7, a8, a9, b0, b1⟩, _⟩ := h
        go_simp
      try simp only [List.setIfInBounds_toArray, List.set_cons_zero, List.set_cons_succ]
      refine take_to8 6 58 (.pointer (some ⟨ky, 0, none⟩)) rfl rfl (by kernel_rfl) (by kernel_rfl) (by kernel_rfl) (fun _ _ _ h => h) (Or.inl ⟨by rfl, fun w' h => ?_⟩) hHeld ?_
      · obtain ⟨⟨a0, a1, a2, a3, a4, a5, a6, a7, a8, a9, b0, b1⟩, _⟩ := h
        go_simp
      try simp only [List.setIfInBounds_toArray, List.set_cons_zero, List.set_cons_succ]
      refine take_to8 7 59 (.pointer (some ⟨B, 3, none⟩)) rfl rfl (by kernel_rfl) (by kernel_rfl) (by kernel_rfl) (fun _ _ _ h => h) (Or.inl ⟨by rfl, fun w' h => ?_⟩) hHeld ?_
      · obtain ⟨⟨a0, a1, a2, a3, a4, a5, a6, a7, a8, a9, b0, b1⟩, _⟩ := h
        go_simp
      try simp only [List.setIfInBounds_toArray, List.set_cons_zero, List.set_cons_succ]
      refine take_to8 8 60 (.agg #[.int .i64 p.F, .int .u64 p.H, .int .u64 p.L, .int .i64 p.B]) rfl rfl (by kernel_rfl) (by kernel_rfl) (by kernel_rfl) (fun _ _ _ h => h) (Or.inl ⟨by rfl, fun w' h => ?_⟩) hHeld ?_
      · obtain ⟨⟨a0, a1, a2, a3, a4, a5, a6, a7, a8, a9, b0, b1⟩, _⟩ := h
        go_simp
      try simp only [List.setIfInBounds_toArray, List.set_cons_zero, List.set_cons_succ]
      refine take_to8 9 61 (.pointer (some ⟨B, 2, none⟩)) rfl rfl (by kernel_rfl) (by kernel_rfl) (by kernel_rfl) (fun _ _ _ h => h) (Or.inl ⟨by rfl, fun w' h => ?_⟩) hHeld ?_
      · obtain ⟨⟨a0, a1, a2, a3, a4, a5, a6, a7, a8, a9, b0, b1⟩, _⟩ := h
        go_simp
      try simp only [List.setIfInBounds_toArray, List.set_cons_zero, List.set_cons_succ]
      refine take_to8 10 62 (.int .i64 p.K) rfl rfl (by kernel_rfl) (by kernel_rfl) (by kernel_rfl) (fun _ _ _ h => h) (Or.inl ⟨by rfl, fun w' h => ?_⟩) hHeld ?_
      · obtain ⟨⟨a0, a1, a2, a3, a4, a5, a6, a7, a8, a9, b0, b1⟩, _⟩ := h
        go_simp
      try simp only [List.setIfInBounds_toArray, List.set_cons_zero, List.set_cons_succ]
      refine wpAnyH_ready (rs := [11]) (by kernel_rfl) (by simp) ?_
      refine AllReadyH.cons rfl (fun K' hK' => ?_) AllReadyH.nil
      rw [if_pos (by rfl)]
      go_wp2_with fail
      refine (kR _ (HY.out.kept hHeld.2)).mono ?_
      rintro e v3 ⟨⟨v', rfl, hr⟩, g6⟩
      have hS6 := hHeld.kept g6
      clear hHeld
      obtain ⟨kb, rfl⟩ := rt_ptr hr
      have HR := hid hr
      replace HU := hid (R.kept HU.out g6)
      clear hr
      try go_wp2_with fail
      refine hK'.out _ _ hS6 (fun hHeld => ?_)
      clear hK' K' hS6
      try simp only [Act.put, List.setIfInBounds_toArray, List.set_cons_zero, List.set_cons_succ]
      refine take_to8 12 51 (.tuple #[.pointer (some ⟨kb, 0, none⟩), .int .i64 0]) rfl rfl (by kernel_rfl) (by kernel_rfl) (by kernel_rfl) (fun _ _ _ h => h) (Or.inl ⟨by rfl, fun w' h => ?_⟩) hHeld ?_
      · obtain ⟨⟨a0, a1, a2, a3, a4, a5, a6, a7, a8, a9, b0, b1⟩, _⟩ := h
        go_simp
      try simp only [List.setIfInBounds_toArray, List.set_cons_zero, List.set_cons_succ]
      refine take_to8 13 64 (.pointer (some ⟨kb, 0, none⟩)) rfl rfl (by kernel_rfl) (by kernel_rfl) (by kernel_rfl) (fun _ _ _ h => h) (Or.inl ⟨by rfl, fun w' h => ?_⟩) hHeld ?_
      · obtain ⟨⟨a0, a1, a2, a3, a4, a5, a6, a7, a8, a9, b0, b1⟩, _⟩ := h
        go_simp
      try simp only [List.setIfInBounds_toArray, List.set_cons_zero, List.set_cons_succ]
      refine take_to8 14 65 (.int .i64 0) rfl rfl (by kernel_rfl) (by kernel_rfl) (by kernel_rfl) (fun _ _ _ h => h) (Or.inl ⟨by rfl, fun w' h => ?_⟩) hHeld ?_
      · obtain ⟨⟨a0, a1, a2, a3, a4, a5, a6, a7, a8, a9, b0, b1⟩, _⟩ := h
        go_simp
      try simp only [List.setIfInBounds_toArray, List.set_cons_zero, List.set_cons_succ]
      refine take_to8 15 9 (.pointer (some ⟨kb, 0, none⟩)) rfl rfl (by kernel_rfl) (by kernel_rfl) (by kernel_rfl) (fun _ _ _ h => h) (Or.inl ⟨by rfl, fun w' h => ?_⟩) hHeld ?_
      · obtain ⟨⟨a0, a1, a2, a3, a4, a5, a6, a7, a8, a9, b0, b1⟩, _⟩ := h
        go_simp
      try simp only [List.setIfInBounds_toArray, List.set_cons_zero, List.set_cons_succ]
      refine take_to8 16 10 (.int .i64 0) rfl rfl (by kernel_rfl) (by kernel_rfl) (by kernel_rfl) (fun _ _ _ h => h) (Or.inl ⟨by rfl, fun w' h => ?_⟩) hHeld ?_
      · obtain ⟨⟨a0, a1, a2, a3, a4, a5, a6, a7, a8, a9, b0, b1⟩, _⟩ := h
        go_simp
      try simp only [List.setIfInBounds_toArray, List.set_cons_zero, List.set_cons_succ]
      refine wpAnyH_done (by kernel_rfl) ?_ _
      have hS := hHeld
      clear hHeld
      go_wp2_with fail
      refine (num_ _ _).mono ?_
      rintro e v4 ⟨rfl, hw5⟩
      obtain rfl := hw5.symm
      go_wp2_with fail
      refine (made_some R hO k E _ _ (ins p l) w0 v3 (HPl.out.kept R hS.2) HU.out HR.out (by omega)).mono ?_
      rintro e v5 ⟨rfl, hp5⟩
      go_wp2_with fail
      go_ret
      exact ⟨rfl, _, hp5, by simp, by simp, le_snoc hLe (by show (ins p l).length ≤ _; rw [length_ins]; omega)⟩
    · have kT : ∀ W, Tr W (.pointer (some xa)) l → Calls Try.prog 19 #[.pointer (some xa), .agg #[.int .i64 p.F, .int .u64 p.H, .int .u64 p.L, .int .i64 p.B], .int .i64 p.K] W fun e w' => e = .returned (.tuple #[.pointer none, .int .i64 (wE p l)]) ∧ Below W.heap.size W w' := fun W hW => (R.with_ W _ l p hW hp (by omega)).mono (fun e w' h => ⟨h.1.elim (fun h => h.2) (fun h => absurd h.1 hE0), h.2⟩)
      have kR : ∀ W, Rt W (.pointer (some ⟨ky, 0, none⟩)) l → Calls Try.prog 23 #[.pointer (some ⟨ky, 0, none⟩), .agg #[.int .i64 p.F, .int .u64 p.H, .int .u64 p.L, .int .i64 p.B], .int .i64 p.K] W fun e w' => e = .returned (.tuple #[.pointer none, .int .i64 (wE p l)]) ∧ Below W.heap.size W w' := fun W hW => (refWith_ _ l p W hW hp (by omega)).mono (fun e w' h => ⟨h.1.elim (fun h => h.2) (fun h => absurd h.1 hE0), h.2⟩)
      generalize wE p l = Er at *
      clear hE0
      go_enter Try.func10, Try.ntmps10
      go_wp2_with fail
      generalize w.alloc (.cells #[.int .i64 1, .int .i64 T, .int .i64 p.K, .int .i64 p.F, .int .u64 p.H, .int .u64 p.L, .int .i64 p.B, .int .i64 F, .int .u64 H, .int .u64 L] 34) = wb at *
      generalize w.heap.size = B at *
      refine wp_region_held_drew (S := SS k B gt gr i (.slice (some ⟨gt, 0, none⟩) E.length ct) (.slice (some ⟨gr, 0, none⟩) E.length cr) (.pointer (some xa)) (.pointer (some ⟨ky, 0, none⟩)) p F H L wb) (by kernel_rfl) hS (fun hHeld => ?_)
      clear hS
      generalize wb.drew = v0 at *
      refine take_to8 0 37 (.pointer (some ⟨k, 0, none⟩)) rfl rfl (by kernel_rfl) (by kernel_rfl) (by kernel_rfl) (fun _ _ _ h => h) (Or.inl ⟨by rfl, fun w' h => ?_⟩) hHeld ?_
      · obtain ⟨⟨a0, a1, a2, a3, a4, a5, a6, a7, a8, a9, b0, b1⟩, _⟩ := h
        go_simp
      try simp only [List.setIfInBounds_toArray, List.set_cons_zero, List.set_cons_succ]
      refine take_to8 1 38 (.pointer (some ⟨k, 0, none⟩)) rfl rfl (by kernel_rfl) (by kernel_rfl) (by kernel_rfl) (fun _ _ _ h => h) (Or.inl ⟨by rfl, fun w' h => ?_⟩) hHeld ?_
      · obtain ⟨⟨a0, a1, a2, a3, a4, a5, a6, a7, a8, a9, b0, b1⟩, _⟩ := h
        go_simp
      try simp only [List.setIfInBounds_toArray, List.set_cons_zero, List.set_cons_succ]
      refine take_to8 2 39 (.pointer (some ⟨k, 0, none⟩)) rfl rfl (by kernel_rfl) (by kernel_rfl) (by kernel_rfl) (fun _ _ _ h => h) (Or.inl ⟨by rfl, fun w' h => ?_⟩) hHeld ?_
      · obtain ⟨⟨a0, a1, a2, a3, a4, a5, a6, a7, a8, a9, b0, b1⟩, _⟩ := h
        go_simp
      try simp only [List.setIfInBounds_toArray, List.set_cons_zero, List.set_cons_succ]
      refine take_to8 3 40 (.slice (some ⟨gt, 0, none⟩) E.length ct) rfl rfl (by kernel_rfl) (by kernel_rfl) (by kernel_rfl) (fun _ _ _ h => h) (Or.inl ⟨by rfl, fun w' h => ?_⟩) hHeld ?_
      · obtain ⟨⟨a0, a1, a2, a3, a4, a5, a6, a7, a8, a9, b0, b1⟩, _⟩ := h
        go_simp
      try simp only [List.setIfInBounds_toArray, List.set_cons_zero, List.set_cons_succ]
      refine take_to8 4 41 (.int .i64 i) rfl rfl (by kernel_rfl) (by kernel_rfl) (by kernel_rfl) (fun _ _ _ h => h) (Or.inl ⟨by rfl, fun w' h => ?_⟩) hHeld ?_
      · obtain ⟨⟨a0, a1, a2, a3, a4, a5, a6, a7, a8, a9, b0, b1⟩, _⟩ := h
        go_simp
      try simp only [List.setIfInBounds_toArray, List.set_cons_zero, List.set_cons_succ]
      refine take_to8 5 42 (.pointer (some ⟨gt, i, none⟩)) rfl rfl (by kernel_rfl) (by kernel_rfl) (by kernel_rfl) (fun _ _ _ h => h) (Or.inl ⟨by rfl, fun w' h => ?_⟩) hHeld ?_
      · obtain ⟨⟨a0, a1, a2, a3, a4, a5, a6, a7, a8, a9, b0, b1⟩, _⟩ := h
        go_simp
      try simp only [List.setIfInBounds_toArray, List.set_cons_zero, List.set_cons_succ]
      refine take_to8 6 43 (.pointer (some xa)) rfl rfl (by kernel_rfl) (by kernel_rfl) (by kernel_rfl) (fun _ _ _ h => h) (Or.inl ⟨by rfl, fun w' h => ?_⟩) hHeld ?_
      · obtain ⟨⟨a0, a1, a2, a3, a4, a5, a6, a7, a8, a9, b0, b1⟩, _⟩ := h
        go_simp
      try simp only [List.setIfInBounds_toArray, List.set_cons_zero, List.set_cons_succ]
      refine take_to8 7 44 (.pointer (some ⟨B, 3, none⟩)) rfl rfl (by kernel_rfl) (by kernel_rfl) (by kernel_rfl) (fun _ _ _ h => h) (Or.inl ⟨by rfl, fun w' h => ?_⟩) hHeld ?_
      · obtain ⟨⟨a0, a1, a2, a3, a4, a5, a6, a7, a8, a9, b0, b1⟩, _⟩ := h
        go_simp
      try simp only [List.setIfInBounds_toArray, List.set_cons_zero, List.set_cons_succ]
      refine take_to8 8 45 (.agg #[.int .i64 p.F, .int .u64 p.H, .int .u64 p.L, .int .i64 p.B]) rfl rfl (by kernel_rfl) (by kernel_rfl) (by kernel_rfl) (fun _ _ _ h => h) (Or.inl ⟨by rfl, fun w' h => ?_⟩) hHeld ?_
      · obtain ⟨⟨a0, a1, a2, a3, a4, a5, a6, a7, a8, a9, b0, b1⟩, _⟩ := h
        go_simp
      try simp only [List.setIfInBounds_toArray, List.set_cons_zero, List.set_cons_succ]
      refine take_to8 9 46 (.pointer (some ⟨B, 2, none⟩)) rfl rfl (by kernel_rfl) (by kernel_rfl) (by kernel_rfl) (fun _ _ _ h => h) (Or.inl ⟨by rfl, fun w' h => ?_⟩) hHeld ?_
      · obtain ⟨⟨a0, a1, a2, a3, a4, a5, a6, a7, a8, a9, b0, b1⟩, _⟩ := h
        go_simp
      try simp only [List.setIfInBounds_toArray, List.set_cons_zero, List.set_cons_succ]
      refine take_to8 10 47 (.int .i64 p.K) rfl rfl (by kernel_rfl) (by kernel_rfl) (by kernel_rfl) (fun _ _ _ h => h) (Or.inl ⟨by rfl, fun w' h => ?_⟩) hHeld ?_
      · obtain ⟨⟨a0, a1, a2, a3, a4, a5, a6, a7, a8, a9, b0, b1⟩, _⟩ := h
        go_simp
      try simp only [List.setIfInBounds_toArray, List.set_cons_zero, List.set_cons_succ]
      refine wpAnyH_ready (rs := [11]) (by kernel_rfl) (by simp) ?_
      refine AllReadyH.cons rfl (fun K' hK' => ?_) AllReadyH.nil
      rw [if_pos (by rfl)]
      go_wp2_with fail
      refine (kT _ (R.kept HX.out hHeld.2)).mono ?_
      rintro e v1 ⟨rfl, g6⟩
      have hS6 := hHeld.kept g6
      clear hHeld
      try go_wp2_with fail
      refine hK'.out _ _ hS6 (fun hHeld => ?_)
      clear hK' K' hS6
      try simp only [Act.put, List.setIfInBounds_toArray, List.set_cons_zero, List.set_cons_succ]
      refine take_to8 12 36 (.tuple #[.pointer none, .int .i64 Er]) rfl rfl (by kernel_rfl) (by kernel_rfl) (by kernel_rfl) (fun _ _ _ h => h) (Or.inl ⟨by rfl, fun w' h => ?_⟩) hHeld ?_
      · obtain ⟨⟨a0, a1, a2, a3, a4, a5, a6, a7, a8, a9, b0, b1⟩, _⟩ := h
        go_simp
      try simp only [List.setIfInBounds_toArray, List.set_cons_zero, List.set_cons_succ]
      refine take_to8 13 49 (.pointer none) rfl rfl (by kernel_rfl) (by kernel_rfl) (by kernel_rfl) (fun _ _ _ h => h) (Or.inl ⟨by rfl, fun w' h => ?_⟩) hHeld ?_
      · obtain ⟨⟨a0, a1, a2, a3, a4, a5, a6, a7, a8, a9, b0, b1⟩, _⟩ := h
        go_simp
      try simp only [List.setIfInBounds_toArray, List.set_cons_zero, List.set_cons_succ]
      refine take_to8 14 50 (.int .i64 Er) rfl rfl (by kernel_rfl) (by kernel_rfl) (by kernel_rfl) (fun _ _ _ h => h) (Or.inl ⟨by rfl, fun w' h => ?_⟩) hHeld ?_
      · obtain ⟨⟨a0, a1, a2, a3, a4, a5, a6, a7, a8, a9, b0, b1⟩, _⟩ := h
        go_simp
      try simp only [List.setIfInBounds_toArray, List.set_cons_zero, List.set_cons_succ]
      refine take_to8 15 7 (.pointer none) rfl rfl (by kernel_rfl) (by kernel_rfl) (by kernel_rfl) (fun _ _ _ h => h) (Or.inl ⟨by rfl, fun w' h => ?_⟩) hHeld ?_
      · obtain ⟨⟨a0, a1, a2, a3, a4, a5, a6, a7, a8, a9, b0, b1⟩, _⟩ := h
        go_simp
      try simp only [List.setIfInBounds_toArray, List.set_cons_zero, List.set_cons_succ]
      refine take_to8 16 8 (.int .i64 Er) rfl rfl (by kernel_rfl) (by kernel_rfl) (by kernel_rfl) (fun _ _ _ h => h) (Or.inl ⟨by rfl, fun w' h => ?_⟩) hHeld ?_
      · obtain ⟨⟨a0, a1, a2, a3, a4, a5, a6, a7, a8, a9, b0, b1⟩, _⟩ := h
        go_simp
      try simp only [List.setIfInBounds_toArray, List.set_cons_zero, List.set_cons_succ]
      refine wpAnyH_done (by kernel_rfl) ?_ _
      have hS := hHeld
      clear hHeld
      go_wp2_with fail
      refine wp_region_held_drew (S := SS k B gt gr i (.slice (some ⟨gt, 0, none⟩) E.length ct) (.slice (some ⟨gr, 0, none⟩) E.length cr) (.pointer (some xa)) (.pointer (some ⟨ky, 0, none⟩)) p F H L wb) (by kernel_rfl) hS.drew (fun hHeld => ?_)
      clear hS
      generalize v1.drew = v2 at *
      refine take_to8 0 52 (.pointer (some ⟨k, 0, none⟩)) rfl rfl (by kernel_rfl) (by kernel_rfl) (by kernel_rfl) (fun _ _ _ h => h) (Or.inl ⟨by rfl, fun w' h => ?_⟩) hHeld ?_
      · obtain ⟨⟨a0, a1, a2, a3, a4, a5, a6, a7, a8, a9, b0, b1⟩, _⟩ := h
        go_simp
      try simp only [List.setIfInBounds_toArray, List.set_cons_zero, List.set_cons_succ]
      refine take_to8 1 53 (.pointer (some ⟨k, 0, none⟩)) rfl rfl (by kernel_rfl) (by kernel_rfl) (by kernel_rfl) (fun _ _ _ h => h) (Or.inl ⟨by rfl, fun w' h => ?_⟩) hHeld ?_
      · obtain ⟨⟨a0, a1, a2, a3, a4, a5, a6, a7, a8, a9, b0, b1⟩, _⟩ := h
        go_simp
      try simp only [List.setIfInBounds_toArray, List.set_cons_zero, List.set_cons_succ]
      refine take_to8 2 54 (.pointer (some ⟨k, 1, none⟩)) rfl rfl (by kernel_rfl) (by kernel_rfl) (by kernel_rfl) (fun _ _ _ h => h) (Or.inl ⟨by rfl, fun w' h => ?_⟩) hHeld ?_
      · obtain ⟨⟨a0, a1, a2, a3, a4, a5, a6, a7, a8, a9, b0, b1⟩, _⟩ := h
        go_simp
      try simp only [List.setIfInBounds_toArray, List.set_cons_zero, List.set_cons_succ]
      refine take_to8 3 55 (.slice (some ⟨gr, 0, none⟩) E.length cr) rfl rfl (by kernel_rfl) (by kernel_rfl) (by kernel_rfl) (fun _ _ _ h => h) (Or.inl ⟨by rfl, fun w' h => ?_⟩) hHeld ?_
      · obtain ⟨⟨a0, a1, a2, a3, a4, a5, a6, a7, a8, a9, b0, b1⟩, _⟩ := h
        go_simp
      try simp only [List.setIfInBounds_toArray, List.set_cons_zero, List.set_cons_succ]
      refine take_to8 4 56 (.int .i64 i) rfl rfl (by kernel_rfl) (by kernel_rfl) (by kernel_rfl) (fun _ _ _ h => h) (Or.inl ⟨by rfl, fun w' h => ?_⟩) hHeld ?_
      · obtain ⟨⟨a0, a1, a2, a3, a4, a5, a6, a7, a8, a9, b0, b1⟩, _⟩ := h
        go_simp
      try simp only [List.setIfInBounds_toArray, List.set_cons_zero, List.set_cons_succ]
      refine take_to8 5 57 (.pointer (some ⟨gr, i, none⟩)) rfl rfl (by kernel_rfl) (by kernel_rfl) (by kernel_rfl) (fun _ _ _ h => h) (Or.inl ⟨by rfl, fun w' h => ?_⟩) hHeld ?_
      · obtain ⟨⟨a0, a1, a2, a3, a4, a5, a6, a7, a8, a9, b0, b1⟩, _⟩ := h
        go_simp
      try simp only [List.setIfInBounds_toArray, List.set_cons_zero, List.set_cons_succ]
      refine take_to8 6 58 (.pointer (some ⟨ky, 0, none⟩)) rfl rfl (by kernel_rfl) (by kernel_rfl) (by kernel_rfl) (fun _ _ _ h => h) (Or.inl ⟨by rfl, fun w' h => ?_⟩) hHeld ?_
      · obtain ⟨⟨a0, a1, a2, a3, a4, a5, a6, a7, a8, a9, b0, b1⟩, _⟩ := h
        go_simp
      try simp only [List.setIfInBounds_toArray, List.set_cons_zero, List.set_cons_succ]
      refine take_to8 7 59 (.pointer (some ⟨B, 3, none⟩)) rfl rfl (by kernel_rfl) (by kernel_rfl) (by kernel_rfl) (fun _ _ _ h => h) (Or.inl ⟨by rfl, fun w' h => ?_⟩) hHeld ?_
      · obtain ⟨⟨a0, a1, a2, a3, a4, a5, a6, a7, a8, a9, b0, b1⟩, _⟩ := h
        go_simp
      try simp only [List.setIfInBounds_toArray, List.set_cons_zero, List.set_cons_succ]
      refine take_to8 8 60 (.agg #[.int .i64 p.F, .int .u64 p.H, .int .u64 p.L, .int .i64 p.B]) rfl rfl (by kernel_rfl) (by kernel_rfl) (by kernel_rfl) (fun _ _ _ h => h) (Or.inl ⟨by rfl, fun w' h => ?_⟩) hHeld ?_
      · obtain ⟨⟨a0, a1, a2, a3, a4, a5, a6, a7, a8, a9, b0, b1⟩, _⟩ := h
        go_simp
      try simp only [List.setIfInBounds_toArray, List.set_cons_zero, List.set_cons_succ]
      refine take_to8 9 61 (.pointer (some ⟨B, 2, none⟩)) rfl rfl (by kernel_rfl) (by kernel_rfl) (by kernel_rfl) (fun _ _ _ h => h) (Or.inl ⟨by rfl, fun w' h => ?_⟩) hHeld ?_
      · obtain ⟨⟨a0, a1, a2, a3, a4, a5, a6, a7, a8, a9, b0, b1⟩, _⟩ := h
        go_simp
      try simp only [List.setIfInBounds_toArray, List.set_cons_zero, List.set_cons_succ]
      refine take_to8 10 62 (.int .i64 p.K) rfl rfl (by kernel_rfl) (by kernel_rfl) (by kernel_rfl) (fun _ _ _ h => h) (Or.inl ⟨by rfl, fun w' h => ?_⟩) hHeld ?_
      · obtain ⟨⟨a0, a1, a2, a3, a4, a5, a6, a7, a8, a9, b0, b1⟩, _⟩ := h
        go_simp
      try simp only [List.setIfInBounds_toArray, List.set_cons_zero, List.set_cons_succ]
      refine wpAnyH_ready (rs := [11]) (by kernel_rfl) (by simp) ?_
      refine AllReadyH.cons rfl (fun K' hK' => ?_) AllReadyH.nil
      rw [if_pos (by rfl)]
      go_wp2_with fail
      refine (kR _ (HY.out.kept hHeld.2)).mono ?_
      rintro e v3 ⟨rfl, g6⟩
      have hS6 := hHeld.kept g6
      clear hHeld
      try go_wp2_with fail
      refine hK'.out _ _ hS6 (fun hHeld => ?_)
      clear hK' K' hS6
      try simp only [Act.put, List.setIfInBounds_toArray, List.set_cons_zero, List.set_cons_succ]
      refine take_to8 12 51 (.tuple #[.pointer none, .int .i64 Er]) rfl rfl (by kernel_rfl) (by kernel_rfl) (by kernel_rfl) (fun _ _ _ h => h) (Or.inl ⟨by rfl, fun w' h => ?_⟩) hHeld ?_
      · obtain ⟨⟨a0, a1, a2, a3, a4, a5, a6, a7, a8, a9, b0, b1⟩, _⟩ := h
        go_simp
      try simp only [List.setIfInBounds_toArray, List.set_cons_zero, List.set_cons_succ]
      refine take_to8 13 64 (.pointer none) rfl rfl (by kernel_rfl) (by kernel_rfl) (by kernel_rfl) (fun _ _ _ h => h) (Or.inl ⟨by rfl, fun w' h => ?_⟩) hHeld ?_
      · obtain ⟨⟨a0, a1, a2, a3, a4, a5, a6, a7, a8, a9, b0, b1⟩, _⟩ := h
        go_simp
      try simp only [List.setIfInBounds_toArray, List.set_cons_zero, List.set_cons_succ]
      refine take_to8 14 65 (.int .i64 Er) rfl rfl (by kernel_rfl) (by kernel_rfl) (by kernel_rfl) (fun _ _ _ h => h) (Or.inl ⟨by rfl, fun w' h => ?_⟩) hHeld ?_
      · obtain ⟨⟨a0, a1, a2, a3, a4, a5, a6, a7, a8, a9, b0, b1⟩, _⟩ := h
        go_simp
      try simp only [List.setIfInBounds_toArray, List.set_cons_zero, List.set_cons_succ]
      refine take_to8 15 9 (.pointer none) rfl rfl (by kernel_rfl) (by kernel_rfl) (by kernel_rfl) (fun _ _ _ h => h) (Or.inl ⟨by rfl, fun w' h => ?_⟩) hHeld ?_
      · obtain ⟨⟨a0, a1, a2, a3, a4, a5, a6, a7, a8, a9, b0, b1⟩, _⟩ := h
        go_simp
      try simp only [List.setIfInBounds_toArray, List.set_cons_zero, List.set_cons_succ]
      refine take_to8 16 10 (.int .i64 Er) rfl rfl (by kernel_rfl) (by kernel_rfl) (by kernel_rfl) (fun _ _ _ h => h) (Or.inl ⟨by rfl, fun w' h => ?_⟩) hHeld ?_
      · obtain ⟨⟨a0, a1, a2, a3, a4, a5, a6, a7, a8, a9, b0, b1⟩, _⟩ := h
        go_simp
      try simp only [List.setIfInBounds_toArray, List.set_cons_zero, List.set_cons_succ]
      refine wpAnyH_done (by kernel_rfl) ?_ _
      have hS := hHeld
      clear hHeld
      go_wp2_with fail
      refine (num_ _ _).mono ?_
      rintro e v4 ⟨rfl, hw5⟩
      obtain rfl := hw5.symm
      go_wp2_with fail
      refine (made_none k _ _).mono ?_
      rintro e v5 ⟨rfl, hw5⟩
      obtain rfl := hw5.symm
      go_wp2_with fail
      go_ret
      exact ⟨rfl, E, HPl.out.kept R hS.2, Nat.le_refl _, Nat.le_succ _, hLe⟩
  by_cases hK2 : K = 2
  · subst hK2
    by_cases hE0 : oE p l = 0
    · have kT : ∀ W, Tr W (.pointer (some xa)) l → Calls Try.prog 21 #[.pointer (some xa), .agg #[.int .i64 p.F, .int .u64 p.H, .int .u64 p.L, .int .i64 p.B]] W fun e w' => (∃ v', e = .returned (.tuple #[v', .int .i64 0]) ∧ Tr w' v' (del p l)) ∧ Below W.heap.size W w' := fun W hW => (R.without_ W _ l p hW hp (by omega)).mono (fun e w' h => ⟨h.1.elim (fun h => absurd hE0 h.1) (fun h => h.2), h.2⟩)
      have kR : ∀ W, Rt W (.pointer (some ⟨ky, 0, none⟩)) l → Calls Try.prog 25 #[.pointer (some ⟨ky, 0, none⟩), .agg #[.int .i64 p.F, .int .u64 p.H, .int .u64 p.L, .int .i64 p.B]] W fun e w' => (∃ v', e = .returned (.tuple #[v', .int .i64 0]) ∧ Rt w' v' (del p l)) ∧ Below W.heap.size W w' := fun W hW => (refWithout_ _ l p W hW (R.tl HX.out).1 hp (by omega)).mono (fun e w' h => ⟨h.1.elim (fun h => absurd hE0 h.1) (fun h => h.2), h.2⟩)
      clear hE0
      go_enter Try.func10, Try.ntmps10
      go_wp2_with fail
      generalize w.alloc (.cells #[.int .i64 2, .int .i64 T, .int .i64 p.K, .int .i64 p.F, .int .u64 p.H, .int .u64 p.L, .int .i64 p.B, .int .i64 F, .int .u64 H, .int .u64 L] 34) = wb at *
      generalize w.heap.size = B at *
      refine wp_region_held_drew (S := SS k B gt gr i (.slice (some ⟨gt, 0, none⟩) E.length ct) (.slice (some ⟨gr, 0, none⟩) E.length cr) (.pointer (some xa)) (.pointer (some ⟨ky, 0, none⟩)) p F H L wb) (by kernel_rfl) hS (fun hHeld => ?_)
      clear hS
      generalize wb.drew = v0 at *
      refine take_to8 0 76 (.pointer (some ⟨k, 0, none⟩)) rfl rfl (by kernel_rfl) (by kernel_rfl) (by kernel_rfl) (fun _ _ _ h => h) (Or.inl ⟨by rfl, fun w' h => ?_⟩) hHeld ?_
      · obtain ⟨⟨a0, a1, a2, a3, a4, a5, a6, a7, a8, a9, b0, b1⟩, _⟩ := h
        go_simp
      try simp only [List.setIfInBounds_toArray, List.set_cons_zero, List.set_cons_succ]
      refine take_to8 1 77 (.pointer (some ⟨k, 0, none⟩)) rfl rfl (by kernel_rfl) (by kernel_rfl) (by kernel_rfl) (fun _ _ _ h => h) (Or.inl ⟨by rfl, fun w' h => ?_⟩) hHeld ?_
      · obtain ⟨⟨a0, a1, a2, a3, a4, a5, a6, a7, a8, a9, b0, b1⟩, _⟩ := h
        go_simp
      try simp only [List.setIfInBounds_toArray, List.set_cons_zero, List.set_cons_succ]
      refine take_to8 2 78 (.pointer (some ⟨k, 0, none⟩)) rfl rfl (by kernel_rfl) (by kernel_rfl) (by kernel_rfl) (fun _ _ _ h => h) (Or.inl ⟨by rfl, fun w' h => ?_⟩) hHeld ?_
      · obtain ⟨⟨a0, a1, a2, a3, a4, a5, a6, a7, a8, a9, b0, b1⟩, _⟩ := h
        go_simp
      try simp only [List.setIfInBounds_toArray, List.set_cons_zero, List.set_cons_succ]
      refine take_to8 3 79 (.slice (some ⟨gt, 0, none⟩) E.length ct) rfl rfl (by kernel_rfl) (by kernel_rfl) (by kernel_rfl) (fun _ _ _ h => h) (Or.inl ⟨by rfl, fun w' h => ?_⟩) hHeld ?_
      · obtain ⟨⟨a0, a1, a2, a3, a4, a5, a6, a7, a8, a9, b0, b1⟩, _⟩ := h
        go_simp
      try simp only [List.setIfInBounds_toArray, List.set_cons_zero, List.set_cons_succ]
      refine take_to8 4 80 (.int .i64 i) rfl rfl (by kernel_rfl) (by kernel_rfl) (by kernel_rfl) (fun _ _ _ h => h) (Or.inl ⟨by rfl, fun w' h => ?_⟩) hHeld ?_
      · obtain ⟨⟨a0, a1, a2, a3, a4, a5, a6, a7, a8, a9, b0, b1⟩, _⟩ := h
        go_simp
      try simp only [List.setIfInBounds_toArray, List.set_cons_zero, List.set_cons_succ]
      refine take_to8 5 81 (.pointer (some ⟨gt, i, none⟩)) rfl rfl (by kernel_rfl) (by kernel_rfl) (by kernel_rfl) (fun _ _ _ h => h) (Or.inl ⟨by rfl, fun w' h => ?_⟩) hHeld ?_
      · obtain ⟨⟨a0, a1, a2, a3, a4, a5, a6, a7, a8, a9, b0, b1⟩, _⟩ := h
        go_simp
      try simp only [List.setIfInBounds_toArray, List.set_cons_zero, List.set_cons_succ]
      refine take_to8 6 82 (.pointer (some xa)) rfl rfl (by kernel_rfl) (by kernel_rfl) (by kernel_rfl) (fun _ _ _ h => h) (Or.inl ⟨by rfl, fun w' h => ?_⟩) hHeld ?_
      · obtain ⟨⟨a0, a1, a2, a3, a4, a5, a6, a7, a8, a9, b0, b1⟩, _⟩ := h
        go_simp
      try simp only [List.setIfInBounds_toArray, List.set_cons_zero, List.set_cons_succ]
      refine take_to8 7 83 (.pointer (some ⟨B, 3, none⟩)) rfl rfl (by kernel_rfl) (by kernel_rfl) (by kernel_rfl) (fun _ _ _ h => h) (Or.inl ⟨by rfl, fun w' h => ?_⟩) hHeld ?_
      · obtain ⟨⟨a0, a1, a2, a3, a4, a5, a6, a7, a8, a9, b0, b1⟩, _⟩ := h
        go_simp
      try simp only [List.setIfInBounds_toArray, List.set_cons_zero, List.set_cons_succ]
      refine take_to8 8 84 (.agg #[.int .i64 p.F, .int .u64 p.H, .int .u64 p.L, .int .i64 p.B]) rfl rfl (by kernel_rfl) (by kernel_rfl) (by kernel_rfl) (fun _ _ _ h => h) (Or.inl ⟨by rfl, fun w' h => ?_⟩) hHeld ?_
      · obtain ⟨⟨a0, a1, a2, a3, a4, a5, a6, a7, a8, a9, b0, b1⟩, _⟩ := h
        go_simp
      try simp only [List.setIfInBounds_toArray, List.set_cons_zero, List.set_cons_succ]
      refine wpAnyH_ready (rs := [9]) (by kernel_rfl) (by simp) ?_
      refine AllReadyH.cons rfl (fun K' hK' => ?_) AllReadyH.nil
      rw [if_pos (by rfl)]
      go_wp2_with fail
      refine (kT _ (R.kept HX.out hHeld.2)).mono ?_
      rintro e v1 ⟨⟨v', rfl, hu⟩, g6⟩
      have hS6 := hHeld.kept g6
      clear hHeld
      obtain ⟨tb, rfl⟩ := R.ptr hu
      have HU := hid hu
      clear hu
      try go_wp2_with fail
      refine hK'.out _ _ hS6 (fun hHeld => ?_)
      clear hK' K' hS6
      try simp only [Act.put, List.setIfInBounds_toArray, List.set_cons_zero, List.set_cons_succ]
      refine take_to8 10 75 (.tuple #[.pointer (some tb), .int .i64 0]) rfl rfl (by kernel_rfl) (by kernel_rfl) (by kernel_rfl) (fun _ _ _ h => h) (Or.inl ⟨by rfl, fun w' h => ?_⟩) hHeld ?_
      · obtain ⟨⟨a0, a1, a2, a3, a4, a5, a6, a7, a8, a9, b0, b1⟩, _⟩ := h
        go_simp
      try simp only [List.setIfInBounds_toArray, List.set_cons_zero, List.set_cons_succ]
      refine take_to8 11 86 (.pointer (some tb)) rfl rfl (by kernel_rfl) (by kernel_rfl) (by kernel_rfl) (fun _ _ _ h => h) (Or.inl ⟨by rfl, fun w' h => ?_⟩) hHeld ?_
      · obtain ⟨⟨a0, a1, a2, a3, a4, a5, a6, a7, a8, a9, b0, b1⟩, _⟩ := h
        go_simp
      try simp only [List.setIfInBounds_toArray, List.set_cons_zero, List.set_cons_succ]
      refine take_to8 12 87 (.int .i64 0) rfl rfl (by kernel_rfl) (by kernel_rfl) (by kernel_rfl) (fun _ _ _ h => h) (Or.inl ⟨by rfl, fun w' h => ?_⟩) hHeld ?_
      · obtain ⟨⟨a0, a1, a2, a3, a4, a5, a6, a7, a8, a9, b0, b1⟩, _⟩ := h
        go_simp
      try simp only [List.setIfInBounds_toArray, List.set_cons_zero, List.set_cons_succ]
      refine take_to8 13 11 (.pointer (some tb)) rfl rfl (by kernel_rfl) (by kernel_rfl) (by kernel_rfl) (fun _ _ _ h => h) (Or.inl ⟨by rfl, fun w' h => ?_⟩) hHeld ?_
      · obtain ⟨⟨a0, a1, a2, a3, a4, a5, a6, a7, a8, a9, b0, b1⟩, _⟩ := h
        go_simp
      try simp only [List.setIfInBounds_toArray, List.set_cons_zero, List.set_cons_succ]
      refine take_to8 14 12 (.int .i64 0) rfl rfl (by kernel_rfl) (by kernel_rfl) (by kernel_rfl) (fun _ _ _ h => h) (Or.inl ⟨by rfl, fun w' h => ?_⟩) hHeld ?_
      · obtain ⟨⟨a0, a1, a2, a3, a4, a5, a6, a7, a8, a9, b0, b1⟩, _⟩ := h
        go_simp
      try simp only [List.setIfInBounds_toArray, List.set_cons_zero, List.set_cons_succ]
      refine wpAnyH_done (by kernel_rfl) ?_ _
      have hS := hHeld
      clear hHeld
      go_wp2_with fail
      refine wp_region_held_drew (S := SS k B gt gr i (.slice (some ⟨gt, 0, none⟩) E.length ct) (.slice (some ⟨gr, 0, none⟩) E.length cr) (.pointer (some xa)) (.pointer (some ⟨ky, 0, none⟩)) p F H L wb) (by kernel_rfl) hS.drew (fun hHeld => ?_)
      clear hS
      replace HU := hid (R.kept HU.out (bel_drew8 v1))
      generalize v1.drew = v2 at *
      refine take_to8 0 89 (.pointer (some ⟨k, 0, none⟩)) rfl rfl (by kernel_rfl) (by kernel_rfl) (by kernel_rfl) (fun _ _ _ h => h) (Or.inl ⟨by rfl, fun w' h => ?_⟩) hHeld ?_
      · obtain ⟨⟨a0, a1, a2, a3, a4, a5, a6, a7, a8, a9, b0, b1⟩, _⟩ := h
        go_simp
      try simp only [List.setIfInBounds_toArray, List.set_cons_zero, List.set_cons_succ]
      refine take_to8 1 90 (.pointer (some ⟨k, 0, none⟩)) rfl rfl (by kernel_rfl) (by kernel_rfl) (by kernel_rfl) (fun _ _ _ h => h) (Or.inl ⟨by rfl, fun w' h => ?_⟩) hHeld ?_
      · obtain ⟨⟨a0, a1, a2, a3, a4, a5, a6, a7, a8, a9, b0, b1⟩, _⟩ := h
        go_simp
      try simp only [List.setIfInBounds_toArray, List.set_cons_zero, List.set_cons_succ]
      refine take_to8 2 91 (.pointer (some ⟨k, 1, none⟩)) rfl rfl (by kernel_rfl) (by kernel_rfl) (by kernel_rfl) (fun _ _ _ h => h) (Or.inl ⟨by rfl, fun w' h => ?_⟩) hHeld ?_
      · obtain ⟨⟨a0, a1, a2, a3, a4, a5, a6, a7, a8, a9, b0, b1⟩, _⟩ := h
        go_simp
      try simp only [List.setIfInBounds_toArray, List.set_cons_zero, List.set_cons_succ]
      refine take_to8 3 92 (.slice (some ⟨gr, 0, none⟩) E.length cr) rfl rfl (by kernel_rfl) (by kernel_rfl) (by kernel_rfl) (fun _ _ _ h => h) (Or.inl ⟨by rfl, fun w' h => ?_⟩) hHeld ?_
      · obtain ⟨⟨a0, a1, a2, a3, a4, a5, a6, a7, a8, a9, b0, b1⟩, _⟩ := h
        go_simp
      try simp only [List.setIfInBounds_toArray, List.set_cons_zero, List.set_cons_succ]
      refine take_to8 4 93 (.int .i64 i) rfl rfl (by kernel_rfl) (by kernel_rfl) (by kernel_rfl) (fun _ _ _ h => h) (Or.inl ⟨by rfl, fun w' h => ?_⟩) hHeld ?_
      · obtain ⟨⟨a0, a1, a2, a3, a4, a5, a6, a7, a8, a9, b0, b1⟩, _⟩ := h
        go_simp
      try simp only [List.setIfInBounds_toArray, List.set_cons_zero, List.set_cons_succ]
      refine take_to8 5 94 (.pointer (some ⟨gr, i, none⟩)) rfl rfl (by kernel_rfl) (by kernel_rfl) (by kernel_rfl) (fun _ _ _ h => h) (Or.inl ⟨by rfl, fun w' h => ?_⟩) hHeld ?_
      · obtain ⟨⟨a0, a1, a2, a3, a4, a5, a6, a7, a8, a9, b0, b1⟩, _⟩ := h
        go_simp
      try simp only [List.setIfInBounds_toArray, List.set_cons_zero, List.set_cons_succ]
      refine take_to8 6 95 (.pointer (some ⟨ky, 0, none⟩)) rfl rfl (by kernel_rfl) (by kernel_rfl) (by kernel_rfl) (fun _ _ _ h => h) (Or.inl ⟨by rfl, fun w' h => ?_⟩) hHeld ?_
      · obtain ⟨⟨a0, a1, a2, a3, a4, a5, a6, a7, a8, a9, b0, b1⟩, _⟩ := h
        go_simp
      try simp only [List.setIfInBounds_toArray, List.set_cons_zero, List.set_cons_succ]
      refine take_to8 7 96 (.pointer (some ⟨B, 3, none⟩)) rfl rfl (by kernel_rfl) (by kernel_rfl) (by kernel_rfl) (fun _ _ _ h => h) (Or.inl ⟨by rfl, fun w' h => ?_⟩) hHeld ?_
      · obtain ⟨⟨a0, a1, a2, a3, a4, a5, a6, a7, a8, a9, b0, b1⟩, _⟩ := h
        go_simp
      try simp only [List.setIfInBounds_toArray, List.set_cons_zero, List.set_cons_succ]
      refine take_to8 8 97 (.agg #[.int .i64 p.F, .int .u64 p.H, .int .u64 p.L, .int .i64 p.B]) rfl rfl (by kernel_rfl) (by kernel_rfl) (by kernel_rfl) (fun _ _ _ h => h) (Or.inl ⟨by rfl, fun w' h => ?_⟩) hHeld ?_
      · obtain ⟨⟨a0, a1, a2, a3, a4, a5, a6, a7, a8, a9, b0, b1⟩, _⟩ := h
        go_simp
      try simp only [List.setIfInBounds_toArray, List.set_cons_zero, List.set_cons_succ]
      refine wpAnyH_ready (rs := [9]) (by kernel_rfl) (by simp) ?_
      refine AllReadyH.cons rfl (fun K' hK' => ?_) AllReadyH.nil
      rw [if_pos (by rfl)]
      go_wp2_with fail
      refine (kR _ (HY.out.kept hHeld.2)).mono ?_
      rintro e v3 ⟨⟨v', rfl, hr⟩, g6⟩
      have hS6 := hHeld.kept g6
      clear hHeld
      obtain ⟨kb, rfl⟩ := rt_ptr hr
      have HR := hid hr
      replace HU := hid (R.kept HU.out g6)
      clear hr
      try go_wp2_with fail
      refine hK'.out _ _ hS6 (fun hHeld => ?_)
      clear hK' K' hS6
      try simp only [Act.put, List.setIfInBounds_toArray, List.set_cons_zero, List.set_cons_succ]
      refine take_to8 10 88 (.tuple #[.pointer (some ⟨kb, 0, none⟩), .int .i64 0]) rfl rfl (by kernel_rfl) (by kernel_rfl) (by kernel_rfl) (fun _ _ _ h => h) (Or.inl ⟨by rfl, fun w' h => ?_⟩) hHeld ?_
      · obtain ⟨⟨a0, a1, a2, a3, a4, a5, a6, a7, a8, a9, b0, b1⟩, _⟩ := h
        go_simp
      try simp only [List.setIfInBounds_toArray, List.set_cons_zero, List.set_cons_succ]
      refine take_to8 11 99 (.pointer (some ⟨kb, 0, none⟩)) rfl rfl (by kernel_rfl) (by kernel_rfl) (by kernel_rfl) (fun _ _ _ h => h) (Or.inl ⟨by rfl, fun w' h => ?_⟩) hHeld ?_
      · obtain ⟨⟨a0, a1, a2, a3, a4, a5, a6, a7, a8, a9, b0, b1⟩, _⟩ := h
        go_simp
      try simp only [List.setIfInBounds_toArray, List.set_cons_zero, List.set_cons_succ]
      refine take_to8 12 100 (.int .i64 0) rfl rfl (by kernel_rfl) (by kernel_rfl) (by kernel_rfl) (fun _ _ _ h => h) (Or.inl ⟨by rfl, fun w' h => ?_⟩) hHeld ?_
      · obtain ⟨⟨a0, a1, a2, a3, a4, a5, a6, a7, a8, a9, b0, b1⟩, _⟩ := h
        go_simp
      try simp only [List.setIfInBounds_toArray, List.set_cons_zero, List.set_cons_succ]
      refine take_to8 13 13 (.pointer (some ⟨kb, 0, none⟩)) rfl rfl (by kernel_rfl) (by kernel_rfl) (by kernel_rfl) (fun _ _ _ h => h) (Or.inl ⟨by rfl, fun w' h => ?_⟩) hHeld ?_
      · obtain ⟨⟨a0, a1, a2, a3, a4, a5, a6, a7, a8, a9, b0, b1⟩, _⟩ := h
        go_simp
      try simp only [List.setIfInBounds_toArray, List.set_cons_zero, List.set_cons_succ]
      refine take_to8 14 14 (.int .i64 0) rfl rfl (by kernel_rfl) (by kernel_rfl) (by kernel_rfl) (fun _ _ _ h => h) (Or.inl ⟨by rfl, fun w' h => ?_⟩) hHeld ?_
      · obtain ⟨⟨a0, a1, a2, a3, a4, a5, a6, a7, a8, a9, b0, b1⟩, _⟩ := h
        go_simp
      try simp only [List.setIfInBounds_toArray, List.set_cons_zero, List.set_cons_succ]
      refine wpAnyH_done (by kernel_rfl) ?_ _
      have hS := hHeld
      clear hHeld
      go_wp2_with fail
      refine (num_ _ _).mono ?_
      rintro e v4 ⟨rfl, hw5⟩
      obtain rfl := hw5.symm
      go_wp2_with fail
      refine (made_some R hO k E _ _ (del p l) w0 v3 (HPl.out.kept R hS.2) HU.out HR.out (by omega)).mono ?_
      rintro e v5 ⟨rfl, hp5⟩
      go_wp2_with fail
      go_ret
      exact ⟨rfl, _, hp5, by simp, by simp, le_snoc hLe (by show (del p l).length ≤ _; have := del_len p l; omega)⟩
    · have kT : ∀ W, Tr W (.pointer (some xa)) l → Calls Try.prog 21 #[.pointer (some xa), .agg #[.int .i64 p.F, .int .u64 p.H, .int .u64 p.L, .int .i64 p.B]] W fun e w' => e = .returned (.tuple #[.pointer none, .int .i64 (oE p l)]) ∧ Below W.heap.size W w' := fun W hW => (R.without_ W _ l p hW hp (by omega)).mono (fun e w' h => ⟨h.1.elim (fun h => h.2) (fun h => absurd h.1 hE0), h.2⟩)
      have kR : ∀ W, Rt W (.pointer (some ⟨ky, 0, none⟩)) l → Calls Try.prog 25 #[.pointer (some ⟨ky, 0, none⟩), .agg #[.int .i64 p.F, .int .u64 p.H, .int .u64 p.L, .int .i64 p.B]] W fun e w' => e = .returned (.tuple #[.pointer none, .int .i64 (oE p l)]) ∧ Below W.heap.size W w' := fun W hW => (refWithout_ _ l p W hW (R.tl HX.out).1 hp (by omega)).mono (fun e w' h => ⟨h.1.elim (fun h => h.2) (fun h => absurd h.1 hE0), h.2⟩)
      generalize oE p l = Er at *
      clear hE0
      go_enter Try.func10, Try.ntmps10
      go_wp2_with fail
      generalize w.alloc (.cells #[.int .i64 2, .int .i64 T, .int .i64 p.K, .int .i64 p.F, .int .u64 p.H, .int .u64 p.L, .int .i64 p.B, .int .i64 F, .int .u64 H, .int .u64 L] 34) = wb at *
      generalize w.heap.size = B at *
      refine wp_region_held_drew (S := SS k B gt gr i (.slice (some ⟨gt, 0, none⟩) E.length ct) (.slice (some ⟨gr, 0, none⟩) E.length cr) (.pointer (some xa)) (.pointer (some ⟨ky, 0, none⟩)) p F H L wb) (by kernel_rfl) hS (fun hHeld => ?_)
      clear hS
      generalize wb.drew = v0 at *
      refine take_to8 0 76 (.pointer (some ⟨k, 0, none⟩)) rfl rfl (by kernel_rfl) (by kernel_rfl) (by kernel_rfl) (fun _ _ _ h => h) (Or.inl ⟨by rfl, fun w' h => ?_⟩) hHeld ?_
      · obtain ⟨⟨a0, a1, a2, a3, a4, a5, a6, a7, a8, a9, b0, b1⟩, _⟩ := h
        go_simp
      try simp only [List.setIfInBounds_toArray, List.set_cons_zero, List.set_cons_succ]
      refine take_to8 1 77 (.pointer (some ⟨k, 0, none⟩)) rfl rfl (by kernel_rfl) (by kernel_rfl) (by kernel_rfl) (fun _ _ _ h => h) (Or.inl ⟨by rfl, fun w' h => ?_⟩) hHeld ?_
      · obtain ⟨⟨a0, a1, a2, a3, a4, a5, a6, a7, a8, a9, b0, b1⟩, _⟩ := h
        go_simp
      try simp only [List.setIfInBounds_toArray, List.set_cons_zero, List.set_cons_succ]
      refine take_to8 2 78 (.pointer (some ⟨k, 0, none⟩)) rfl rfl (by kernel_rfl) (by kernel_rfl) (by kernel_rfl) (fun _ _ _ h => h) (Or.inl ⟨by rfl, fun w' h => ?_⟩) hHeld ?_
      · obtain ⟨⟨a0, a1, a2, a3, a4, a5, a6, a7, a8, a9, b0, b1⟩, _⟩ := h
        go_simp
      try simp only [List.setIfInBounds_toArray, List.set_cons_zero, List.set_cons_succ]
      refine take_to8 3 79 (.slice (some ⟨gt, 0, none⟩) E.length ct) rfl rfl (by kernel_rfl) (by kernel_rfl) (by kernel_rfl) (fun _ _ _ h => h) (Or.inl ⟨by rfl, fun w' h => ?_⟩) hHeld ?_
      · obtain ⟨⟨a0, a1, a2, a3, a4, a5, a6, a7, a8, a9, b0, b1⟩, _⟩ := h
        go_simp
      try simp only [List.setIfInBounds_toArray, List.set_cons_zero, List.set_cons_succ]
      refine take_to8 4 80 (.int .i64 i) rfl rfl (by kernel_rfl) (by kernel_rfl) (by kernel_rfl) (fun _ _ _ h => h) (Or.inl ⟨by rfl, fun w' h => ?_⟩) hHeld ?_
      · obtain ⟨⟨a0, a1, a2, a3, a4, a5, a6, a7, a8, a9, b0, b1⟩, _⟩ := h
        go_simp
      try simp only [List.setIfInBounds_toArray, List.set_cons_zero, List.set_cons_succ]
      refine take_to8 5 81 (.pointer (some ⟨gt, i, none⟩)) rfl rfl (by kernel_rfl) (by kernel_rfl) (by kernel_rfl) (fun _ _ _ h => h) (Or.inl ⟨by rfl, fun w' h => ?_⟩) hHeld ?_
      · obtain ⟨⟨a0, a1, a2, a3, a4, a5, a6, a7, a8, a9, b0, b1⟩, _⟩ := h
        go_simp
      try simp only [List.setIfInBounds_toArray, List.set_cons_zero, List.set_cons_succ]
      refine take_to8 6 82 (.pointer (some xa)) rfl rfl (by kernel_rfl) (by kernel_rfl) (by kernel_rfl) (fun _ _ _ h => h) (Or.inl ⟨by rfl, fun w' h => ?_⟩) hHeld ?_
      · obtain ⟨⟨a0, a1, a2, a3, a4, a5, a6, a7, a8, a9, b0, b1⟩, _⟩ := h
        go_simp
      try simp only [List.setIfInBounds_toArray, List.set_cons_zero, List.set_cons_succ]
      refine take_to8 7 83 (.pointer (some ⟨B, 3, none⟩)) rfl rfl (by kernel_rfl) (by kernel_rfl) (by kernel_rfl) (fun _ _ _ h => h) (Or.inl ⟨by rfl, fun w' h => ?_⟩) hHeld ?_
      · obtain ⟨⟨a0, a1, a2, a3, a4, a5, a6, a7, a8, a9, b0, b1⟩, _⟩ := h
        go_simp
      try simp only [List.setIfInBounds_toArray, List.set_cons_zero, List.set_cons_succ]
      refine take_to8 8 84 (.agg #[.int .i64 p.F, .int .u64 p.H, .int .u64 p.L, .int .i64 p.B]) rfl rfl (by kernel_rfl) (by kernel_rfl) (by kernel_rfl) (fun _ _ _ h => h) (Or.inl ⟨by rfl, fun w' h => ?_⟩) hHeld ?_
      · obtain ⟨⟨a0, a1, a2, a3, a4, a5, a6, a7, a8, a9, b0, b1⟩, _⟩ := h
        go_simp
      try simp only [List.setIfInBounds_toArray, List.set_cons_zero, List.set_cons_succ]
      refine wpAnyH_ready (rs := [9]) (by kernel_rfl) (by simp) ?_
      refine AllReadyH.cons rfl (fun K' hK' => ?_) AllReadyH.nil
      rw [if_pos (by rfl)]
      go_wp2_with fail
      refine (kT _ (R.kept HX.out hHeld.2)).mono ?_
      rintro e v1 ⟨rfl, g6⟩
      have hS6 := hHeld.kept g6
      clear hHeld
      try go_wp2_with fail
      refine hK'.out _ _ hS6 (fun hHeld => ?_)
      clear hK' K' hS6
      try simp only [Act.put, List.setIfInBounds_toArray, List.set_cons_zero, List.set_cons_succ]
      refine take_to8 10 75 (.tuple #[.pointer none, .int .i64 Er]) rfl rfl (by kernel_rfl) (by kernel_rfl) (by kernel_rfl) (fun _ _ _ h => h) (Or.inl ⟨by rfl, fun w' h => ?_⟩) hHeld ?_
      · obtain ⟨⟨a0, a1, a2, a3, a4, a5, a6, a7, a8, a9, b0, b1⟩, _⟩ := h
        go_simp
      try simp only [List.setIfInBounds_toArray, List.set_cons_zero, List.set_cons_succ]
      refine take_to8 11 86 (.pointer none) rfl rfl (by kernel_rfl) (by kernel_rfl) (by kernel_rfl) (fun _ _ _ h => h) (Or.inl ⟨by rfl, fun w' h => ?_⟩) hHeld ?_
      · obtain ⟨⟨a0, a1, a2, a3, a4, a5, a6, a7, a8, a9, b0, b1⟩, _⟩ := h
        go_simp
      try simp only [List.setIfInBounds_toArray, List.set_cons_zero, List.set_cons_succ]
      refine take_to8 12 87 (.int .i64 Er) rfl rfl (by kernel_rfl) (by kernel_rfl) (by kernel_rfl) (fun _ _ _ h => h) (Or.inl ⟨by rfl, fun w' h => ?_⟩) hHeld ?_
      · obtain ⟨⟨a0, a1, a2, a3, a4, a5, a6, a7, a8, a9, b0, b1⟩, _⟩ := h
        go_simp
      try simp only [List.setIfInBounds_toArray, List.set_cons_zero, List.set_cons_succ]
      refine take_to8 13 11 (.pointer none) rfl rfl (by kernel_rfl) (by kernel_rfl) (by kernel_rfl) (fun _ _ _ h => h) (Or.inl ⟨by rfl, fun w' h => ?_⟩) hHeld ?_
      · obtain ⟨⟨a0, a1, a2, a3, a4, a5, a6, a7, a8, a9, b0, b1⟩, _⟩ := h
        go_simp
      try simp only [List.setIfInBounds_toArray, List.set_cons_zero, List.set_cons_succ]
      refine take_to8 14 12 (.int .i64 Er) rfl rfl (by kernel_rfl) (by kernel_rfl) (by kernel_rfl) (fun _ _ _ h => h) (Or.inl ⟨by rfl, fun w' h => ?_⟩) hHeld ?_
      · obtain ⟨⟨a0, a1, a2, a3, a4, a5, a6, a7, a8, a9, b0, b1⟩, _⟩ := h
        go_simp
      try simp only [List.setIfInBounds_toArray, List.set_cons_zero, List.set_cons_succ]
      refine wpAnyH_done (by kernel_rfl) ?_ _
      have hS := hHeld
      clear hHeld
      go_wp2_with fail
      refine wp_region_held_drew (S := SS k B gt gr i (.slice (some ⟨gt, 0, none⟩) E.length ct) (.slice (some ⟨gr, 0, none⟩) E.length cr) (.pointer (some xa)) (.pointer (some ⟨ky, 0, none⟩)) p F H L wb) (by kernel_rfl) hS.drew (fun hHeld => ?_)
      clear hS
      generalize v1.drew = v2 at *
      refine take_to8 0 89 (.pointer (some ⟨k, 0, none⟩)) rfl rfl (by kernel_rfl) (by kernel_rfl) (by kernel_rfl) (fun _ _ _ h => h) (Or.inl ⟨by rfl, fun w' h => ?_⟩) hHeld ?_
      · obtain ⟨⟨a0, a1, a2, a3, a4, a5, a6, a7, a8, a9, b0, b1⟩, _⟩ := h
        go_simp
      try simp only [List.setIfInBounds_toArray, List.set_cons_zero, List.set_cons_succ]
      refine take_to8 1 90 (.pointer (some ⟨k, 0, none⟩)) rfl rfl (by kernel_rfl) (by kernel_rfl) (by kernel_rfl) (fun _ _ _ h => h) (Or.inl ⟨by rfl, fun w' h => ?_⟩) hHeld ?_
      · obtain ⟨⟨a0, a1, a2, a3, a4, a5, a6, a7, a8, a9, b0, b1⟩, _⟩ := h
        go_simp
      try simp only [List.setIfInBounds_toArray, List.set_cons_zero, List.set_cons_succ]
      refine take_to8 2 91 (.pointer (some ⟨k, 1, none⟩)) rfl rfl (by kernel_rfl) (by kernel_rfl) (by kernel_rfl) (fun _ _ _ h => h) (Or.inl ⟨by rfl, fun w' h => ?_⟩) hHeld ?_
      · obtain ⟨⟨a0, a1, a2, a3, a4, a5, a6, a7, a8, a9, b0, b1⟩, _⟩ := h
        go_simp
      try simp only [List.setIfInBounds_toArray, List.set_cons_zero, List.set_cons_succ]
      refine take_to8 3 92 (.slice (some ⟨gr, 0, none⟩) E.length cr) rfl rfl (by kernel_rfl) (by kernel_rfl) (by kernel_rfl) (fun _ _ _ h => h) (Or.inl ⟨by rfl, fun w' h => ?_⟩) hHeld ?_
      · obtain ⟨⟨a0, a1, a2, a3, a4, a5, a6, a7, a8, a9, b0, b1⟩, _⟩ := h
        go_simp
      try simp only [List.setIfInBounds_toArray, List.set_cons_zero, List.set_cons_succ]
      refine take_to8 4 93 (.int .i64 i) rfl rfl (by kernel_rfl) (by kernel_rfl) (by kernel_rfl) (fun _ _ _ h => h) (Or.inl ⟨by rfl, fun w' h => ?_⟩) hHeld ?_
      · obtain ⟨⟨a0, a1, a2, a3, a4, a5, a6, a7, a8, a9, b0, b1⟩, _⟩ := h
        go_simp
      try simp only [List.setIfInBounds_toArray, List.set_cons_zero, List.set_cons_succ]
      refine take_to8 5 94 (.pointer (some ⟨gr, i, none⟩)) rfl rfl (by kernel_rfl) (by kernel_rfl) (by kernel_rfl) (fun _ _ _ h => h) (Or.inl ⟨by rfl, fun w' h => ?_⟩) hHeld ?_
      · obtain ⟨⟨a0, a1, a2, a3, a4, a5, a6, a7, a8, a9, b0, b1⟩, _⟩ := h
        go_simp
      try simp only [List.setIfInBounds_toArray, List.set_cons_zero, List.set_cons_succ]
      refine take_to8 6 95 (.pointer (some ⟨ky, 0, none⟩)) rfl rfl (by kernel_rfl) (by kernel_rfl) (by kernel_rfl) (fun _ _ _ h => h) (Or.inl ⟨by rfl, fun w' h => ?_⟩) hHeld ?_
      · obtain ⟨⟨a0, a1, a2, a3, a4, a5, a6, a7, a8, a9, b0, b1⟩, _⟩ := h
        go_simp
      try simp only [List.setIfInBounds_toArray, List.set_cons_zero, List.set_cons_succ]
      refine take_to8 7 96 (.pointer (some ⟨B, 3, none⟩)) rfl rfl (by kernel_rfl) (by kernel_rfl) (by kernel_rfl) (fun _ _ _ h => h) (Or.inl ⟨by rfl, fun w' h => ?_⟩) hHeld ?_
      · obtain ⟨⟨a0, a1, a2, a3, a4, a5, a6, a7, a8, a9, b0, b1⟩, _⟩ := h
        go_simp
      try simp only [List.setIfInBounds_toArray, List.set_cons_zero, List.set_cons_succ]
      refine take_to8 8 97 (.agg #[.int .i64 p.F, .int .u64 p.H, .int .u64 p.L, .int .i64 p.B]) rfl rfl (by kernel_rfl) (by kernel_rfl) (by kernel_rfl) (fun _ _ _ h => h) (Or.inl ⟨by rfl, fun w' h => ?_⟩) hHeld ?_
      · obtain ⟨⟨a0, a1, a2, a3, a4, a5, a6, a7, a8, a9, b0, b1⟩, _⟩ := h
        go_simp
      try simp only [List.setIfInBounds_toArray, List.set_cons_zero, List.set_cons_succ]
      refine wpAnyH_ready (rs := [9]) (by kernel_rfl) (by simp) ?_
      refine AllReadyH.cons rfl (fun K' hK' => ?_) AllReadyH.nil
      rw [if_pos (by rfl)]
      go_wp2_with fail
      refine (kR _ (HY.out.kept hHeld.2)).mono ?_
      rintro e v3 ⟨rfl, g6⟩
      have hS6 := hHeld.kept g6
      clear hHeld
      try go_wp2_with fail
      refine hK'.out _ _ hS6 (fun hHeld => ?_)
      clear hK' K' hS6
      try simp only [Act.put, List.setIfInBounds_toArray, List.set_cons_zero, List.set_cons_succ]
      refine take_to8 10 88 (.tuple #[.pointer none, .int .i64 Er]) rfl rfl (by kernel_rfl) (by kernel_rfl) (by kernel_rfl) (fun _ _ _ h => h) (Or.inl ⟨by rfl, fun w' h => ?_⟩) hHeld ?_
      · obtain ⟨⟨a0, a1, a2, a3, a4, a5, a6, a7, a8, a9, b0, b1⟩, _⟩ := h
        go_simp
      try simp only [List.setIfInBounds_toArray, List.set_cons_zero, List.set_cons_succ]
      refine take_to8 11 99 (.pointer none) rfl rfl (by kernel_rfl) (by kernel_rfl) (by kernel_rfl) (fun _ _ _ h => h) (Or.inl ⟨by rfl, fun w' h => ?_⟩) hHeld ?_
      · obtain ⟨⟨a0, a1, a2, a3, a4, a5, a6, a7, a8, a9, b0, b1⟩, _⟩ := h
        go_simp
      try simp only [List.setIfInBounds_toArray, List.set_cons_zero, List.set_cons_succ]
      refine take_to8 12 100 (.int .i64 Er) rfl rfl (by kernel_rfl) (by kernel_rfl) (by kernel_rfl) (fun _ _ _ h => h) (Or.inl ⟨by rfl, fun w' h => ?_⟩) hHeld ?_
      · obtain ⟨⟨a0, a1, a2, a3, a4, a5, a6, a7, a8, a9, b0, b1⟩, _⟩ := h
        go_simp
      try simp only [List.setIfInBounds_toArray, List.set_cons_zero, List.set_cons_succ]
      refine take_to8 13 13 (.pointer none) rfl rfl (by kernel_rfl) (by kernel_rfl) (by kernel_rfl) (fun _ _ _ h => h) (Or.inl ⟨by rfl, fun w' h => ?_⟩) hHeld ?_
      · obtain ⟨⟨a0, a1, a2, a3, a4, a5, a6, a7, a8, a9, b0, b1⟩, _⟩ := h
        go_simp
      try simp only [List.setIfInBounds_toArray, List.set_cons_zero, List.set_cons_succ]
      refine take_to8 14 14 (.int .i64 Er) rfl rfl (by kernel_rfl) (by kernel_rfl) (by kernel_rfl) (fun _ _ _ h => h) (Or.inl ⟨by rfl, fun w' h => ?_⟩) hHeld ?_
      · obtain ⟨⟨a0, a1, a2, a3, a4, a5, a6, a7, a8, a9, b0, b1⟩, _⟩ := h
        go_simp
      try simp only [List.setIfInBounds_toArray, List.set_cons_zero, List.set_cons_succ]
      refine wpAnyH_done (by kernel_rfl) ?_ _
      have hS := hHeld
      clear hHeld
      go_wp2_with fail
      refine (num_ _ _).mono ?_
      rintro e v4 ⟨rfl, hw5⟩
      obtain rfl := hw5.symm
      go_wp2_with fail
      refine (made_none k _ _).mono ?_
      rintro e v5 ⟨rfl, hw5⟩
      obtain rfl := hw5.symm
      go_wp2_with fail
      go_ret
      exact ⟨rfl, E, HPl.out.kept R hS.2, Nat.le_refl _, Nat.le_succ _, hLe⟩
  by_cases hK3 : K = 3
  · subst hK3
    have kT : ∀ W, Tr W (.pointer (some xa)) l → Calls Try.prog 15 #[.pointer (some xa), .agg #[.int .i64 F, .int .u64 H, .int .u64 L]] W fun e w' => e = .returned (.tuple #[.int .i64 (fK l F H L), .bool (fO l F H L)]) ∧ Below W.heap.size W w' := fun W hW => R.find_ W _ l F H L hW hF hH hL (by omega)
    have kR : ∀ W, Rt W (.pointer (some ⟨ky, 0, none⟩)) l → Calls Try.prog 26 #[.pointer (some ⟨ky, 0, none⟩), .agg #[.int .i64 F, .int .u64 H, .int .u64 L]] W fun e w' => e = .returned (.tuple #[.int .i64 (fK l F H L), .bool (fO l F H L)]) ∧ Below W.heap.size W w' := fun W hW => refFind_ _ l F H L W hW hH hL
    generalize fK l F H L = Kx at *
    generalize fO l F H L = Ox at *
    go_enter Try.func10, Try.ntmps10
    go_wp2_with fail
    generalize w.alloc (.cells #[.int .i64 3, .int .i64 T, .int .i64 p.K, .int .i64 p.F, .int .u64 p.H, .int .u64 p.L, .int .i64 p.B, .int .i64 F, .int .u64 H, .int .u64 L] 34) = wb at *
    generalize w.heap.size = B at *
    refine wp_region_held_drew (S := SS k B gt gr i (.slice (some ⟨gt, 0, none⟩) E.length ct) (.slice (some ⟨gr, 0, none⟩) E.length cr) (.pointer (some xa)) (.pointer (some ⟨ky, 0, none⟩)) p F H L wb) (by kernel_rfl) hS (fun hHeld => ?_)
    clear hS
    generalize wb.drew = v0 at *
    refine take_to8 0 111 (.pointer (some ⟨k, 0, none⟩)) rfl rfl (by kernel_rfl) (by kernel_rfl) (by kernel_rfl) (fun _ _ _ h => h) (Or.inl ⟨by rfl, fun w' h => ?_⟩) hHeld ?_
    · obtain ⟨⟨a0, a1, a2, a3, a4, a5, a6, a7, a8, a9, b0, b1⟩, _⟩ := h
      go_simp
    try simp only [List.setIfInBounds_toArray, List.set_cons_zero, List.set_cons_succ]
    refine take_to8 1 112 (.pointer (some ⟨k, 0, none⟩)) rfl rfl (by kernel_rfl) (by kernel_rfl) (by kernel_rfl) (fun _ _ _ h => h) (Or.inl ⟨by rfl, fun w' h => ?_⟩) hHeld ?_
    · obtain ⟨⟨a0, a1, a2, a3, a4, a5, a6, a7, a8, a9, b0, b1⟩, _⟩ := h
      go_simp
    try simp only [List.setIfInBounds_toArray, List.set_cons_zero, List.set_cons_succ]
    refine take_to8 2 113 (.pointer (some ⟨k, 0, none⟩)) rfl rfl (by kernel_rfl) (by kernel_rfl) (by kernel_rfl) (fun _ _ _ h => h) (Or.inl ⟨by rfl, fun w' h => ?_⟩) hHeld ?_
    · obtain ⟨⟨a0, a1, a2, a3, a4, a5, a6, a7, a8, a9, b0, b1⟩, _⟩ := h
      go_simp
    try simp only [List.setIfInBounds_toArray, List.set_cons_zero, List.set_cons_succ]
    refine take_to8 3 114 (.slice (some ⟨gt, 0, none⟩) E.length ct) rfl rfl (by kernel_rfl) (by kernel_rfl) (by kernel_rfl) (fun _ _ _ h => h) (Or.inl ⟨by rfl, fun w' h => ?_⟩) hHeld ?_
    · obtain ⟨⟨a0, a1, a2, a3, a4, a5, a6, a7, a8, a9, b0, b1⟩, _⟩ := h
      go_simp
    try simp only [List.setIfInBounds_toArray, List.set_cons_zero, List.set_cons_succ]
    refine take_to8 4 115 (.int .i64 i) rfl rfl (by kernel_rfl) (by kernel_rfl) (by kernel_rfl) (fun _ _ _ h => h) (Or.inl ⟨by rfl, fun w' h => ?_⟩) hHeld ?_
    · obtain ⟨⟨a0, a1, a2, a3, a4, a5, a6, a7, a8, a9, b0, b1⟩, _⟩ := h
      go_simp
    try simp only [List.setIfInBounds_toArray, List.set_cons_zero, List.set_cons_succ]
    refine take_to8 5 116 (.pointer (some ⟨gt, i, none⟩)) rfl rfl (by kernel_rfl) (by kernel_rfl) (by kernel_rfl) (fun _ _ _ h => h) (Or.inl ⟨by rfl, fun w' h => ?_⟩) hHeld ?_
    · obtain ⟨⟨a0, a1, a2, a3, a4, a5, a6, a7, a8, a9, b0, b1⟩, _⟩ := h
      go_simp
    try simp only [List.setIfInBounds_toArray, List.set_cons_zero, List.set_cons_succ]
    refine take_to8 6 117 (.pointer (some xa)) rfl rfl (by kernel_rfl) (by kernel_rfl) (by kernel_rfl) (fun _ _ _ h => h) (Or.inl ⟨by rfl, fun w' h => ?_⟩) hHeld ?_
    · obtain ⟨⟨a0, a1, a2, a3, a4, a5, a6, a7, a8, a9, b0, b1⟩, _⟩ := h
      go_simp
    try simp only [List.setIfInBounds_toArray, List.set_cons_zero, List.set_cons_succ]
    refine take_to8 7 118 (.pointer (some ⟨B, 7, none⟩)) rfl rfl (by kernel_rfl) (by kernel_rfl) (by kernel_rfl) (fun _ _ _ h => h) (Or.inl ⟨by rfl, fun w' h => ?_⟩) hHeld ?_
    · obtain ⟨⟨a0, a1, a2, a3, a4, a5, a6, a7, a8, a9, b0, b1⟩, _⟩ := h
      go_simp
    try simp only [List.setIfInBounds_toArray, List.set_cons_zero, List.set_cons_succ]
    refine take_to8 8 119 (.agg #[.int .i64 F, .int .u64 H, .int .u64 L]) rfl rfl (by kernel_rfl) (by kernel_rfl) (by kernel_rfl) (fun _ _ _ h => h) (Or.inl ⟨by rfl, fun w' h => ?_⟩) hHeld ?_
    · obtain ⟨⟨a0, a1, a2, a3, a4, a5, a6, a7, a8, a9, b0, b1⟩, _⟩ := h
      go_simp
    try simp only [List.setIfInBounds_toArray, List.set_cons_zero, List.set_cons_succ]
    refine wpAnyH_ready (rs := [9]) (by kernel_rfl) (by simp) ?_
    refine AllReadyH.cons rfl (fun K' hK' => ?_) AllReadyH.nil
    rw [if_pos (by rfl)]
    go_wp2_with fail
    refine (kT _ (R.kept HX.out hHeld.2)).mono ?_
    rintro e v1 ⟨rfl, g6⟩
    have hS6 := hHeld.kept g6
    clear hHeld
    try go_wp2_with fail
    refine hK'.out _ _ hS6 (fun hHeld => ?_)
    clear hK' K' hS6
    try simp only [Act.put, List.setIfInBounds_toArray, List.set_cons_zero, List.set_cons_succ]
    refine take_to8 10 110 (.tuple #[.int .i64 Kx, .bool Ox]) rfl rfl (by kernel_rfl) (by kernel_rfl) (by kernel_rfl) (fun _ _ _ h => h) (Or.inl ⟨by rfl, fun w' h => ?_⟩) hHeld ?_
    · obtain ⟨⟨a0, a1, a2, a3, a4, a5, a6, a7, a8, a9, b0, b1⟩, _⟩ := h
      go_simp
    try simp only [List.setIfInBounds_toArray, List.set_cons_zero, List.set_cons_succ]
    refine take_to8 11 121 (.int .i64 Kx) rfl rfl (by kernel_rfl) (by kernel_rfl) (by kernel_rfl) (fun _ _ _ h => h) (Or.inl ⟨by rfl, fun w' h => ?_⟩) hHeld ?_
    · obtain ⟨⟨a0, a1, a2, a3, a4, a5, a6, a7, a8, a9, b0, b1⟩, _⟩ := h
      go_simp
    try simp only [List.setIfInBounds_toArray, List.set_cons_zero, List.set_cons_succ]
    refine take_to8 12 122 (.bool Ox) rfl rfl (by kernel_rfl) (by kernel_rfl) (by kernel_rfl) (fun _ _ _ h => h) (Or.inl ⟨by rfl, fun w' h => ?_⟩) hHeld ?_
    · obtain ⟨⟨a0, a1, a2, a3, a4, a5, a6, a7, a8, a9, b0, b1⟩, _⟩ := h
      go_simp
    try simp only [List.setIfInBounds_toArray, List.set_cons_zero, List.set_cons_succ]
    refine take_to8 13 15 (.int .i64 Kx) rfl rfl (by kernel_rfl) (by kernel_rfl) (by kernel_rfl) (fun _ _ _ h => h) (Or.inl ⟨by rfl, fun w' h => ?_⟩) hHeld ?_
    · obtain ⟨⟨a0, a1, a2, a3, a4, a5, a6, a7, a8, a9, b0, b1⟩, _⟩ := h
      go_simp
    try simp only [List.setIfInBounds_toArray, List.set_cons_zero, List.set_cons_succ]
    refine take_to8 14 16 (.bool Ox) rfl rfl (by kernel_rfl) (by kernel_rfl) (by kernel_rfl) (fun _ _ _ h => h) (Or.inl ⟨by rfl, fun w' h => ?_⟩) hHeld ?_
    · obtain ⟨⟨a0, a1, a2, a3, a4, a5, a6, a7, a8, a9, b0, b1⟩, _⟩ := h
      go_simp
    try simp only [List.setIfInBounds_toArray, List.set_cons_zero, List.set_cons_succ]
    refine wpAnyH_done (by kernel_rfl) ?_ _
    have hS := hHeld
    clear hHeld
    go_wp2_with fail
    refine wp_region_held_drew (S := SS k B gt gr i (.slice (some ⟨gt, 0, none⟩) E.length ct) (.slice (some ⟨gr, 0, none⟩) E.length cr) (.pointer (some xa)) (.pointer (some ⟨ky, 0, none⟩)) p F H L wb) (by kernel_rfl) hS.drew (fun hHeld => ?_)
    clear hS
    generalize v1.drew = v2 at *
    refine take_to8 0 124 (.pointer (some ⟨k, 0, none⟩)) rfl rfl (by kernel_rfl) (by kernel_rfl) (by kernel_rfl) (fun _ _ _ h => h) (Or.inl ⟨by rfl, fun w' h => ?_⟩) hHeld ?_
    · obtain ⟨⟨a0, a1, a2, a3, a4, a5, a6, a7, a8, a9, b0, b1⟩, _⟩ := h
      go_simp
    try simp only [List.setIfInBounds_toArray, List.set_cons_zero, List.set_cons_succ]
    refine take_to8 1 125 (.pointer (some ⟨k, 0, none⟩)) rfl rfl (by kernel_rfl) (by kernel_rfl) (by kernel_rfl) (fun _ _ _ h => h) (Or.inl ⟨by rfl, fun w' h => ?_⟩) hHeld ?_
    · obtain ⟨⟨a0, a1, a2, a3, a4, a5, a6, a7, a8, a9, b0, b1⟩, _⟩ := h
      go_simp
    try simp only [List.setIfInBounds_toArray, List.set_cons_zero, List.set_cons_succ]
    refine take_to8 2 126 (.pointer (some ⟨k, 1, none⟩)) rfl rfl (by kernel_rfl) (by kernel_rfl) (by kernel_rfl) (fun _ _ _ h => h) (Or.inl ⟨by rfl, fun w' h => ?_⟩) hHeld ?_
    · obtain ⟨⟨a0, a1, a2, a3, a4, a5, a6, a7, a8, a9, b0, b1⟩, _⟩ := h
      go_simp
    try simp only [List.setIfInBounds_toArray, List.set_cons_zero, List.set_cons_succ]
    refine take_to8 3 127 (.slice (some ⟨gr, 0, none⟩) E.length cr) rfl rfl (by kernel_rfl) (by kernel_rfl) (by kernel_rfl) (fun _ _ _ h => h) (Or.inl ⟨by rfl, fun w' h => ?_⟩) hHeld ?_
    · obtain ⟨⟨a0, a1, a2, a3, a4, a5, a6, a7, a8, a9, b0, b1⟩, _⟩ := h
      go_simp
    try simp only [List.setIfInBounds_toArray, List.set_cons_zero, List.set_cons_succ]
    refine take_to8 4 128 (.int .i64 i) rfl rfl (by kernel_rfl) (by kernel_rfl) (by kernel_rfl) (fun _ _ _ h => h) (Or.inl ⟨by rfl, fun w' h => ?_⟩) hHeld ?_
    · obtain ⟨⟨a0, a1, a2, a3, a4, a5, a6, a7, a8, a9, b0, b1⟩, _⟩ := h
      go_simp
    try simp only [List.setIfInBounds_toArray, List.set_cons_zero, List.set_cons_succ]
    refine take_to8 5 129 (.pointer (some ⟨gr, i, none⟩)) rfl rfl (by kernel_rfl) (by kernel_rfl) (by kernel_rfl) (fun _ _ _ h => h) (Or.inl ⟨by rfl, fun w' h => ?_⟩) hHeld ?_
    · obtain ⟨⟨a0, a1, a2, a3, a4, a5, a6, a7, a8, a9, b0, b1⟩, _⟩ := h
      go_simp
    try simp only [List.setIfInBounds_toArray, List.set_cons_zero, List.set_cons_succ]
    refine take_to8 6 130 (.pointer (some ⟨ky, 0, none⟩)) rfl rfl (by kernel_rfl) (by kernel_rfl) (by kernel_rfl) (fun _ _ _ h => h) (Or.inl ⟨by rfl, fun w' h => ?_⟩) hHeld ?_
    · obtain ⟨⟨a0, a1, a2, a3, a4, a5, a6, a7, a8, a9, b0, b1⟩, _⟩ := h
      go_simp
    try simp only [List.setIfInBounds_toArray, List.set_cons_zero, List.set_cons_succ]
    refine take_to8 7 131 (.pointer (some ⟨B, 7, none⟩)) rfl rfl (by kernel_rfl) (by kernel_rfl) (by kernel_rfl) (fun _ _ _ h => h) (Or.inl ⟨by rfl, fun w' h => ?_⟩) hHeld ?_
    · obtain ⟨⟨a0, a1, a2, a3, a4, a5, a6, a7, a8, a9, b0, b1⟩, _⟩ := h
      go_simp
    try simp only [List.setIfInBounds_toArray, List.set_cons_zero, List.set_cons_succ]
    refine take_to8 8 132 (.agg #[.int .i64 F, .int .u64 H, .int .u64 L]) rfl rfl (by kernel_rfl) (by kernel_rfl) (by kernel_rfl) (fun _ _ _ h => h) (Or.inl ⟨by rfl, fun w' h => ?_⟩) hHeld ?_
    · obtain ⟨⟨a0, a1, a2, a3, a4, a5, a6, a7, a8, a9, b0, b1⟩, _⟩ := h
      go_simp
    try simp only [List.setIfInBounds_toArray, List.set_cons_zero, List.set_cons_succ]
    refine wpAnyH_ready (rs := [9]) (by kernel_rfl) (by simp) ?_
    refine AllReadyH.cons rfl (fun K' hK' => ?_) AllReadyH.nil
    rw [if_pos (by rfl)]
    go_wp2_with fail
    refine (kR _ (HY.out.kept hHeld.2)).mono ?_
    rintro e v3 ⟨rfl, g6⟩
    have hS6 := hHeld.kept g6
    clear hHeld
    try go_wp2_with fail
    refine hK'.out _ _ hS6 (fun hHeld => ?_)
    clear hK' K' hS6
    try simp only [Act.put, List.setIfInBounds_toArray, List.set_cons_zero, List.set_cons_succ]
    refine take_to8 10 123 (.tuple #[.int .i64 Kx, .bool Ox]) rfl rfl (by kernel_rfl) (by kernel_rfl) (by kernel_rfl) (fun _ _ _ h => h) (Or.inl ⟨by rfl, fun w' h => ?_⟩) hHeld ?_
    · obtain ⟨⟨a0, a1, a2, a3, a4, a5, a6, a7, a8, a9, b0, b1⟩, _⟩ := h
      go_simp
    try simp only [List.setIfInBounds_toArray, List.set_cons_zero, List.set_cons_succ]
    refine take_to8 11 134 (.int .i64 Kx) rfl rfl (by kernel_rfl) (by kernel_rfl) (by kernel_rfl) (fun _ _ _ h => h) (Or.inl ⟨by rfl, fun w' h => ?_⟩) hHeld ?_
    · obtain ⟨⟨a0, a1, a2, a3, a4, a5, a6, a7, a8, a9, b0, b1⟩, _⟩ := h
      go_simp
    try simp only [List.setIfInBounds_toArray, List.set_cons_zero, List.set_cons_succ]
    refine take_to8 12 135 (.bool Ox) rfl rfl (by kernel_rfl) (by kernel_rfl) (by kernel_rfl) (fun _ _ _ h => h) (Or.inl ⟨by rfl, fun w' h => ?_⟩) hHeld ?_
    · obtain ⟨⟨a0, a1, a2, a3, a4, a5, a6, a7, a8, a9, b0, b1⟩, _⟩ := h
      go_simp
    try simp only [List.setIfInBounds_toArray, List.set_cons_zero, List.set_cons_succ]
    refine take_to8 13 17 (.int .i64 Kx) rfl rfl (by kernel_rfl) (by kernel_rfl) (by kernel_rfl) (fun _ _ _ h => h) (Or.inl ⟨by rfl, fun w' h => ?_⟩) hHeld ?_
    · obtain ⟨⟨a0, a1, a2, a3, a4, a5, a6, a7, a8, a9, b0, b1⟩, _⟩ := h
      go_simp
    try simp only [List.setIfInBounds_toArray, List.set_cons_zero, List.set_cons_succ]
    refine take_to8 14 18 (.bool Ox) rfl rfl (by kernel_rfl) (by kernel_rfl) (by kernel_rfl) (fun _ _ _ h => h) (Or.inl ⟨by rfl, fun w' h => ?_⟩) hHeld ?_
    · obtain ⟨⟨a0, a1, a2, a3, a4, a5, a6, a7, a8, a9, b0, b1⟩, _⟩ := h
      go_simp
    try simp only [List.setIfInBounds_toArray, List.set_cons_zero, List.set_cons_succ]
    refine wpAnyH_done (by kernel_rfl) ?_ _
    have hS := hHeld
    clear hHeld
    go_wp2_with fail
    go_ret
    exact ⟨by simp, E, HPl.out.kept R hS.2, Nat.le_refl _, Nat.le_succ _, hLe⟩
  by_cases hK4 : K = 4
  · subst hK4
    go_enter Try.func10, Try.ntmps10
    go_wp2_with fail
    generalize w.alloc (.cells #[.int .i64 4, .int .i64 T, .int .i64 p.K, .int .i64 p.F, .int .u64 p.H, .int .u64 p.L, .int .i64 p.B, .int .i64 F, .int .u64 H, .int .u64 L] 34) = wb at *
    generalize w.heap.size = B at *
    refine wp_region_held_drew (S := SS k B gt gr i (.slice (some ⟨gt, 0, none⟩) E.length ct) (.slice (some ⟨gr, 0, none⟩) E.length cr) (.pointer (some xa)) (.pointer (some ⟨ky, 0, none⟩)) p F H L wb) (by kernel_rfl) hS (fun hHeld => ?_)
    clear hS
    generalize wb.drew = v0 at *
    refine take_to8 0 146 (.pointer (some ⟨k, 0, none⟩)) rfl rfl (by kernel_rfl) (by kernel_rfl) (by kernel_rfl) (fun _ _ _ h => h) (Or.inl ⟨by rfl, fun w' h => ?_⟩) hHeld ?_
    · obtain ⟨⟨a0, a1, a2, a3, a4, a5, a6, a7, a8, a9, b0, b1⟩, _⟩ := h
      go_simp
    try simp only [List.setIfInBounds_toArray, List.set_cons_zero, List.set_cons_succ]
    refine take_to8 1 147 (.pointer (some ⟨k, 0, none⟩)) rfl rfl (by kernel_rfl) (by kernel_rfl) (by kernel_rfl) (fun _ _ _ h => h) (Or.inl ⟨by rfl, fun w' h => ?_⟩) hHeld ?_
    · obtain ⟨⟨a0, a1, a2, a3, a4, a5, a6, a7, a8, a9, b0, b1⟩, _⟩ := h
      go_simp
    try simp only [List.setIfInBounds_toArray, List.set_cons_zero, List.set_cons_succ]
    refine take_to8 2 148 (.pointer (some ⟨k, 0, none⟩)) rfl rfl (by kernel_rfl) (by kernel_rfl) (by kernel_rfl) (fun _ _ _ h => h) (Or.inl ⟨by rfl, fun w' h => ?_⟩) hHeld ?_
    · obtain ⟨⟨a0, a1, a2, a3, a4, a5, a6, a7, a8, a9, b0, b1⟩, _⟩ := h
      go_simp
    try simp only [List.setIfInBounds_toArray, List.set_cons_zero, List.set_cons_succ]
    refine take_to8 3 149 (.slice (some ⟨gt, 0, none⟩) E.length ct) rfl rfl (by kernel_rfl) (by kernel_rfl) (by kernel_rfl) (fun _ _ _ h => h) (Or.inl ⟨by rfl, fun w' h => ?_⟩) hHeld ?_
    · obtain ⟨⟨a0, a1, a2, a3, a4, a5, a6, a7, a8, a9, b0, b1⟩, _⟩ := h
      go_simp
    try simp only [List.setIfInBounds_toArray, List.set_cons_zero, List.set_cons_succ]
    refine take_to8 4 150 (.int .i64 i) rfl rfl (by kernel_rfl) (by kernel_rfl) (by kernel_rfl) (fun _ _ _ h => h) (Or.inl ⟨by rfl, fun w' h => ?_⟩) hHeld ?_
    · obtain ⟨⟨a0, a1, a2, a3, a4, a5, a6, a7, a8, a9, b0, b1⟩, _⟩ := h
      go_simp
    try simp only [List.setIfInBounds_toArray, List.set_cons_zero, List.set_cons_succ]
    refine take_to8 5 151 (.pointer (some ⟨gt, i, none⟩)) rfl rfl (by kernel_rfl) (by kernel_rfl) (by kernel_rfl) (fun _ _ _ h => h) (Or.inl ⟨by rfl, fun w' h => ?_⟩) hHeld ?_
    · obtain ⟨⟨a0, a1, a2, a3, a4, a5, a6, a7, a8, a9, b0, b1⟩, _⟩ := h
      go_simp
    try simp only [List.setIfInBounds_toArray, List.set_cons_zero, List.set_cons_succ]
    refine take_to8 6 152 (.pointer (some xa)) rfl rfl (by kernel_rfl) (by kernel_rfl) (by kernel_rfl) (fun _ _ _ h => h) (Or.inl ⟨by rfl, fun w' h => ?_⟩) hHeld ?_
    · obtain ⟨⟨a0, a1, a2, a3, a4, a5, a6, a7, a8, a9, b0, b1⟩, _⟩ := h
      go_simp
    try simp only [List.setIfInBounds_toArray, List.set_cons_zero, List.set_cons_succ]
    refine take_to8 7 153 (.pointer (some ⟨k, 0, none⟩)) rfl rfl (by kernel_rfl) (by kernel_rfl) (by kernel_rfl) (fun _ _ _ h => h) (Or.inl ⟨by rfl, fun w' h => ?_⟩) hHeld ?_
    · obtain ⟨⟨a0, a1, a2, a3, a4, a5, a6, a7, a8, a9, b0, b1⟩, _⟩ := h
      go_simp
    try simp only [List.setIfInBounds_toArray, List.set_cons_zero, List.set_cons_succ]
    refine take_to8 8 154 (.pointer (some ⟨k, 0, none⟩)) rfl rfl (by kernel_rfl) (by kernel_rfl) (by kernel_rfl) (fun _ _ _ h => h) (Or.inl ⟨by rfl, fun w' h => ?_⟩) hHeld ?_
    · obtain ⟨⟨a0, a1, a2, a3, a4, a5, a6, a7, a8, a9, b0, b1⟩, _⟩ := h
      go_simp
    try simp only [List.setIfInBounds_toArray, List.set_cons_zero, List.set_cons_succ]
    refine take_to8 9 155 (.pointer (some ⟨k, 1, none⟩)) rfl rfl (by kernel_rfl) (by kernel_rfl) (by kernel_rfl) (fun _ _ _ h => h) (Or.inl ⟨by rfl, fun w' h => ?_⟩) hHeld ?_
    · obtain ⟨⟨a0, a1, a2, a3, a4, a5, a6, a7, a8, a9, b0, b1⟩, _⟩ := h
      go_simp
    try simp only [List.setIfInBounds_toArray, List.set_cons_zero, List.set_cons_succ]
    refine take_to8 10 156 (.slice (some ⟨gr, 0, none⟩) E.length cr) rfl rfl (by kernel_rfl) (by kernel_rfl) (by kernel_rfl) (fun _ _ _ h => h) (Or.inl ⟨by rfl, fun w' h => ?_⟩) hHeld ?_
    · obtain ⟨⟨a0, a1, a2, a3, a4, a5, a6, a7, a8, a9, b0, b1⟩, _⟩ := h
      go_simp
    try simp only [List.setIfInBounds_toArray, List.set_cons_zero, List.set_cons_succ]
    refine take_to8 11 157 (.int .i64 i) rfl rfl (by kernel_rfl) (by kernel_rfl) (by kernel_rfl) (fun _ _ _ h => h) (Or.inl ⟨by rfl, fun w' h => ?_⟩) hHeld ?_
    · obtain ⟨⟨a0, a1, a2, a3, a4, a5, a6, a7, a8, a9, b0, b1⟩, _⟩ := h
      go_simp
    try simp only [List.setIfInBounds_toArray, List.set_cons_zero, List.set_cons_succ]
    refine take_to8 12 158 (.pointer (some ⟨gr, i, none⟩)) rfl rfl (by kernel_rfl) (by kernel_rfl) (by kernel_rfl) (fun _ _ _ h => h) (Or.inl ⟨by rfl, fun w' h => ?_⟩) hHeld ?_
    · obtain ⟨⟨a0, a1, a2, a3, a4, a5, a6, a7, a8, a9, b0, b1⟩, _⟩ := h
      go_simp
    try simp only [List.setIfInBounds_toArray, List.set_cons_zero, List.set_cons_succ]
    refine take_to8 13 159 (.pointer (some ⟨ky, 0, none⟩)) rfl rfl (by kernel_rfl) (by kernel_rfl) (by kernel_rfl) (fun _ _ _ h => h) (Or.inl ⟨by rfl, fun w' h => ?_⟩) hHeld ?_
    · obtain ⟨⟨a0, a1, a2, a3, a4, a5, a6, a7, a8, a9, b0, b1⟩, _⟩ := h
      go_simp
    try simp only [List.setIfInBounds_toArray, List.set_cons_zero, List.set_cons_succ]
    refine wpAnyH_ready (rs := [14]) (by kernel_rfl) (by simp) ?_
    refine AllReadyH.cons rfl (fun K' hK' => ?_) AllReadyH.nil
    rw [if_pos (by rfl)]
    go_wp2_with fail
    refine (all_ R _ _ l v0 (R.kept HX.out hHeld.2) (HY.out.kept hHeld.2) (by omega)).mono ?_
    rintro e v1 ⟨rfl, g6⟩
    have hS6 := hHeld.kept g6
    clear hHeld
    try go_wp2_with fail
    refine hK'.out _ _ hS6 (fun hHeld => ?_)
    clear hK' K' hS6
    try simp only [Act.put, List.setIfInBounds_toArray, List.set_cons_zero, List.set_cons_succ]
    refine take_to8 15 4 (.bool true) rfl rfl (by kernel_rfl) (by kernel_rfl) (by kernel_rfl) (fun _ _ _ h => h) (Or.inl ⟨by rfl, fun w' h => ?_⟩) hHeld ?_
    · obtain ⟨⟨a0, a1, a2, a3, a4, a5, a6, a7, a8, a9, b0, b1⟩, _⟩ := h
      go_simp
    try simp only [List.setIfInBounds_toArray, List.set_cons_zero, List.set_cons_succ]
    refine wpAnyH_done (by kernel_rfl) ?_ _
    go_wp2_with fail
    go_ret
    exact ⟨rfl, E, HPl.out.kept R hHeld.2, Nat.le_refl _, Nat.le_succ _, hLe⟩
  go_enter Try.func10, Try.ntmps10
  go_wp2_with fail
  go_ret
  exact ⟨rfl, E, HPl.out, Nat.le_refl _, Nat.le_succ _, hLe⟩
end Go.Proofs.Ytcaecfdeieoenaa
