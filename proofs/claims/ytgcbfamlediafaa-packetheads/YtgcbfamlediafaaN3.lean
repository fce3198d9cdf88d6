import Derived.Test.YtgcbfamlediafaaNA
namespace Go.Proofs.Ytgcbfamlediafaa
set_option maxRecDepth 100000
open Go.RowKit
set_option linter.unusedVariables false

/-- A head in a variable. -/
def Hm (w : World) (g : Nat) (T K G C : Int) : Prop := w.heap[g]? = some (.cells #[.int .i64 T, .int .i64 K, .int .i64 G, .int .u64 C] 24 (0, 0))
section
variable {w w' : World} {g : Nat} {T K G C : Int}
theorem Hm.lt (h : Hm w g T K G C) : g < w.heap.size := (Array.getElem?_eq_some_iff.1 h).1
theorem Hm.c0 (h : Hm w g T K G C) : w.cell? ⟨g, 0, none⟩ = some (.int .i64 T) := (cell_of_row w g 0 _ _ (0, 0) h).trans rfl
theorem Hm.c1 (h : Hm w g T K G C) : w.cell? ⟨g, 1, none⟩ = some (.int .i64 K) := (cell_of_row w g 1 _ _ (0, 0) h).trans rfl
theorem Hm.c2 (h : Hm w g T K G C) : w.cell? ⟨g, 2, none⟩ = some (.int .i64 G) := (cell_of_row w g 2 _ _ (0, 0) h).trans rfl
theorem Hm.c3 (h : Hm w g T K G C) : w.cell? ⟨g, 3, none⟩ = some (.int .u64 C) := (cell_of_row w g 3 _ _ (0, 0) h).trans rfl
theorem Hm.at (h : Hm w g T K G C) (e : w'.heap[g]? = w.heap[g]?) : Hm w' g T K G C := by unfold Hm at *; rw [e]; exact h
theorem Hm.kept (h : Hm w g T K G C) (hb : Below w.heap.size w w') : Hm w' g T K G C := h.at (hb.block g h.lt)
theorem Hm.new (w : World) (T K G C : Int) : Hm (w.alloc (.cells #[.int .i64 T, .int .i64 K, .int .i64 G, .int .u64 C] 24)) w.heap.size T K G C := heap_alloc_new w _
theorem Hm.alloc (h : Hm w g T K G C) (o : Obj) : Hm (w.alloc o) g T K G C := h.at (Below.heap_alloc _ _ _ h.lt)
end
theorem hnew (w : World) (T K G C : Int) : Below w.heap.size w (w.alloc (.cells #[.int .i64 T, .int .i64 K, .int .i64 G, .int .u64 C] 24)) := (Below.refl _ _).alloc (Nat.le_refl _) _
theorem fits_ (T n : Int) (w : World) : Calls Try.prog 38 #[.int .i64 T, .int .i64 n] w fun e w' => e = .returned (.bool (fit T n)) ∧ w' = w := by
  unfold fit
  by_cases h3 : T = 3
  · subst h3
    rw [if_pos rfl]
    go_enter Try.func38, Try.ntmps38
    go_wp2_with fail
    all_goals
      go_ret
      refine ⟨ret_bool ?_, rfl⟩
      first
        | exact (decide_eq_true (by simp_all)).symm
        | exact (decide_eq_false (by simp_all)).symm
        | exact decide_eq_decide.2 (by simp_all)
        | exact (decide_eq_true (by simp_all; omega)).symm
        | exact (decide_eq_false (by simp_all; omega)).symm
        | (rw [Bool.eq_iff_iff]; simp; try omega)
  · rw [if_neg h3]
    have e3 : (T == 3) = false := by simpa using h3
    go_enter Try.func38, Try.ntmps38
    go_wp2_with fail
    go_ret
    exact ⟨rfl, rfl⟩
theorem hOk_not {T K G C : Int} (h : hOk T K G C = false) : T < 1 ∨ (1 ≤ T ∧ 3 < T) ∨ (1 ≤ T ∧ T ≤ 3 ∧ K < 1) ∨ (1 ≤ T ∧ T ≤ 3 ∧ 1 ≤ K ∧ 4294967295 < K) ∨ (1 ≤ T ∧ T ≤ 3 ∧ 1 ≤ K ∧ K ≤ 4294967295 ∧ G < 1) ∨ (1 ≤ T ∧ T ≤ 3 ∧ 1 ≤ K ∧ K ≤ 4294967295 ∧ 1 ≤ G ∧ 2147483647 < G) ∨ (1 ≤ T ∧ T ≤ 3 ∧ 1 ≤ K ∧ K ≤ 4294967295 ∧ 1 ≤ G ∧ G ≤ 2147483647 ∧ 18446744073709551614 < C) := by
  have := of_decide_eq_false h
  omega
theorem bytes4 (T : Int) (h : 1 ≤ T ∧ T ≤ 3) (w : World) : (w.alloc (.cells #[.int .u8 T, .int .u8 0, .int .u8 0, .int .u8 0] 5)).ownsRow w.heap.size 5 1 (.slice (some ⟨w.heap.size, 0, none⟩) 4 4) 4 (cells [T, 0, 0, 0]) :=
  ⟨rfl, .inr ⟨w.heap.size, 4, _, rfl, Nat.le_refl _, heap_alloc_new _ _, Nat.le_refl _, by unfold maxLen; omega, rfl, rfl⟩⟩
set_option maxHeartbeats 2000000 in
theorem refPutHead_ (T K G C : Int) (w : World) (hC : InU C) :
    Calls Try.prog 10 #[.agg #[.int .i64 T, .int .i64 K, .int .i64 G, .int .u64 C]] w fun e w' => ∃ v, e = .returned (.tuple #[v, .int .i64 (hE T K G C)]) ∧ w'.ownsRow w.heap.size 5 1 v (hB T K G C).length (cells (hB T K G C)) ∧ Below w.heap.size w w' := by
  have B0 := hnew w T K G C
  have m0 := Hm.new w T K G C
  cases hh : hOk T K G C with
  | false =>
    have e1 : hE T K G C = 90 := by unfold hE; rw [hh]; rfl
    have e2 : hB T K G C = [] := by unfold hB; rw [hh]; rfl
    have hn := hOk_not hh
    rw [e1, e2]
    clear e1 e2 hh m0
    go_enter Try.func10, Try.ntmps10
    rcases hn with h | ⟨h1, h⟩ | ⟨h1, h2, h⟩ | ⟨h1, h2, h3, h⟩ | ⟨h1, h2, h3, h4, h⟩ | ⟨h1, h2, h3, h4, h5, h⟩ | ⟨h1, h2, h3, h4, h5, h6, h⟩
    all_goals
      go_wp2_with fail
      go_ret2
      exact ⟨_, rfl, World.ownsRow_nil _ _ _ _, B0⟩
  | true =>
    have e1 : hE T K G C = 0 := by unfold hE; rw [hh]; rfl
    have e2 : hB T K G C = hRow T K G C := by unfold hB; rw [hh]; rfl
    obtain ⟨h1, h2, h3, h4, h5, h6, h7⟩ := hOk_in hh
    rw [e1, e2, hRow_length]
    clear e1 e2 hh
    have kK := fun w => number_ K 4 w ⟨by omega, by omega⟩ (by omega)
    have kG := fun w => number_ G 4 w ⟨by omega, by omega⟩ (by omega)
    have kC := fun w => number_ C 8 w hC (by omega)
    go_enter Try.func10, Try.ntmps10
    have O4 := bytes4 T ⟨h1, h2⟩ (w.alloc (.cells #[.int .i64 T, .int .i64 K, .int .i64 G, .int .u64 C] 24))
    rw [World.size_alloc] at O4
    have B1 := B0.alloc B0.size (.cells #[.int .u8 T, .int .u8 0, .int .u8 0, .int .u8 0] 5)
    have m1 := m0.alloc (.cells #[.int .u8 T, .int .u8 0, .int .u8 0, .int .u8 0] 5)
    clear B0 m0
    go_wp2_with fail
    generalize (w.alloc (.cells #[.int .i64 T, .int .i64 K, .int .i64 G, .int .u64 C] 24)).alloc (.cells #[.int .u8 T, .int .u8 0, .int .u8 0, .int .u8 0] 5) = wa at *
    refine (kK _).mono ?_
    rintro e u0 ⟨x0, rfl, q0, g0⟩
    obtain ⟨a0, d0, rfl, y0, _⟩ := own_form q0 (be_byte 4 K)
    have p0 := own_bel7 O4 g0
    have r0 := bel_bel B1 B1.size g0
    have l0 := m1.kept g0
    have z0 := r0.size
    have t0 := l0.lt
    clear O4 B1 m1 q0 g0
    go_wp2_with (at_builtin; refine wpList_app7 rfl _ _ rfl (w.heap.size + 1) (.slice (some ⟨w.heap.size + 1, 0, none⟩) 4 4) 4 ([T, 0, 0, 0]) rfl p0 (by decide) a0 4 d0 (be 4 K) rfl y0 (by omega) (by omega) ?_; intro v0 w0 o0 j0; have f0 : Below w.heap.size w w0 := r0.grown j0 z0 fun p hp => (by have := (p0.lt p hp).1; omega); have s0 := l0.at (j0.block _ l0.lt (fun e => by have := (p0.lt w.heap.size e.symm).1; omega)); have i0 := s0.c2)
    clear p0 r0 l0 y0 j0 i0
    refine (kG _).mono ?_
    rintro e u1 ⟨x1, rfl, q1, g1⟩
    obtain ⟨a1, d1, rfl, y1, _⟩ := own_form q1 (be_byte 4 G)
    have p1 := own_bel7 o0 g1
    have r1 := bel_bel f0 f0.size g1
    have l1 := s0.kept g1
    have z1 := r1.size
    have t1 := l1.lt
    clear o0 f0 s0 q1 g1
    go_wp2_with (at_builtin; refine wpList_app7 rfl _ _ rfl (w.heap.size + 1) v0 8 ([T, 0, 0, 0] ++ be 4 K) rfl p1 (by decide) a1 4 d1 (be 4 G) rfl y1 (by omega) (by omega) ?_; intro v1 w1 o1 j1; have f1 : Below w.heap.size w w1 := r1.grown j1 z1 fun p hp => (by have := (p1.lt p hp).1; omega); have s1 := l1.at (j1.block _ l1.lt (fun e => by have := (p1.lt w.heap.size e.symm).1; omega)); have i1 := s1.c3)
    clear p1 r1 l1 y1 j1 i1
    refine (kC _).mono ?_
    rintro e u2 ⟨x2, rfl, q2, g2⟩
    obtain ⟨a2, d2, rfl, y2, _⟩ := own_form q2 (be_byte 8 C)
    have p2 := own_bel7 o1 g2
    have r2 := bel_bel f1 f1.size g2
    have l2 := s1.kept g2
    have z2 := r2.size
    have t2 := l2.lt
    clear o1 f1 s1 q2 g2
    go_wp2_with (at_builtin; refine wpList_app7 rfl _ _ rfl (w.heap.size + 1) v1 12 ([T, 0, 0, 0] ++ be 4 K ++ be 4 G) rfl p2 (by decide) a2 8 d2 (be 8 C) rfl y2 (by omega) (by omega) ?_; intro v2 w2 o2 j2; have f2 : Below w.heap.size w w2 := r2.grown j2 z2 fun p hp => (by have := (p2.lt p hp).1; omega); have s2 := l2.at (j2.block _ l2.lt (fun e => by have := (p2.lt w.heap.size e.symm).1; omega)))
    clear p2 r2 l2 y2 j2
    go_ret2
    exact ⟨_, rfl, own_le7 o2 (Nat.le_succ _), f2⟩
theorem nOk_not {S G C : Int} (h : nOk S G C = false) : S < 0 ∨ (0 ≤ S ∧ 1 < S) ∨ (0 ≤ S ∧ S ≤ 1 ∧ G < 1) ∨ (0 ≤ S ∧ S ≤ 1 ∧ 1 ≤ G ∧ 2147483647 < G) ∨ (0 ≤ S ∧ S ≤ 1 ∧ 1 ≤ G ∧ G ≤ 2147483647 ∧ 18446744073709551614 < C) := by
  have := of_decide_eq_false h
  omega
set_option maxHeartbeats 2000000 in
theorem refNonce_ (S G C : Int) (w : World) (hC : InU C) :
    Calls Try.prog 13 #[.int .i64 S, .int .i64 G, .int .u64 C] w fun e w' => ∃ v, e = .returned v ∧ w'.ownsRow w.heap.size 5 1 v (nB S G C).length (cells (nB S G C)) ∧ Below w.heap.size w w' := by
  cases hh : nOk S G C with
  | false =>
    have e2 : nB S G C = [] := by unfold nB; rw [hh]; rfl
    have hn := nOk_not hh
    rw [e2]
    clear e2 hh
    go_enter Try.func13, Try.ntmps13
    rcases hn with h | ⟨h1, h⟩ | ⟨h1, h2, h⟩ | ⟨h1, h2, h3, h⟩ | ⟨h1, h2, h3, h4, h⟩
    all_goals
      go_wp2_with fail
      go_ret
      exact ⟨_, rfl, World.ownsRow_nil _ _ _ _, Below.refl _ _⟩
  | true =>
    have e2 : nB S G C = nRow S G C := by unfold nB; rw [hh]; rfl
    obtain ⟨h1, h3, h4, h5⟩ := of_decide_eq_true (show decide _ = true from hh)
    rw [e2, nRow_length]
    clear e2 hh
    have kC := fun w => number_ C 8 w hC (by omega)
    have key : ∀ x : Int, x = S * 2147483648 + G → Hid (be 4 x ++ be 8 C = nRow S G C) := fun x e => by rw [e]; exact hid rfl
    rcases h1 with rfl | rfl
    · have kx := fun w => number_ G 4 w ⟨by omega, by omega⟩ (by omega)
      have HK := key G (by omega)
      clear key
      go_enter Try.func13, Try.ntmps13
      go_wp2_with fail
      refine (kx _).mono ?_
      rintro e u0 ⟨v0, rfl, q0, g0⟩
      go_wp2_with fail
      refine (kC _).mono ?_
      rintro e u1 ⟨v1, rfl, q1, g1⟩
      obtain ⟨a1, d1, rfl, y1, _⟩ := own_form q1 (be_byte 8 C)
      have p1 := own_bel7 q0 g1
      have r1 := bel_bel g0 g0.size g1
      have z1 := r1.size
      clear q0 g0 q1 g1
      go_wp2_with (at_builtin; refine wpList_app7 rfl _ _ rfl w.heap.size v0 4 (be 4 (G)) rfl p1 (by decide) a1 8 d1 (be 8 C) rfl y1 (by omega) (by omega) ?_; intro v2 w2 o2 j2; have f2 : Below w.heap.size w w2 := r1.grown j2 z1 fun p hp => (p1.lt p hp).1)
      go_ret
      exact ⟨_, rfl, by rw [← HK.out]; exact o2, f2⟩
    · have kx := fun w => number_ (G + 2147483648) 4 w ⟨by omega, by omega⟩ (by omega)
      have HK := key (G + 2147483648) (by omega)
      clear key
      go_enter Try.func13, Try.ntmps13
      go_wp2_with fail
      refine (kx _).mono ?_
      rintro e u0 ⟨v0, rfl, q0, g0⟩
      go_wp2_with fail
      refine (kC _).mono ?_
      rintro e u1 ⟨v1, rfl, q1, g1⟩
      obtain ⟨a1, d1, rfl, y1, _⟩ := own_form q1 (be_byte 8 C)
      have p1 := own_bel7 q0 g1
      have r1 := bel_bel g0 g0.size g1
      have z1 := r1.size
      clear q0 g0 q1 g1
      go_wp2_with (at_builtin; refine wpList_app7 rfl _ _ rfl w.heap.size v0 4 (be 4 (G + 2147483648)) rfl p1 (by decide) a1 8 d1 (be 8 C) rfl y1 (by omega) (by omega) ?_; intro v2 w2 o2 j2; have f2 : Below w.heap.size w w2 := r1.grown j2 z1 fun p hp => (p1.lt p hp).1)
      go_ret
      exact ⟨_, rfl, by rw [← HK.out]; exact o2, f2⟩
end Go.Proofs.Ytgcbfamlediafaa
