import Derived.Test.YtcbmgpmjnehjdaaGreatWF
import Derived.Test.YtcbmgpmjnehjdaaGreatKRow
namespace Go.Proofs.YtcbmgpmjnehjdaaGreat
set_option maxRecDepth 100000
open Go.ChangeShapes Go.WideShapes Go.ChangeAt Go.RowKit Go.Deep
set_option linter.unusedVariables false

/-! Two states that came in. -/
instance : Inhabited Pr := ⟨pr0⟩
instance : Inhabited Ln := ⟨ln0⟩
theorem mem_weightsAll {H : Type} {P : Program} {e : TypeId} {d : DataW H} {m : Nat} (hm : m ∈ d.weights P e) : ∀ {l : List (DataW H)}, d ∈ l → m ∈ DataW.weightsAll P e l
  | x :: l, h => by
    rw [DataW.weightsAll]
    rcases List.mem_cons.1 h with rfl | h
    · exact List.mem_append_left _ hm
    · exact List.mem_append_right _ (mem_weightsAll hm h)
theorem cells_threeK {w : World} {base : Nat} {x : Addr} {cs : List Value} (h : w.cells? base x 3 = some cs) : ∃ c0 c1 c2, cs = [c0, c1, c2] ∧ w.cell? (x.add 0) = some c0 ∧ w.cell? (x.add 1) = some c1 ∧ w.cell? (x.add 2) = some c2 := by
  unfold World.cells? at h
  split at h
  · simp only [List.range, List.range.loop, List.mapM_cons, List.mapM_nil, Option.bind_eq_bind, Option.pure_def, Option.bind_eq_some_iff] at h
    obtain ⟨c0, h0, y, ⟨c1, h1, y1, ⟨c2, h2, u, e3, e2⟩, e1⟩, e0⟩ := h
    simp at e0 e1 e2 e3
    subst e3 e2 e1 e0
    exact ⟨c0, c1, c2, rfl, h0, h1, h2⟩
  · cases h
theorem cells_eight {w : World} {base : Nat} {x : Addr} {cs : List Value} (h : w.cells? base x 8 = some cs) : ∃ c0 c1 c2 c3 c4 c5 c6 c7, cs = [c0, c1, c2, c3, c4, c5, c6, c7] ∧ w.cell? (x.add 0) = some c0 ∧ w.cell? (x.add 1) = some c1 ∧ w.cell? (x.add 2) = some c2 ∧ w.cell? (x.add 3) = some c3 ∧ w.cell? (x.add 4) = some c4 ∧ w.cell? (x.add 5) = some c5 ∧ w.cell? (x.add 6) = some c6 ∧ w.cell? (x.add 7) = some c7 := by
  unfold World.cells? at h
  split at h
  · simp only [List.range, List.range.loop, List.mapM_cons, List.mapM_nil, Option.bind_eq_bind, Option.pure_def, Option.bind_eq_some_iff] at h
    obtain ⟨c0, h0, y, ⟨c1, h1, y1, ⟨c2, h2, y2, ⟨c3, h3, y3, ⟨c4, h4, y4, ⟨c5, h5, y5, ⟨c6, h6, y6, ⟨c7, h7, u, e8, e7⟩, e6⟩, e5⟩, e4⟩, e3⟩, e2⟩, e1⟩, e0⟩ := h
    simp at e0 e1 e2 e3 e4 e5 e6 e7 e8
    subst e8 e7 e6 e5 e4 e3 e2 e1 e0
    exact ⟨c0, c1, c2, c3, c4, c5, c6, c7, rfl, h0, h1, h2, h3, h4, h5, h6, h7⟩
  · cases h
/-- A list of peers that came in. -/
theorem open_prs2 {H : Type} {enc : TypeId × Value → H} {w : World} {base fuel : Nat} {held : Bool} {cs : List Value} {x : DataW H × List MemPlace}
    (h : DataW.trod enc Tryz.prog w base (fun _ => true) held fuel 23 cs = some x) (hw : ∀ n ∈ x.1.weights Tryz.prog 23, n ≤ reachBytes) :
    ∃ a n c l, cs = [.slice a n c] ∧ Pls w a n l ∧ ∀ x ∈ l, x.k.length ≤ 140737488351232 := by
  rcases open_slice Tryz.underlying23 h with ⟨rfl, _⟩ | ⟨x, n, c, m, nn, D, Pl, rfl, _, hl, hm, hme, hx, hel⟩
  · exact ⟨none, 0, 0, [], rfl, ⟨rfl, .inl rfl⟩, by simp⟩
  · have hnm : n ≤ m := by rw [hme]; split <;> omega
    subst hx
    have key : ∀ i, i < n → ∃ s : Pr, ∃ ka kc pa pc, (w.cell? ((x.add (i * 3)).add 0) = some (.int .i64 s.K) ∧ w.cell? ((x.add (i * 3)).add 1) = some (.slice ka s.k.length kc) ∧ w.cell? ((x.add (i * 3)).add 2) = some (.slice pa s.ps.length pc)) ∧ Bs w ka s.k.length s.k ∧ Ps w pa s.ps.length s.ps ∧ (s.k.length ≤ maxLen ∧ s.ps.length ≤ maxLen ∧ InI s.K) ∧ s.k.length ≤ 140737488351232 := by
      intro i hi
      obtain ⟨cs', h1, h2⟩ := hel i (by omega)
      rw [cellsPr] at h1
      obtain ⟨c0, c1, c2, rfl, g0, g1, g2⟩ := cells_threeK h1
      obtain ⟨K, ka, m, c, k, pa, n, d, ps, e, iK, ⟨vk, vb⟩, ⟨hp, hp1, hp2, _⟩⟩ := open_prc h2 (fun k hk => hw k (by
        simp only [DataW.weights, Tryz.underlying23]
        refine List.mem_cons_of_mem _ (List.mem_append_left _ (mem_weightsAll hk ?_))
        exact List.mem_map.2 ⟨i, List.mem_range.2 hi, rfl⟩))
      simp at e
      obtain ⟨rfl, rfl, rfl⟩ := e
      have b0 : k.length = m := vk.bs.1
      have b1 : ps.length = n := hp.len
      exact ⟨⟨K, k, ps⟩, ka, c, pa, d, ⟨g0, by simp only [b0]; exact g1, by simp only [b1]; exact g2⟩, by simp only [b0]; exact vk.bs, by simp only [b1]; exact hp, ⟨by simp only [b0]; exact Nat.le_trans vk.nc vk.cm, by simp only [b1]; exact Nat.le_trans hp1 hp2, iK⟩, by simp only [b0]; exact vb⟩
    obtain ⟨f, hf⟩ := choose_lt key
    refine ⟨some x, n, c, (List.range n).map f, rfl, ⟨by simp, ?_⟩, fun y hy => ?_⟩
    rotate_left
    · obtain ⟨i, hi, rfl⟩ := List.mem_map.1 hy
      first | (obtain ⟨_, _, _, _, _, _, _, _, h⟩ := hf i (List.mem_range.1 hi); exact h) | (obtain ⟨_, _, _, _, _, h⟩ := hf i (List.mem_range.1 hi); exact h)
    by_cases h0 : n = 0
    · exact .inl h0
    obtain ⟨b, off, spot⟩ := x
    have hspot : spot = none := by
      obtain ⟨_, _, _, _, ⟨q, _⟩, _⟩ := hf 0 (by omega)
      simpa [Addr.add] using World.cell?_spot q
    subst hspot
    refine .inr ⟨b, off, rfl, fun i hi => ?_⟩
    obtain ⟨ka, kc, pa, pc, ⟨q0, q1, q2⟩, r1, r2, r3, -⟩ := hf i hi
    have hg : ((List.range n).map f).getD i pr0 = f i := by simp [List.getD, hi]
    rw [hg]
    simp only [Addr.add_lit, Nat.add_zero] at q0 q1 q2
    exact ⟨ka, kc, pa, pc, ⟨q0, q1, q2⟩, r1, r2, r3⟩
/-- A list of lanes that came in. -/
theorem open_lns2 {H : Type} {enc : TypeId × Value → H} {w : World} {base fuel : Nat} {held : Bool} {cs : List Value} {x : DataW H × List MemPlace}
    (h : DataW.trod enc Tryz.prog w base (fun _ => true) held fuel 24 cs = some x) (hw : ∀ n ∈ x.1.weights Tryz.prog 24, n ≤ reachBytes) :
    ∃ a n c l, cs = [.slice a n c] ∧ Lls w a n l ∧ ∀ x ∈ l, x.k.length ≤ 140737488351232 := by
  rcases open_slice Tryz.underlying24 h with ⟨rfl, _⟩ | ⟨x, n, c, m, nn, D, Pl, rfl, _, hl, hm, hme, hx, hel⟩
  · exact ⟨none, 0, 0, [], rfl, ⟨rfl, .inl rfl⟩, by simp⟩
  · have hnm : n ≤ m := by rw [hme]; split <;> omega
    subst hx
    have key : ∀ i, i < n → ∃ s : Ln, ∃ ka kc, (w.cell? ((x.add (i * 8)).add 0) = some (.slice ka s.k.length kc) ∧ w.cell? ((x.add (i * 8)).add 1) = some (.int .i64 s.S) ∧ w.cell? ((x.add (i * 8)).add 2) = some (.int .i64 s.C) ∧ w.cell? ((x.add (i * 8)).add 3) = some (.int .i64 s.N) ∧ w.cell? ((x.add (i * 8)).add 4) = some (.int .u64 s.D) ∧ w.cell? ((x.add (i * 8)).add 5) = some (.int .u64 s.E) ∧ w.cell? ((x.add (i * 8)).add 6) = some (.int .i64 s.s) ∧ w.cell? ((x.add (i * 8)).add 7) = some (.int .i64 s.n)) ∧ Bs w ka s.k.length s.k ∧ (s.k.length ≤ maxLen ∧ s.Ok) ∧ s.k.length ≤ 140737488351232 := by
      intro i hi
      obtain ⟨cs', h1, h2⟩ := hel i (by omega)
      rw [cellsLn] at h1
      obtain ⟨c0, c1, c2, c3, c4, c5, c6, c7, rfl, g0, g1, g2, g3, g4, g5, g6, g7⟩ := cells_eight h1
      obtain ⟨a, m, c, k, S, C, N, D, E, s, n, e, ⟨vk, vb⟩, ⟨iS, iC, iN, iD, iE, is, iN'⟩⟩ := open_lnc h2 (fun k hk => hw k (by
        simp only [DataW.weights, Tryz.underlying24]
        refine List.mem_cons_of_mem _ (List.mem_append_left _ (mem_weightsAll hk ?_))
        exact List.mem_map.2 ⟨i, List.mem_range.2 hi, rfl⟩))
      simp at e
      obtain ⟨rfl, rfl, rfl, rfl, rfl, rfl, rfl, rfl⟩ := e
      have b0 : k.length = m := vk.bs.1
      exact ⟨⟨k, S, C, N, D, E, s, n⟩, a, c, ⟨by simp only [b0]; exact g0, g1, g2, g3, g4, g5, g6, g7⟩, by simp only [b0]; exact vk.bs, ⟨by simp only [b0]; exact Nat.le_trans vk.nc vk.cm, ⟨iS, iC, iN, iD, iE, is, iN'⟩⟩, by simp only [b0]; exact vb⟩
    obtain ⟨f, hf⟩ := choose_lt key
    refine ⟨some x, n, c, (List.range n).map f, rfl, ⟨by simp, ?_⟩, fun y hy => ?_⟩
    rotate_left
    · obtain ⟨i, hi, rfl⟩ := List.mem_map.1 hy
      first | (obtain ⟨_, _, _, _, _, _, _, _, h⟩ := hf i (List.mem_range.1 hi); exact h) | (obtain ⟨_, _, _, _, _, h⟩ := hf i (List.mem_range.1 hi); exact h)
    by_cases h0 : n = 0
    · exact .inl h0
    obtain ⟨b, off, spot⟩ := x
    have hspot : spot = none := by
      obtain ⟨_, _, ⟨q, _⟩, _⟩ := hf 0 (by omega)
      simpa [Addr.add] using World.cell?_spot q
    subst hspot
    refine .inr ⟨b, off, rfl, fun i hi => ?_⟩
    obtain ⟨ka, kc, ⟨q0, q1, q2, q3, q4, q5, q6, q7⟩, r1, r2, -⟩ := hf i hi
    have hg : ((List.range n).map f).getD i ln0 = f i := by simp [List.getD, hi]
    rw [hg]
    simp only [Addr.add_lit, Nat.add_zero] at q0 q1 q2 q3 q4 q5 q6 q7
    exact ⟨ka, kc, ⟨q0, q1, q2, q3, q4, q5, q6, q7⟩, r1, r2⟩
theorem underCs : ∃ f0 f1 f2 f3, Tryz.prog.underlying 37 = some (.struct #[f0, f1, f2, f3]) ∧ (f0.type = 23 ∧ f1.type = 23 ∧ f2.type = 24 ∧ f3.type = 24) ∧ f0.offset = 0 ∧ f1.offset = 1 ∧ f2.offset = 2 ∧ f3.offset = 3 := ⟨_, _, _, _, Tryz.underlying37, ⟨rfl, rfl, rfl, rfl⟩, rfl, rfl, rfl, rfl⟩
theorem cellsCs : Tryz.prog.cellsOf 37 = 4 := by kernel_rfl
theorem cellsPrs : Tryz.prog.cellsOf 23 = 1 := by kernel_rfl
theorem cellsLns : Tryz.prog.cellsOf 24 = 1 := by kernel_rfl
theorem open_cs2 {H : Type} {enc : TypeId × Value → H} {W : World} {base b0 : Nat} {held : Bool} {v : Value} {d : DataW H} {p : List MemPlace} (hv : Value.okWide Tryz.prog W .any base 37 v) (h : DataW.Trod enc Tryz.prog W b0 (fun _ => true) held 37 v d p) (hw : ∀ n ∈ d.weights Tryz.prog 37, n ≤ reachBytes) :
    ∃ pa qa la ma pn pc qn qc ln lc mn mc ps qs ls ms, v = .agg #[.slice pa pn pc, .slice qa qn qc, .slice la ln lc, .slice ma mn mc] ∧ Pls W pa pn ps ∧ Pls W qa qn qs ∧ Lls W la ln ls ∧ Lls W ma mn ms ∧ (∀ x ∈ ps, x.k.length ≤ 140737488351232) ∧ (∀ x ∈ qs, x.k.length ≤ 140737488351232) ∧ (∀ x ∈ ls, x.k.length ≤ 140737488351232) ∧ (∀ x ∈ ms, x.k.length ≤ 140737488351232) := by
  obtain ⟨cs, rfl, hsz, _⟩ : ∃ cs, v = .agg cs ∧ cs.size = Tryz.prog.cellsOf 37 ∧ Row.okWide Tryz.prog W .any base 37 cs := by
    simpa [Value.okWide, Tryz.underlying37] using hv
  obtain ⟨fuel, hf⟩ := h
  obtain ⟨f0, f1, f2, f3, hu, ⟨t0, t1, t2, t3⟩, o0, o1, o2, o3⟩ := underCs
  obtain ⟨xs, n, _, e, hl, hlen, hff⟩ := DataW.trod_struct hu hf
  obtain ⟨rfl, rfl⟩ := Prod.mk.inj e
  rw [cellsCs] at hl
  match xs, hlen with
  | [y0, y1, y2, y3], _ =>
    have h0 := hff 0 f0 rfl
    have h1 := hff 1 f1 rfl
    have h2 := hff 2 f2 rfl
    have h3 := hff 3 f3 rfl
    rw [t0, o0, cellsPrs] at h0
    rw [t1, o1, cellsPrs] at h1
    rw [t2, o2, cellsLns] at h2
    rw [t3, o3, cellsLns] at h3
    obtain ⟨a0, n0, c0, l0, e0, r0, t0b⟩ := open_prs2 (h0.trans rfl) (fun n hn => hw n (by
      simp only [DataW.weights, hu]
      simp [DataW.weightsEach, t0, t1, t2, t3, hn]))
    obtain ⟨a1, n1, c1, l1, e1, r1, t1b⟩ := open_prs2 (h1.trans rfl) (fun n hn => hw n (by
      simp only [DataW.weights, hu]
      simp [DataW.weightsEach, t0, t1, t2, t3, hn]))
    obtain ⟨a2, n2, c2, l2, e2, r2, t2b⟩ := open_lns2 (h2.trans rfl) (fun n hn => hw n (by
      simp only [DataW.weights, hu]
      simp [DataW.weightsEach, t0, t1, t2, t3, hn]))
    obtain ⟨a3, n3, c3, l3, e3, r3, t3b⟩ := open_lns2 (h3.trans rfl) (fun n hn => hw n (by
      simp only [DataW.weights, hu]
      simp [DataW.weightsEach, t0, t1, t2, t3, hn]))
    refine ⟨a0, a1, a2, a3, n0, c0, n1, c1, n2, c2, n3, c3, l0, l1, l2, l3, ?_, r0, r1, r2, r3, t0b, t1b, t2b, t3b⟩
    obtain ⟨cl⟩ := cs
    match cl, hl with
    | [x0, x1, x2, x3], _ =>
      have q0 : [x0] = [.slice a0 n0 c0] := e0
      have q1 : [x1] = [.slice a1 n1 c1] := e1
      have q2 : [x2] = [.slice a2 n2 c2] := e2
      have q3 : [x3] = [.slice a3 n3 c3] := e3
      rw [(List.cons.inj q0).1, (List.cons.inj q1).1, (List.cons.inj q2).1, (List.cons.inj q3).1]
end Go.Proofs.YtcbmgpmjnehjdaaGreat
