import Derived.Test.YthjfgdldclhbhaaME
import Derived.Test.YthjfgdldclhbhaaNRow
import Derived.Deep.Slices
import Derived.Deep.Grids
namespace Go.Proofs.Ythjfgdldclhbhaa
set_option maxRecDepth 100000
open Go.ChangeShapes Go.WideShapes Go.ChangeAt Go.RowKit Go.Deep
set_option linter.unusedVariables false

theorem mem_weightsAll {H : Type} {P : Program} {e : TypeId} {d : DataW H} {m : Nat} (hm : m ∈ d.weights P e) : ∀ {l : List (DataW H)}, d ∈ l → m ∈ DataW.weightsAll P e l
  | x :: l, h => by
    rw [DataW.weightsAll]
    rcases List.mem_cons.1 h with rfl | h
    · exact List.mem_append_left _ hm
    · exact List.mem_append_right _ (mem_weightsAll hm h)
theorem cells_two {w : World} {base : Nat} {x : Addr} {cs : List Value} (h : w.cells? base x 2 = some cs) : ∃ c0 c1, cs = [c0, c1] ∧ w.cell? (x.add 0) = some c0 ∧ w.cell? (x.add 1) = some c1 := by
  unfold World.cells? at h
  split at h
  · simp only [List.range, List.range.loop, List.mapM_cons, List.mapM_nil, Option.bind_eq_bind, Option.pure_def, Option.bind_eq_some_iff] at h
    obtain ⟨c0, h0, y, ⟨c1, h1, u, e2, e1⟩, e0⟩ := h
    simp at e0 e1 e2
    subst e2 e1 e0
    exact ⟨c0, c1, rfl, h0, h1⟩
  · cases h
theorem cells_six {w : World} {base : Nat} {x : Addr} {cs : List Value} (h : w.cells? base x 6 = some cs) : ∃ c0 c1 c2 c3 c4 c5, cs = [c0, c1, c2, c3, c4, c5] ∧ w.cell? (x.add 0) = some c0 ∧ w.cell? (x.add 1) = some c1 ∧ w.cell? (x.add 2) = some c2 ∧ w.cell? (x.add 3) = some c3 ∧ w.cell? (x.add 4) = some c4 ∧ w.cell? (x.add 5) = some c5 := by
  unfold World.cells? at h
  split at h
  · simp only [List.range, List.range.loop, List.mapM_cons, List.mapM_nil, Option.bind_eq_bind, Option.pure_def, Option.bind_eq_some_iff] at h
    obtain ⟨c0, h0, y, ⟨c1, h1, y1, ⟨c2, h2, y2, ⟨c3, h3, y3, ⟨c4, h4, y4, ⟨c5, h5, u, e6, e5⟩, e4⟩, e3⟩, e2⟩, e1⟩, e0⟩ := h
    simp at e0 e1 e2 e3 e4 e5 e6
    subst e6 e5 e4 e3 e2 e1 e0
    exact ⟨c0, c1, c2, c3, c4, c5, rfl, h0, h1, h2, h3, h4, h5⟩
  · cases h
theorem underFt : ∃ f0 f1, Try.prog.underlying 71 = some (.struct #[f0, f1]) ∧ f0.type = 3 ∧ f1.type = 3 ∧ f0.offset = 0 ∧ f1.offset = 1 := ⟨_, _, Try.underlying71, rfl, rfl, rfl, rfl⟩
theorem cellsFt : Try.prog.cellsOf 71 = 2 := by kernel_rfl
theorem bytesFt : Try.prog.bytesOf 71 = 16 := by kernel_rfl
theorem cells3 : Try.prog.cellsOf 3 = 1 := by kernel_rfl
/-- A list of faults that came in. -/
theorem open_faults {H : Type} {enc : TypeId × Value → H} {w : World} {base fuel : Nat} {held : Bool} {cs : List Value} {x : DataW H × List MemPlace}
    (h : DataW.trod enc Try.prog w base (fun _ => true) held fuel 31 cs = some x) (hw : ∀ n ∈ x.1.weights Try.prog 31, n ≤ reachBytes) :
    ∃ a n c fs, cs = [.slice a n c] ∧ Fs w a n fs ∧ n * 16 ≤ 140737488355328 := by
  rcases open_slice Try.underlying31 h with ⟨rfl, _⟩ | ⟨x, n, c, m, nn, D, Pl, rfl, _, hl, hm, hme, hx, hel⟩
  · exact ⟨none, 0, 0, [], rfl, ⟨rfl, .inl rfl⟩, by omega⟩
  · have hnm : n ≤ m := by rw [hme]; split <;> omega
    subst hx
    have hb := hw ((((List.range n).map D).length + ((List.range (m - n)).map fun j => D (n + j)).length) * Try.prog.bytesOf 71) (by simp only [DataW.weights, Try.underlying31]; exact List.mem_cons_self)
    rw [bytesFt] at hb
    simp only [List.length_map, List.length_range] at hb
    have hr : reachBytes = 140737488351232 := by decide
    have key : ∀ i, i < n → ∃ y : Int × Int, w.cell? ((x.add (i * 2)).add 0) = some (.int .i64 y.1) ∧ w.cell? ((x.add (i * 2)).add 1) = some (.int .i64 y.2) := by
      intro i hi
      obtain ⟨cs', h1, h2⟩ := hel i (by omega)
      rw [cellsFt] at h1
      obtain ⟨c0, c1, rfl, g0, g1⟩ := cells_two h1
      obtain ⟨f0, f1, hu, t0, t1, o0, o1⟩ := underFt
      obtain ⟨y0, y1, q, _, _, k0, k1⟩ := trod_struct2 hu h2
      rw [t0, o0, cells3] at k0
      rw [t1, o1, cells3] at k1
      obtain ⟨z0, e0, _⟩ := DataW.trod_int Try.underlying3 k0
      obtain ⟨z1, e1, _⟩ := DataW.trod_int Try.underlying3 k1
      simp at e0 e1
      subst e0 e1
      exact ⟨(z0, z1), g0, g1⟩
    obtain ⟨f, hf⟩ := choose_lt key
    refine ⟨some x, n, c, (List.range n).map f, rfl, ⟨by simp, ?_⟩, by omega⟩
    by_cases h0 : n = 0
    · exact .inl h0
    obtain ⟨b, off, spot⟩ := x
    have hspot : spot = none := by simpa [Addr.add] using World.cell?_spot (hf 0 (by omega)).1
    subst hspot
    refine .inr ⟨b, off, rfl, fun i hi => ?_⟩
    have := hf i hi
    have hg : ((List.range n).map f).getD i (0, 0) = f i := by simp [List.getD, hi]
    rw [hg]
    simpa only [Addr.add_lit, Nat.add_zero] using this
/-- A list of truths that came in. -/
theorem open_bls {H : Type} {enc : TypeId × Value → H} {w : World} {base fuel : Nat} {held : Bool} {cs : List Value} {x : DataW H × List MemPlace}
    (h : DataW.trod enc Try.prog w base (fun _ => true) held fuel 32 cs = some x) (hw : ∀ n ∈ x.1.weights Try.prog 32, n ≤ reachBytes) :
    ∃ a n c ks, cs = [.slice a n c] ∧ Bl w a n ks ∧ n ≤ 140737488355328 := by
  rcases open_bools Try.underlying32 Try.underlying4 (by kernel_rfl) h with ⟨rfl, _⟩ | ⟨x, n, c, B, rfl, _, hl, hm, hx, hc⟩
  · exact ⟨none, 0, 0, [], rfl, ⟨rfl, .inl rfl⟩, by omega⟩
  · subst hx
    have hb := hw ((((List.range n).map fun i => DataW.lit (H := H) (.bool (B i))).length + ((List.range (c - n)).map fun j => DataW.lit (H := H) (.bool (B (n + j)))).length) * Try.prog.bytesOf 4) (by simp only [boolRow, DataW.weights, Try.underlying32]; exact List.mem_cons_self)
    rw [show Try.prog.bytesOf 4 = 1 by kernel_rfl] at hb
    simp only [List.length_map, List.length_range] at hb
    have hr : reachBytes = 140737488351232 := by decide
    refine ⟨some x, n, c, (List.range n).map B, rfl, ⟨by simp, ?_⟩, by omega⟩
    by_cases h0 : n = 0
    · exact .inl h0
    obtain ⟨b, off, spot⟩ := x
    have hspot : spot = none := by simpa [Addr.add] using World.cell?_spot (hc 0 (by omega))
    subst hspot
    refine .inr ⟨b, off, rfl, fun i hi => ?_⟩
    have := hc i (by omega)
    have hg : ((List.range n).map B).getD i false = B i := by simp [List.getD, hi]
    rw [hg]
    simpa only [Addr.add_lit] using this
theorem underOp : ∃ f0 f1 f2 f3 f4 f5, Try.prog.underlying 34 = some (.struct #[f0, f1, f2, f3, f4, f5]) ∧ (f0.type = 3 ∧ f1.type = 3 ∧ f2.type = 4 ∧ f3.type = 25 ∧ f4.type = 31 ∧ f5.type = 32) ∧ f0.offset = 0 ∧ f1.offset = 1 ∧ f2.offset = 2 ∧ f3.offset = 3 ∧ f4.offset = 4 ∧ f5.offset = 5 := ⟨_, _, _, _, _, _, Try.underlying34, ⟨rfl, rfl, rfl, rfl, rfl, rfl⟩, rfl, rfl, rfl, rfl, rfl, rfl⟩
theorem cellsOp : Try.prog.cellsOf 34 = 6 := by kernel_rfl
theorem bytesOp : Try.prog.bytesOf 34 = 96 := by kernel_rfl
theorem cells4 : Try.prog.cellsOf 4 = 1 := by kernel_rfl
theorem cellsB : Try.prog.cellsOf 25 = 1 := by kernel_rfl
theorem cellsF : Try.prog.cellsOf 31 = 1 := by kernel_rfl
theorem cellsK : Try.prog.cellsOf 32 = 1 := by kernel_rfl
/-- Six cells that read as an Op. -/
theorem open_op {H : Type} {enc : TypeId × Value → H} {w : World} {base fuel : Nat} {held : Bool} {cs : List Value} {x : DataW H × List MemPlace} (h : DataW.trod enc Try.prog w base (fun _ => true) held fuel 34 cs = some x) (hw : ∀ n ∈ x.1.weights Try.prog 34, n ≤ reachBytes) :
    ∃ y : Ov, cs = [.int .i64 y.K, .int .i64 y.I, .bool y.sc, .slice y.Da y.Dn y.Dc, .slice y.Fa y.Fn y.Fc, .slice y.Ka y.Kn y.Kc] ∧ y.Ok w := by
  obtain ⟨f0, f1, f2, f3, f4, f5, hu, ⟨t0, t1, t2, t3, t4, t5⟩, o0, o1, o2, o3, o4, o5⟩ := underOp
  obtain ⟨xs, n, _, rfl, hl, hlen, hf⟩ := DataW.trod_struct hu h
  rw [cellsOp] at hl
  match xs, hlen with
  | [y0, y1, y2, y3, y4, y5], _ =>
    have h0 := hf 0 f0 rfl
    have h1 := hf 1 f1 rfl
    have h2 := hf 2 f2 rfl
    have h3 := hf 3 f3 rfl
    have h4 := hf 4 f4 rfl
    have h5 := hf 5 f5 rfl
    rw [t0, o0, cells3] at h0
    rw [t1, o1, cells3] at h1
    rw [t2, o2, cells4] at h2
    rw [t3, o3, cellsB] at h3
    rw [t4, o4, cellsF] at h4
    rw [t5, o5, cellsK] at h5
    obtain ⟨z0, e0, _⟩ := DataW.trod_int Try.underlying3 (h0.trans rfl)
    obtain ⟨z1, e1, _, b1⟩ := DataW.trod_int Try.underlying3 (h1.trans rfl)
    obtain ⟨z2, e2, _⟩ := DataW.trod_bool Try.underlying4 (h2.trans rfl)
    obtain ⟨a3, n3, c3, zs, e3, r3, l3, _⟩ := open_bytes (h3.trans rfl) (fun n hn => hw n (by
      simp only [DataW.weights, hu]
      simp [DataW.weightsEach, t0, t1, t2, t3, t4, t5, hn]))
    obtain ⟨a4, n4, c4, fs, e4, r4, l4⟩ := open_faults (h4.trans rfl) (fun n hn => hw n (by
      simp only [DataW.weights, hu]
      simp [DataW.weightsEach, t0, t1, t2, t3, t4, t5, hn]))
    obtain ⟨a5, n5, c5, ks, e5, r5, l5⟩ := open_bls (h5.trans rfl) (fun n hn => hw n (by
      simp only [DataW.weights, hu]
      simp [DataW.weightsEach, t0, t1, t2, t3, t4, t5, hn]))
    refine ⟨⟨z0, z1, z2, a3, n3, c3, zs.take n3, a4, n4, c4, fs, a5, n5, c5, ks⟩, ?_, ⟨r3.bs, Nat.le_trans l3 (by decide), r4, l4, r5, l5⟩, bounds_i64 b1⟩
    match cs, hl with
    | [x0, x1, x2, x3, x4, x5], _ =>
      simp at e0 e1 e2 e3 e4 e5
      rw [e0, e1, e2, e3, e4, e5]
instance : Inhabited Ov := ⟨⟨0, 0, false, none, 0, 0, [], none, 0, 0, [], none, 0, 0, []⟩⟩
/-- A list of Ops that came in. -/
theorem open_ops {H : Type} {enc : TypeId × Value → H} {w : World} {base fuel : Nat} {held : Bool} {cs : List Value} {x : DataW H × List MemPlace}
    (h : DataW.trod enc Try.prog w base (fun _ => true) held fuel 22 cs = some x) (hw : ∀ n ∈ x.1.weights Try.prog 22, n ≤ reachBytes) :
    ∃ a n c O, cs = [.slice a n c] ∧ IsOps w a n O ∧ n ≤ 140737488355328 := by
  rcases open_slice Try.underlying22 h with ⟨rfl, _⟩ | ⟨x, n, c, m, nn, D, Pl, rfl, _, hl, hm, hme, hx, hel⟩
  · exact ⟨none, 0, 0, fun _ => default, rfl, .inl rfl, by omega⟩
  · have hnm : n ≤ m := by rw [hme]; split <;> omega
    subst hx
    have hb := hw ((((List.range n).map D).length + ((List.range (m - n)).map fun j => D (n + j)).length) * Try.prog.bytesOf 34) (by simp only [DataW.weights, Try.underlying22]; exact List.mem_cons_self)
    rw [bytesOp] at hb
    simp only [List.length_map, List.length_range] at hb
    have hr : reachBytes = 140737488351232 := by decide
    have key : ∀ i, i < n → ∃ y : Ov, (w.cell? ((x.add (i * 6)).add 0) = some (.int .i64 y.K) ∧ w.cell? ((x.add (i * 6)).add 1) = some (.int .i64 y.I) ∧ w.cell? ((x.add (i * 6)).add 2) = some (.bool y.sc) ∧ w.cell? ((x.add (i * 6)).add 3) = some (.slice y.Da y.Dn y.Dc) ∧ w.cell? ((x.add (i * 6)).add 4) = some (.slice y.Fa y.Fn y.Fc) ∧ w.cell? ((x.add (i * 6)).add 5) = some (.slice y.Ka y.Kn y.Kc)) ∧ y.Ok w := by
      intro i hi
      obtain ⟨cs', h1, h2⟩ := hel i (by omega)
      rw [cellsOp] at h1
      obtain ⟨c0, c1, c2, c3, c4, c5, rfl, g0, g1, g2, g3, g4, g5⟩ := cells_six h1
      obtain ⟨y, e, ok⟩ := open_op h2 (fun k hk => hw k (by
        simp only [DataW.weights, Try.underlying22]
        refine List.mem_cons_of_mem _ (List.mem_append_left _ (mem_weightsAll hk ?_))
        exact List.mem_map.2 ⟨i, List.mem_range.2 hi, rfl⟩))
      simp at e
      obtain ⟨rfl, rfl, rfl, rfl, rfl, rfl⟩ := e
      exact ⟨y, ⟨g0, g1, g2, g3, g4, g5⟩, ok⟩
    obtain ⟨f, hf⟩ := choose_lt key
    refine ⟨some x, n, c, f, rfl, ?_, by omega⟩
    by_cases h0 : n = 0
    · exact .inl h0
    obtain ⟨b, off, spot⟩ := x
    have hspot : spot = none := by simpa [Addr.add] using World.cell?_spot (hf 0 (by omega)).1.1
    subst hspot
    refine .inr ⟨b, off, rfl, fun i hi => ⟨?_, (hf i hi).2⟩⟩
    have := (hf i hi).1
    simpa only [Addr.add_lit, Nat.add_zero] using this
end Go.Proofs.Ythjfgdldclhbhaa
