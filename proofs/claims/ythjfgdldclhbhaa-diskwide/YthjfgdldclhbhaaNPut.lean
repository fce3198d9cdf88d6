import Derived.Test.YthjfgdldclhbhaaMH
import Derived.Test.YthjfgdldclhbhaaNOps
namespace Go.Proofs.Ythjfgdldclhbhaa
set_option maxRecDepth 100000
open Go.ChangeShapes Go.WideShapes Go.ChangeAt Go.RowKit Go.Deep
set_option linter.unusedVariables false

theorem underPu : ∃ f0 f1, Try.prog.underlying 76 = some (.struct #[f0, f1]) ∧ f0.type = 3 ∧ f1.type = 25 ∧ f0.offset = 0 ∧ f1.offset = 1 := ⟨_, _, Try.underlying76, rfl, rfl, rfl, rfl⟩
theorem cellsPu : Try.prog.cellsOf 76 = 2 := by kernel_rfl
theorem bytesPu : Try.prog.bytesOf 76 = 32 := by kernel_rfl
/-- Two cells that read as a Put. -/
theorem open_put {H : Type} {enc : TypeId × Value → H} {w : World} {base fuel : Nat} {held : Bool} {cs : List Value} {x : DataW H × List MemPlace} (h : DataW.trod enc Try.prog w base (fun _ => true) held fuel 76 cs = some x) (hw : ∀ n ∈ x.1.weights Try.prog 76, n ≤ reachBytes) :
    ∃ y : Pv, cs = [.int .i64 y.I, .slice y.A y.N y.C] ∧ y.Ok w := by
  obtain ⟨f0, f1, hu, t0, t1, o0, o1⟩ := underPu
  obtain ⟨y0, y1, q, rfl, hl, h0, h1⟩ := trod_struct2 hu h
  rw [cellsPu] at hl
  rw [t0, o0, cells3] at h0
  rw [t1, o1, cellsB] at h1
  obtain ⟨z0, e0, _, b0⟩ := DataW.trod_int Try.underlying3 h0
  obtain ⟨a3, n3, c3, zs, e1, r3, l3, _⟩ := open_bytes h1 (fun n hn => hw n (by
    simp only [DataW.weights, hu]
    simp [DataW.weightsEach, t0, t1, hn]))
  refine ⟨⟨z0, a3, n3, c3, zs.take n3⟩, ?_, ⟨r3.bs, Nat.le_trans l3 (by decide), bounds_i64 b0⟩⟩
  match cs, hl with
  | [x0, x1], _ =>
    simp at e0 e1
    rw [e0, e1]
instance : Inhabited Pv := ⟨⟨0, none, 0, 0, []⟩⟩
/-- A list of Puts that came in. -/
theorem open_puts {H : Type} {enc : TypeId × Value → H} {w : World} {base fuel : Nat} {held : Bool} {cs : List Value} {x : DataW H × List MemPlace}
    (h : DataW.trod enc Try.prog w base (fun _ => true) held fuel 52 cs = some x) (hw : ∀ n ∈ x.1.weights Try.prog 52, n ≤ reachBytes) :
    ∃ a n c O, cs = [.slice a n c] ∧ IsPuts w a n O ∧ n ≤ 140737488355328 := by
  rcases open_slice Try.underlying52 h with ⟨rfl, _⟩ | ⟨x, n, c, m, nn, D, Pl, rfl, _, hl, hm, hme, hx, hel⟩
  · exact ⟨none, 0, 0, fun _ => default, rfl, .inl rfl, by omega⟩
  · have hnm : n ≤ m := by rw [hme]; split <;> omega
    subst hx
    have hb := hw ((((List.range n).map D).length + ((List.range (m - n)).map fun j => D (n + j)).length) * Try.prog.bytesOf 76) (by simp only [DataW.weights, Try.underlying52]; exact List.mem_cons_self)
    rw [bytesPu] at hb
    simp only [List.length_map, List.length_range] at hb
    have hr : reachBytes = 140737488351232 := by decide
    have key : ∀ i, i < n → ∃ y : Pv, (w.cell? ((x.add (i * 2)).add 0) = some (.int .i64 y.I) ∧ w.cell? ((x.add (i * 2)).add 1) = some (.slice y.A y.N y.C)) ∧ y.Ok w := by
      intro i hi
      obtain ⟨cs', h1, h2⟩ := hel i (by omega)
      rw [cellsPu] at h1
      obtain ⟨c0, c1, rfl, g0, g1⟩ := cells_two h1
      obtain ⟨y, e, ok⟩ := open_put h2 (fun k hk => hw k (by
        simp only [DataW.weights, Try.underlying52]
        refine List.mem_cons_of_mem _ (List.mem_append_left _ (mem_weightsAll hk ?_))
        exact List.mem_map.2 ⟨i, List.mem_range.2 hi, rfl⟩))
      simp at e
      obtain ⟨rfl, rfl⟩ := e
      exact ⟨y, ⟨g0, g1⟩, ok⟩
    obtain ⟨f, hf⟩ := choose_lt key
    refine ⟨some x, n, c, f, rfl, ?_, by omega⟩
    by_cases h0 : n = 0
    · exact .inl h0
    obtain ⟨b, off, spot⟩ := x
    have hspot : spot = none := by simpa [Addr.add] using World.cell?_spot (hf 0 (by omega)).1.1
    subst hspot
    refine .inr ⟨b, off, rfl, fun i hi => ⟨?_, (hf i hi).2⟩⟩
    have := (hf i hi).1
    simpa only [Addr.add_lit, Nat.add_zero] using this
end Go.Proofs.Ythjfgdldclhbhaa
