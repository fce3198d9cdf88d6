import Derived.Test.YtcaecfdeieoenaaPRow
import Derived.Test.YtcaecfdeieoenaaR8
namespace Go.Proofs.Ytcaecfdeieoenaa
set_option maxRecDepth 100000
open Go.ChangeShapes Go.WideShapes Go.ChangeAt Go.RowKit Go.Deep
set_option linter.unusedVariables false

instance : Inhabited Wy := ⟨⟨0, 0, 0, 0, 0⟩⟩
theorem underWy : ∃ f0 f1, Try.prog.underlying 54 = some (.struct #[f0, f1]) ∧ f0.type = 32 ∧ f1.type = 3 ∧ f0.offset = 0 ∧ f1.offset = 4 := ⟨_, _, Try.underlying54, rfl, rfl, rfl, rfl⟩
theorem cellsWy : Try.prog.cellsOf 54 = 5 := by kernel_rfl
/-- Five cells that read as a way. -/
theorem open_five {H : Type} {enc : TypeId × Value → H} {W : World} {b0 fuel : Nat} {spare : Nat → Bool} {held : Bool} {cs : List Value} {x : DataW H × List MemPlace} (h : DataW.trod enc Try.prog W b0 spare held fuel 54 cs = some x) :
    ∃ y : Wy, y.In ∧ cs = wc y := by
  obtain ⟨f0, f1, hu, t0, t1, o0, o1⟩ := underWy
  obtain ⟨y0, y1, q, _, hl, h0, h1⟩ := trod_struct2 hu h
  rw [t0, o0, cellsPx] at h0
  rw [t1, o1, cells3] at h1
  rw [cellsWy] at hl
  obtain ⟨F, H', L, B, ⟨a1, a2, a3, a4⟩, e0⟩ := open_four h0
  obtain ⟨K, e1, _, w1⟩ := DataW.trod_int Try.underlying3 h1
  refine ⟨⟨F, H', L, B, K⟩, ⟨a1, a2, a3, a4, bounds_i64 w1⟩, ?_⟩
  match cs, hl with
  | [a, b, c, d, e], _ =>
    simp at e0 e1
    show _ = [_, _, _, _, _]
    rw [e0.1, e0.2.1, e0.2.2.1, e0.2.2.2, e1]
theorem cells_five {w : World} {base : Nat} {x : Addr} {cs : List Value} (h : w.cells? base x 5 = some cs) : ∃ c0 c1 c2 c3 c4, cs = [c0, c1, c2, c3, c4] ∧ w.cell? (x.add 0) = some c0 ∧ w.cell? (x.add 1) = some c1 ∧ w.cell? (x.add 2) = some c2 ∧ w.cell? (x.add 3) = some c3 ∧ w.cell? (x.add 4) = some c4 := by
  unfold World.cells? at h
  split at h
  · simp only [List.range, List.range.loop, List.mapM_cons, List.mapM_nil, Option.bind_eq_bind, Option.pure_def, Option.bind_eq_some_iff] at h
    obtain ⟨c0, h0, y, ⟨c1, h1, y1, ⟨c2, h2, y2, ⟨c3, h3, y3, ⟨c4, h4, u, e5, e4⟩, e3⟩, e2⟩, e1⟩, e0⟩ := h
    simp at e0 e1 e2 e3 e4 e5
    subst e5 e4 e3 e2 e1 e0
    exact ⟨c0, c1, c2, c3, c4, rfl, h0, h1, h2, h3, h4⟩
  · cases h
theorem open_ways {H : Type} {enc : TypeId × Value → H} {w : World} {base : Nat} {spare : Nat → Bool} {held : Bool} {fuel n c : Nat} {a : Option Addr} {x : DataW H × List MemPlace}
    (h : DataW.trod enc Try.prog w base spare held fuel 43 [.slice a n c] = some x) : (n ≤ c ∧ c ≤ maxLen) ∧ ∃ m : List Wy, m.length = n ∧ Ws w a m := by
  rcases open_slice Try.underlying43 h with ⟨hcs, _⟩ | ⟨x, len, cap, m, nn, D, Pl, hcs, _, hl, hm, hme, _, hel⟩
  · simp at hcs
    obtain ⟨rfl, rfl, rfl⟩ := hcs
    exact ⟨⟨Nat.le_refl _, by unfold maxLen; omega⟩, [], rfl, fun x hx => (by cases hx), .inl rfl⟩
  · simp at hcs
    obtain ⟨rfl, rfl, rfl⟩ := hcs
    refine ⟨⟨hl, hm⟩, ?_⟩
    have hnm : n ≤ m := by rw [hme]; split <;> omega
    have key : ∀ i, i < n → ∃ y : Wy, (w.cell? ((x.add (i * 5)).add 0) = some (.int .i64 y.F) ∧ w.cell? ((x.add (i * 5)).add 1) = some (.int .u64 y.H) ∧ w.cell? ((x.add (i * 5)).add 2) = some (.int .u64 y.L) ∧ w.cell? ((x.add (i * 5)).add 3) = some (.int .i64 y.B) ∧ w.cell? ((x.add (i * 5)).add 4) = some (.int .i64 y.K)) ∧ y.In := by
      intro i hi
      obtain ⟨cs', h1, h2⟩ := hel i (by omega)
      rw [cellsWy] at h1
      obtain ⟨c0, c1, c2, c3, c4, rfl, g0, g1, g2, g3, g4⟩ := cells_five h1
      obtain ⟨y, hy, e⟩ := open_five h2
      simp [wc] at e
      obtain ⟨rfl, rfl, rfl, rfl, rfl⟩ := e
      exact ⟨y, ⟨g0, g1, g2, g3, g4⟩, hy⟩
    obtain ⟨f, hf⟩ := choose_lt key
    refine ⟨(List.range n).map f, by simp, fun y hy => ?_, ?_⟩
    · obtain ⟨i, hi, rfl⟩ := List.mem_map.1 hy
      exact (hf i (List.mem_range.1 hi)).2
    · by_cases h0 : n = 0
      · subst h0
        exact .inl rfl
      obtain ⟨b, off, spot⟩ := x
      have hspot : spot = none := by simpa [Addr.add] using World.cell?_spot (hf 0 (by omega)).1.1
      subst hspot
      refine .inr ⟨b, off, rfl, fun i y hy => ?_⟩
      obtain ⟨hi, e⟩ := List.getElem?_eq_some_iff.1 hy
      simp at hi e
      subst e
      have := (hf i hi).1
      simpa only [add_add, Addr.add_lit, Nat.add_zero, Nat.add_assoc] using this
end Go.Proofs.Ytcaecfdeieoenaa
