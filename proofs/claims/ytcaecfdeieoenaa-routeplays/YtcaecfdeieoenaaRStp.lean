import Derived.Test.YtcaecfdeieoenaaRRow
import Derived.Test.YtcaecfdeieoenaaRK
namespace Go.Proofs.Ytcaecfdeieoenaa
set_option maxRecDepth 100000
open Go.ChangeShapes Go.WideShapes Go.ChangeAt Go.RowKit Go.Deep
set_option linter.unusedVariables false

instance : Inhabited Sp8 := ⟨⟨0, 0, default, 0, 0, 0⟩⟩
theorem underSp : ∃ f0 f1 f2 f3 f4, Try.prog.underlying 34 = some (.struct #[f0, f1, f2, f3, f4]) ∧ (f0.type = 3 ∧ f1.type = 3 ∧ f2.type = 3 ∧ f3.type = 32 ∧ f4.type = 30) ∧ f0.offset = 0 ∧ f1.offset = 1 ∧ f2.offset = 2 ∧ f3.offset = 3 ∧ f4.offset = 7 := ⟨_, _, _, _, _, Try.underlying34, ⟨rfl, rfl, rfl, rfl, rfl⟩, rfl, rfl, rfl, rfl, rfl⟩
theorem cellsSp : Try.prog.cellsOf 34 = 10 := by kernel_rfl
def sc (s : Sp8) : List Value := [.int .i64 s.K, .int .i64 s.T, .int .i64 s.p.K, .int .i64 s.p.F, .int .u64 s.p.H, .int .u64 s.p.L, .int .i64 s.p.B, .int .i64 s.F, .int .u64 s.H, .int .u64 s.L]
/-- Ten cells that read as a step. -/
theorem open_ten {H : Type} {enc : TypeId × Value → H} {W : World} {b0 fuel : Nat} {spare : Nat → Bool} {held : Bool} {cs : List Value} {x : DataW H × List MemPlace} (h : DataW.trod enc Try.prog W b0 spare held fuel 34 cs = some x) :
    ∃ s : Sp8, s.In ∧ cs = sc s := by
  obtain ⟨f0, f1, f2, f3, f4, hu, ⟨t0, t1, t2, t3, t4⟩, o0, o1, o2, o3, o4⟩ := underSp
  obtain ⟨xs, n, _, _, hl, hlen, hf⟩ := DataW.trod_struct hu h
  match xs, hlen with
  | [y0, y1, y2, y3, y4], _ =>
    have h0 : DataW.trod enc Try.prog W b0 spare held n f0.type ((cs.drop f0.offset).take (Try.prog.cellsOf f0.type)) = some y0 := by simpa using hf 0 f0 rfl
    have h1 : DataW.trod enc Try.prog W b0 spare held n f1.type ((cs.drop f1.offset).take (Try.prog.cellsOf f1.type)) = some y1 := by simpa using hf 1 f1 rfl
    have h2 : DataW.trod enc Try.prog W b0 spare held n f2.type ((cs.drop f2.offset).take (Try.prog.cellsOf f2.type)) = some y2 := by simpa using hf 2 f2 rfl
    have h3 : DataW.trod enc Try.prog W b0 spare held n f3.type ((cs.drop f3.offset).take (Try.prog.cellsOf f3.type)) = some y3 := by simpa using hf 3 f3 rfl
    have h4 : DataW.trod enc Try.prog W b0 spare held n f4.type ((cs.drop f4.offset).take (Try.prog.cellsOf f4.type)) = some y4 := by simpa using hf 4 f4 rfl
    rw [t0, o0, cells3] at h0
    rw [t1, o1, cells3] at h1
    rw [t2, o2, cells3] at h2
    rw [t3, o3, cellsPx] at h3
    rw [t4, o4, cellsAd] at h4
    rw [cellsSp] at hl
    obtain ⟨K, e0, _, w0⟩ := DataW.trod_int Try.underlying3 h0
    obtain ⟨T, e1, _, w1⟩ := DataW.trod_int Try.underlying3 h1
    obtain ⟨k, e2, _, w2⟩ := DataW.trod_int Try.underlying3 h2
    obtain ⟨F, H', L, B, ⟨a1, a2, a3, a4⟩, e3⟩ := open_four h3
    obtain ⟨F', H'', L', c1, c2, c3, e4⟩ := open_three h4
    refine ⟨⟨K, T, ⟨F, H', L, B, k⟩, F', H'', L'⟩, ⟨⟨a1, a2, a3, a4, bounds_i64 w2⟩, c1, c2, c3⟩, ?_⟩
    match cs, hl with
    | [z0, z1, z2, z3, z4, z5, z6, z7, z8, z9], _ =>
      simp at e0 e1 e2 e3 e4
      show _ = [_, _, _, _, _, _, _, _, _, _]
      rw [e0, e1, e2, e3.1, e3.2.1, e3.2.2.1, e3.2.2.2, e4.1, e4.2.1, e4.2.2]
theorem cells_ten {w : World} {base : Nat} {x : Addr} {cs : List Value} (h : w.cells? base x 10 = some cs) : ∃ c0 c1 c2 c3 c4 c5 c6 c7 c8 c9, cs = [c0, c1, c2, c3, c4, c5, c6, c7, c8, c9] ∧ w.cell? (x.add 0) = some c0 ∧ w.cell? (x.add 1) = some c1 ∧ w.cell? (x.add 2) = some c2 ∧ w.cell? (x.add 3) = some c3 ∧ w.cell? (x.add 4) = some c4 ∧ w.cell? (x.add 5) = some c5 ∧ w.cell? (x.add 6) = some c6 ∧ w.cell? (x.add 7) = some c7 ∧ w.cell? (x.add 8) = some c8 ∧ w.cell? (x.add 9) = some c9 := by
  unfold World.cells? at h
  split at h
  · simp only [List.range, List.range.loop, List.mapM_cons, List.mapM_nil, Option.bind_eq_bind, Option.pure_def, Option.bind_eq_some_iff] at h
    obtain ⟨c0, h0, y0, ⟨c1, h1, y1, ⟨c2, h2, y2, ⟨c3, h3, y3, ⟨c4, h4, y4, ⟨c5, h5, y5, ⟨c6, h6, y6, ⟨c7, h7, y7, ⟨c8, h8, y8, ⟨c9, h9, u, e10, e9⟩, e8⟩, e7⟩, e6⟩, e5⟩, e4⟩, e3⟩, e2⟩, e1⟩, e0⟩ := h
    simp at e0 e1 e2 e3 e4 e5 e6 e7 e8 e9 e10
    subst e10 e9 e8 e7 e6 e5 e4 e3 e2 e1 e0
    exact ⟨c0, c1, c2, c3, c4, c5, c6, c7, c8, c9, rfl, h0, h1, h2, h3, h4, h5, h6, h7, h8, h9⟩
  · cases h
theorem open_steps {H : Type} {enc : TypeId × Value → H} {w : World} {base : Nat} {spare : Nat → Bool} {held : Bool} {fuel n c : Nat} {a : Option Addr} {x : DataW H × List MemPlace}
    (h : DataW.trod enc Try.prog w base spare held fuel 22 [.slice a n c] = some x) : (n ≤ c ∧ c ≤ maxLen) ∧ ∃ f : Nat → Sp8, IsS w a n f := by
  rcases open_slice Try.underlying22 h with ⟨hcs, _⟩ | ⟨x, len, cap, m, nn, D, Pl, hcs, _, hl, hm, hme, _, hel⟩
  · simp at hcs
    obtain ⟨rfl, rfl, rfl⟩ := hcs
    exact ⟨⟨Nat.le_refl _, by unfold maxLen; omega⟩, fun _ => default, .inl rfl⟩
  · simp at hcs
    obtain ⟨rfl, rfl, rfl⟩ := hcs
    refine ⟨⟨hl, hm⟩, ?_⟩
    by_cases h0 : n = 0
    · exact ⟨fun _ => default, .inl h0⟩
    have hnm : n ≤ m := by rw [hme]; split <;> omega
    have key : ∀ i, i < n → ∃ y : Sp8, (w.cell? ((x.add (i * 10)).add 0) = some (.int .i64 y.K) ∧ w.cell? ((x.add (i * 10)).add 1) = some (.int .i64 y.T) ∧ w.cell? ((x.add (i * 10)).add 2) = some (.int .i64 y.p.K) ∧ w.cell? ((x.add (i * 10)).add 3) = some (.int .i64 y.p.F) ∧ w.cell? ((x.add (i * 10)).add 4) = some (.int .u64 y.p.H) ∧ w.cell? ((x.add (i * 10)).add 5) = some (.int .u64 y.p.L) ∧ w.cell? ((x.add (i * 10)).add 6) = some (.int .i64 y.p.B) ∧ w.cell? ((x.add (i * 10)).add 7) = some (.int .i64 y.F) ∧ w.cell? ((x.add (i * 10)).add 8) = some (.int .u64 y.H) ∧ w.cell? ((x.add (i * 10)).add 9) = some (.int .u64 y.L)) ∧ y.In := by
      intro i hi
      obtain ⟨cs', h1, h2⟩ := hel i (by omega)
      rw [cellsSp] at h1
      obtain ⟨c0, c1, c2, c3, c4, c5, c6, c7, c8, c9, rfl, g0, g1, g2, g3, g4, g5, g6, g7, g8, g9⟩ := cells_ten h1
      obtain ⟨y, hy, e⟩ := open_ten h2
      simp [sc] at e
      obtain ⟨rfl, rfl, rfl, rfl, rfl, rfl, rfl, rfl, rfl, rfl⟩ := e
      exact ⟨y, ⟨g0, g1, g2, g3, g4, g5, g6, g7, g8, g9⟩, hy⟩
    obtain ⟨f, hf⟩ := choose_lt key
    obtain ⟨b, off, spot⟩ := x
    have hspot : spot = none := by simpa [Addr.add] using World.cell?_spot (hf 0 (by omega)).1.1
    subst hspot
    refine ⟨f, .inr ⟨b, off, rfl, fun i hi => ?_⟩⟩
    have := hf i hi
    simpa only [add_add, Addr.add_lit, Nat.add_zero, Nat.add_assoc] using this
end Go.Proofs.Ytcaecfdeieoenaa
