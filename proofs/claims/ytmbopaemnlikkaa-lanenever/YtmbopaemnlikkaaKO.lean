import Derived.Test.YtmbopaemnlikkaaKL
import Derived.Test.YtmbopaemnlikkaaLO0
namespace Go.Proofs.Ytmbopaemnlikkaa
set_option maxRecDepth 100000
open Go.ChangeShapes Go.WideShapes Go.ChangeAt Go.RowKit Go.Deep
set_option linter.unusedVariables false

/-! A list of ops that came in. -/
instance : Inhabited Oz := ⟨oz0⟩
theorem cells_seven {w : World} {base : Nat} {x : Addr} {cs : List Value} (h : w.cells? base x 7 = some cs) : ∃ c0 c1 c2 c3 c4 c5 c6, cs = [c0, c1, c2, c3, c4, c5, c6] ∧ w.cell? (x.add 0) = some c0 ∧ w.cell? (x.add 1) = some c1 ∧ w.cell? (x.add 2) = some c2 ∧ w.cell? (x.add 3) = some c3 ∧ w.cell? (x.add 4) = some c4 ∧ w.cell? (x.add 5) = some c5 ∧ w.cell? (x.add 6) = some c6 := by
  unfold World.cells? at h
  split at h
  · simp only [List.range, List.range.loop, List.mapM_cons, List.mapM_nil, Option.bind_eq_bind, Option.pure_def, Option.bind_eq_some_iff] at h
    obtain ⟨c0, h0, y, ⟨c1, h1, y1, ⟨c2, h2, y2, ⟨c3, h3, y3, ⟨c4, h4, y4, ⟨c5, h5, y5, ⟨c6, h6, u, e8, e7⟩, e6⟩, e5⟩, e4⟩, e3⟩, e2⟩, e1⟩ := h
    simp at e1 e2 e3 e4 e5 e6 e7 e8
    subst e8 e7 e6 e5 e4 e3 e2 e1
    exact ⟨c0, c1, c2, c3, c4, c5, c6, rfl, h0, h1, h2, h3, h4, h5, h6⟩
  · cases h
theorem underOp : ∃ f0 f1, Try.prog.underlying 36 = some (.struct #[f0, f1]) ∧ (f0.type = 3 ∧ f1.type = 34) ∧ f0.offset = 0 ∧ f1.offset = 1 := ⟨_, _, Try.underlying36, ⟨rfl, rfl⟩, rfl, rfl⟩
theorem cellsOp : Try.prog.cellsOf 36 = 7 := by kernel_rfl
theorem open_opc {H : Type} {enc : TypeId × Value → H} {W : World} {b0 fuel : Nat} {spare : Nat → Bool} {held : Bool} {cs : List Value} {x : DataW H × List MemPlace} (h : DataW.trod enc Try.prog W b0 spare held fuel 36 cs = some x) :
    ∃ o : Oz, cs = [.int .i64 o.kd, .int .i64 o.G, .int .i64 o.B, .int .u64 o.X, .int .u64 o.Y, .int .i64 o.T, .int .i64 o.U] ∧ o.Ok := by
  obtain ⟨f0, f1, hu, ⟨t0, t1⟩, o0, o1⟩ := underOp
  obtain ⟨xs, n, _, rfl, hl, hlen, hf⟩ := DataW.trod_struct hu h
  rw [cellsOp] at hl
  match xs, hlen with
  | [y0, y1], _ =>
    have h0 := hf 0 f0 rfl
    have h1 := hf 1 f1 rfl
    rw [t0, o0, cells3] at h0
    rw [t1, o1, cellsNm] at h1
    obtain ⟨kd, e0, _, w0⟩ := DataW.trod_int Try.underlying3 (h0.trans rfl)
    obtain ⟨G, B, X, Y, T, U, e1, w1⟩ := open_nmc (h1.trans rfl)
    refine ⟨⟨kd, G, B, X, Y, T, U⟩, ?_, ⟨bounds_i64 w0, w1.1, w1.2.1, w1.2.2.1, w1.2.2.2.1, w1.2.2.2.2.1, w1.2.2.2.2.2⟩⟩
    match cs, hl with
    | [x0, x1, x2, x3, x4, x5, x6], _ =>
      simp at e0 e1
      rw [e0, e1.1, e1.2.1, e1.2.2.1, e1.2.2.2.1, e1.2.2.2.2.1, e1.2.2.2.2.2]
theorem open_ops {H : Type} {enc : TypeId × Value → H} {w : World} {base fuel : Nat} {held : Bool} {cs : List Value} {x : DataW H × List MemPlace}
    (h : DataW.trod enc Try.prog w base (fun _ => true) held fuel 23 cs = some x) :
    ∃ a n c l, cs = [.slice a n c] ∧ Opl w a n l := by
  rcases open_slice Try.underlying23 h with ⟨rfl, _⟩ | ⟨x, n, c, m, nn, D, Pl, rfl, _, hl, hm, hme, hx, hel⟩
  · exact ⟨none, 0, 0, [], rfl, ⟨rfl, .inl rfl⟩⟩
  · have hnm : n ≤ m := by rw [hme]; split <;> omega
    have key : ∀ i, i < n → ∃ o : Oz, (w.cell? ((x.add (i * 7)).add 0) = some (.int .i64 o.kd) ∧ w.cell? ((x.add (i * 7)).add 1) = some (.int .i64 o.G) ∧ w.cell? ((x.add (i * 7)).add 2) = some (.int .i64 o.B) ∧ w.cell? ((x.add (i * 7)).add 3) = some (.int .u64 o.X) ∧ w.cell? ((x.add (i * 7)).add 4) = some (.int .u64 o.Y) ∧ w.cell? ((x.add (i * 7)).add 5) = some (.int .i64 o.T) ∧ w.cell? ((x.add (i * 7)).add 6) = some (.int .i64 o.U)) ∧ o.Ok := by
      intro i hi
      obtain ⟨cs', h1, h2⟩ := hel i (by omega)
      rw [cellsOp] at h1
      obtain ⟨c0, c1, c2, c3, c4, c5, c6, rfl, g0, g1, g2, g3, g4, g5, g6⟩ := cells_seven h1
      obtain ⟨o, e, ok⟩ := open_opc h2
      simp at e
      obtain ⟨rfl, rfl, rfl, rfl, rfl, rfl, rfl⟩ := e
      exact ⟨o, ⟨g0, g1, g2, g3, g4, g5, g6⟩, ok⟩
    obtain ⟨f, hf⟩ := choose_lt key
    refine ⟨some x, n, c, (List.range n).map f, rfl, ⟨by simp, ?_⟩⟩
    by_cases h0 : n = 0
    · exact .inl h0
    obtain ⟨b, off, spot⟩ := x
    have hspot : spot = none := by
      obtain ⟨⟨q, _⟩, _⟩ := hf 0 (by omega)
      simpa [Addr.add] using World.cell?_spot q
    subst hspot
    refine .inr ⟨b, off, rfl, fun i hi => ?_⟩
    obtain ⟨⟨q0, q1, q2, q3, q4, q5, q6⟩, r⟩ := hf i hi
    have hg : ((List.range n).map f).getD i oz0 = f i := by simp [List.getD, hi]
    rw [hg]
    simp only [Addr.add_lit, Nat.add_zero] at q0 q1 q2 q3 q4 q5 q6
    exact ⟨⟨q0, q1, q2, q3, q4, q5, q6⟩, r⟩
end Go.Proofs.Ytmbopaemnlikkaa
