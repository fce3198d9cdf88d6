import Derived.Test.YthflghjmpellpaaLPa
import Derived.Test.YthflghjmpellpaaNRow
import Derived.Deep.Grids
namespace Go.Proofs.Ythflghjmpellpaa
set_option maxRecDepth 100000
open Go.ChangeShapes Go.WideShapes Go.ChangeAt Go.RowKit Go.Deep
set_option linter.unusedVariables false

/-! What came in. -/
theorem i64_b {x : Int} (h : -9223372036854775808 ≤ x ∧ x ≤ 9223372036854775807) : i64r x := ⟨h.1, by omega⟩
theorem vs_arg {w : World} {a : Option Addr} {len cap : Nat} {zs : List Int} (h : IsRow .u8 w a len cap zs) : Vs w (fun x => x < w.heap.size) a len cap (zs.take len) :=
  ⟨h.bs, h.fits.1, h.fits.2.1, h.fits.2.2.1, fun ad e hn => (Bs.at_block h.bs e hn).1⟩
theorem open_by {H : Type} {enc : TypeId × Value → H} {W : World} {b0 fuel : Nat} {held : Bool} {cs : List Value} {x : DataW H × List MemPlace} (h : DataW.trod enc Try.prog W b0 (fun _ => true) held fuel 28 cs = some x) :
    ∃ a n c zs, cs = [.slice a n c] ∧ Vs W (fun x => x < W.heap.size) a n c zs := by
  rcases open_ints Try.underlying28 Try.underlying5 (by kernel_rfl) h with ⟨rfl, _⟩ | ⟨y, l, c, zs, rfl, _, hl, hm, hz, hdat, hcell, hwz⟩
  · exact ⟨none, 0, 0, [], rfl, vs_none _ _⟩
  · exact ⟨some y, l, c, zs.take l, rfl, vs_arg (.inr ⟨_, rfl, hl, hm, by simpa using hz, hcell, hwz⟩)⟩
structure Ics (w : World) (a : Option Addr) (n : Nat) (l : List Int) : Prop where
  len : l.length = n
  ok : ∀ i, i < n → i64r (l.getD i 0)
  at' : n = 0 ∨ ∃ b off, a = some ⟨b, off, none⟩ ∧ ∀ i, i < n → w.cell? ⟨b, off + i, none⟩ = some (.int .i64 (l.getD i 0))
theorem cells_seven {w : World} {base : Nat} {x : Addr} {cs : List Value} (h : w.cells? base x 7 = some cs) : ∃ c0 c1 c2 c3 c4 c5 c6, cs = [c0, c1, c2, c3, c4, c5, c6] ∧ w.cell? (x.add 0) = some c0 ∧ w.cell? (x.add 1) = some c1 ∧ w.cell? (x.add 2) = some c2 ∧ w.cell? (x.add 3) = some c3 ∧ w.cell? (x.add 4) = some c4 ∧ w.cell? (x.add 5) = some c5 ∧ w.cell? (x.add 6) = some c6 := by
  unfold World.cells? at h
  split at h
  · simp only [List.range, List.range.loop, List.mapM_cons, List.mapM_nil, Option.bind_eq_bind, Option.pure_def, Option.bind_eq_some_iff] at h
    obtain ⟨c0, h0, y, ⟨c1, h1, y1, ⟨c2, h2, y2, ⟨c3, h3, y3, ⟨c4, h4, y4, ⟨c5, h5, y5, ⟨c6, h6, u, e7, e6⟩, e5⟩, e4⟩, e3⟩, e2⟩, e1⟩, e0⟩ := h
    simp at e0 e1 e2 e3 e4 e5 e6 e7
    subst e7 e6 e5 e4 e3 e2 e1 e0
    exact ⟨c0, c1, c2, c3, c4, c5, c6, rfl, h0, h1, h2, h3, h4, h5, h6⟩
  · cases h
theorem underOp : ∃ f0 f1 f2 f3 f4 f5 f6, Try.prog.underlying 30 = some (.struct #[f0, f1, f2, f3, f4, f5, f6]) ∧ (f0.type = 3 ∧ f1.type = 4 ∧ f2.type = 3 ∧ f3.type = 3 ∧ f4.type = 3 ∧ f5.type = 3 ∧ f6.type = 28) ∧ f0.offset = 0 ∧ f1.offset = 1 ∧ f2.offset = 2 ∧ f3.offset = 3 ∧ f4.offset = 4 ∧ f5.offset = 5 ∧ f6.offset = 6 := ⟨_, _, _, _, _, _, _, Try.underlying30, ⟨rfl, rfl, rfl, rfl, rfl, rfl, rfl⟩, rfl, rfl, rfl, rfl, rfl, rfl, rfl⟩
theorem cellsOp : Try.prog.cellsOf 30 = 7 := by kernel_rfl
theorem cells3 : Try.prog.cellsOf 3 = 1 := by kernel_rfl
theorem cells4 : Try.prog.cellsOf 4 = 1 := by kernel_rfl
theorem cellsB : Try.prog.cellsOf 28 = 1 := by kernel_rfl
theorem open_opc {H : Type} {enc : TypeId × Value → H} {W : World} {b0 fuel : Nat} {held : Bool} {cs : List Value} {x : DataW H × List MemPlace} (h : DataW.trod enc Try.prog W b0 (fun _ => true) held fuel 30 cs = some x) :
    ∃ o : Wop, cs = [.int .i64 o.kd, .bool o.sc, .int .i64 o.t, .int .i64 o.no, .int .i64 o.x, .int .i64 o.at', .slice o.a o.n o.c] ∧ o.ok ∧ Vs W (fun k => k < W.heap.size) o.a o.n o.c o.d := by
  obtain ⟨f0, f1, f2, f3, f4, f5, f6, hu, ⟨t0, t1, t2, t3, t4, t5, t6⟩, o0, o1, o2, o3, o4, o5, o6⟩ := underOp
  obtain ⟨xs, n, _, rfl, hl, hlen, hf⟩ := DataW.trod_struct hu h
  rw [cellsOp] at hl
  match xs, hlen with
  | [y0, y1, y2, y3, y4, y5, y6], _ =>
    have h0 := hf 0 f0 rfl
    have h1 := hf 1 f1 rfl
    have h2 := hf 2 f2 rfl
    have h3 := hf 3 f3 rfl
    have h4 := hf 4 f4 rfl
    have h5 := hf 5 f5 rfl
    have h6 := hf 6 f6 rfl
    rw [t0, o0, cells3] at h0
    rw [t1, o1, cells4] at h1
    rw [t2, o2, cells3] at h2
    rw [t3, o3, cells3] at h3
    rw [t4, o4, cells3] at h4
    rw [t5, o5, cells3] at h5
    rw [t6, o6, cellsB] at h6
    obtain ⟨z0, e0, _, w0⟩ := DataW.trod_int Try.underlying3 (h0.trans rfl)
    obtain ⟨z1, e1, _⟩ := DataW.trod_bool Try.underlying4 (h1.trans rfl)
    obtain ⟨z2, e2, _, w2⟩ := DataW.trod_int Try.underlying3 (h2.trans rfl)
    obtain ⟨z3, e3, _, w3⟩ := DataW.trod_int Try.underlying3 (h3.trans rfl)
    obtain ⟨z4, e4, _, w4⟩ := DataW.trod_int Try.underlying3 (h4.trans rfl)
    obtain ⟨z5, e5, _, w5⟩ := DataW.trod_int Try.underlying3 (h5.trans rfl)
    obtain ⟨a6, n6, c6, d6, e6, v6⟩ := open_by (h6.trans rfl)
    refine ⟨⟨z0, z1, z2, z3, z4, z5, a6, n6, c6, d6⟩, ?_, ⟨i64_b (bounds_i64 w0), i64_b (bounds_i64 w2), i64_b (bounds_i64 w3), i64_b (bounds_i64 w4), i64_b (bounds_i64 w5)⟩, v6⟩
    match cs, hl with
    | [x0, x1, x2, x3, x4, x5, x6], _ =>
      simp at e0 e1 e2 e3 e4 e5 e6
      rw [e0, e1, e2, e3, e4, e5, e6]
theorem open_ops {H : Type} {enc : TypeId × Value → H} {w : World} {base fuel : Nat} {held : Bool} {cs : List Value} {x : DataW H × List MemPlace}
    (h : DataW.trod enc Try.prog w base (fun _ => true) held fuel 22 cs = some x) :
    ∃ a n c l, cs = [.slice a n c] ∧ Opl w a n l := by
  rcases open_slice Try.underlying22 h with ⟨rfl, _⟩ | ⟨x, n, c, m, nn, D, Pl, rfl, _, hl, hm, hme, hx, hel⟩
  · exact ⟨none, 0, 0, [], rfl, ⟨rfl, .inl rfl⟩⟩
  · have hnm : n ≤ m := by rw [hme]; split <;> omega
    have key : ∀ i, i < n → ∃ o : Wop, (w.cell? ((x.add (i * 7)).add 0) = some (.int .i64 o.kd) ∧ w.cell? ((x.add (i * 7)).add 1) = some (.bool o.sc) ∧ w.cell? ((x.add (i * 7)).add 2) = some (.int .i64 o.t) ∧ w.cell? ((x.add (i * 7)).add 3) = some (.int .i64 o.no) ∧ w.cell? ((x.add (i * 7)).add 4) = some (.int .i64 o.x) ∧ w.cell? ((x.add (i * 7)).add 5) = some (.int .i64 o.at') ∧ w.cell? ((x.add (i * 7)).add 6) = some (.slice o.a o.n o.c)) ∧ o.ok ∧ Vs w (fun k => k < w.heap.size) o.a o.n o.c o.d := by
      intro i hi
      obtain ⟨cs', h1, h2⟩ := hel i (by omega)
      rw [cellsOp] at h1
      obtain ⟨c0, c1, c2, c3, c4, c5, c6, rfl, g0, g1, g2, g3, g4, g5, g6⟩ := cells_seven h1
      obtain ⟨o, e, ok⟩ := open_opc h2
      simp at e
      obtain ⟨rfl, rfl, rfl, rfl, rfl, rfl, rfl⟩ := e
      exact ⟨o, ⟨g0, g1, g2, g3, g4, g5, g6⟩, ok⟩
    obtain ⟨f, hf⟩ := choose_lt key
    refine ⟨some x, n, c, (List.range n).map f, rfl, ⟨by simp, ?_⟩⟩
    by_cases h0 : n = 0
    · exact .inl h0
    obtain ⟨b, off, spot⟩ := x
    have hspot : spot = none := by
      obtain ⟨⟨q, _⟩, _⟩ := hf 0 (by omega)
      simpa [Addr.add] using World.cell?_spot q
    subst hspot
    refine .inr ⟨b, off, rfl, fun i hi => ?_⟩
    obtain ⟨⟨q0, q1, q2, q3, q4, q5, q6⟩, r1, r2⟩ := hf i hi
    have hg : ((List.range n).map f).getD i wop0 = f i := by simp [List.getD, hi]
    rw [hg]
    simp only [Addr.add_lit, Nat.add_zero] at q0 q1 q2 q3 q4 q5 q6
    exact ⟨⟨q0, q1, q2, q3, q4, q5, q6⟩, r1, r2⟩
end Go.Proofs.Ythflghjmpellpaa
