import Derived.Test.YtbdkmjjjafbaoaaKU
import Derived.Test.YtbdkmjjjafbaoaaRD
namespace Go.Proofs.Ytbdkmjjjafbaoaa
set_option maxRecDepth 100000
open Go.ChangeShapes Go.WideShapes Go.ChangeAt Go.RowKit Go.Deep
set_option linter.unusedVariables false

/-! A list of steps that came in. -/
structure Wop where
  kd : Int
  sec : Bool
  c : Int
def wop0 : Wop := ⟨0, false, 0⟩
structure OpAt (w : World) (b o : Nat) (x : Wop) : Prop where
  o0 : w.cell? ⟨b, o, none⟩ = some (.int .i64 x.kd)
  o1 : w.cell? ⟨b, o + 1, none⟩ = some (.bool x.sec)
  o2 : w.cell? ⟨b, o + 2, none⟩ = some (.int .u64 x.c)
structure Opl (w : World) (a : Option Addr) (n : Nat) (l : List Wop) : Prop where
  len : l.length = n
  at' : n = 0 ∨ ∃ b off, a = some ⟨b, off, none⟩ ∧ ∀ i, i < n → OpAt w b (off + i * 3) (l.getD i wop0) ∧ i64r (l.getD i wop0).kd ∧ u64r (l.getD i wop0).c
theorem Opl.get {w : World} {a : Option Addr} {n j : Nat} {l : List Wop} (h : Opl w a n l) (hj : j < n) : ∃ b off x, a = some ⟨b, off, none⟩ ∧ i64r x.kd ∧ u64r x.c ∧ ∀ wx, Below w.heap.size w wx → OpAt wx b (off + j * 3) x := by
  rcases h.at' with h0 | ⟨b, off, e, hc⟩
  · omega
  · exact ⟨b, off, _, e, (hc j hj).2.1, (hc j hj).2.2, fun wx hb => ⟨cell_on18 (hc j hj).1.o0 hb, cell_on18 (hc j hj).1.o1 hb, cell_on18 (hc j hj).1.o2 hb⟩⟩
theorem choose_lt {α : Type} [Inhabited α] {n : Nat} {P : Nat → α → Prop} (h : ∀ i, i < n → ∃ x, P i x) : ∃ f : Nat → α, ∀ i, i < n → P i (f i) := by
  refine ⟨fun i => if hi : i < n then Classical.choose (h i hi) else default, fun i hi => ?_⟩
  simp only [hi, dite_true]
  exact Classical.choose_spec (h i hi)
instance : Inhabited Wop := ⟨wop0⟩
theorem cells_three {w : World} {base : Nat} {x : Addr} {cs : List Value} (h : w.cells? base x 3 = some cs) : ∃ c0 c1 c2, cs = [c0, c1, c2] ∧ w.cell? (x.add 0) = some c0 ∧ w.cell? (x.add 1) = some c1 ∧ w.cell? (x.add 2) = some c2 := by
  unfold World.cells? at h
  split at h
  · simp only [List.range, List.range.loop, List.mapM_cons, List.mapM_nil, Option.bind_eq_bind, Option.pure_def, Option.bind_eq_some_iff] at h
    obtain ⟨c0, h0, y, ⟨c1, h1, y1, ⟨c2, h2, u, e8, e3⟩, e2⟩, e1⟩ := h
    simp at e1 e2 e3 e8
    subst e8 e3 e2 e1
    exact ⟨c0, c1, c2, rfl, h0, h1, h2⟩
  · cases h
theorem underOp : ∃ f0 f1 f2, Try.prog.underlying 29 = some (.struct #[f0, f1, f2]) ∧ (f0.type = 3 ∧ f1.type = 4 ∧ f2.type = 22) ∧ f0.offset = 0 ∧ f1.offset = 1 ∧ f2.offset = 2 := ⟨_, _, _, Try.underlying29, ⟨rfl, rfl, rfl⟩, rfl, rfl, rfl⟩
theorem cellsOp : Try.prog.cellsOf 29 = 3 := by kernel_rfl
theorem cells3 : Try.prog.cellsOf 3 = 1 := by kernel_rfl
theorem cells4 : Try.prog.cellsOf 4 = 1 := by kernel_rfl
theorem cells22 : Try.prog.cellsOf 22 = 1 := by kernel_rfl
theorem open_opc {H : Type} {enc : TypeId × Value → H} {W : World} {b0 fuel : Nat} {spare : Nat → Bool} {held : Bool} {cs : List Value} {x : DataW H × List MemPlace} (h : DataW.trod enc Try.prog W b0 spare held fuel 29 cs = some x) :
    ∃ o : Wop, cs = [.int .i64 o.kd, .bool o.sec, .int .u64 o.c] ∧ i64r o.kd ∧ u64r o.c := by
  obtain ⟨f0, f1, f2, hu, ⟨t0, t1, t2⟩, o0, o1, o2⟩ := underOp
  obtain ⟨xs, n, _, rfl, hl, hlen, hf⟩ := DataW.trod_struct hu h
  rw [cellsOp] at hl
  match xs, hlen with
  | [y0, y1, y2], _ =>
    have h0 := hf 0 f0 rfl
    have h1 := hf 1 f1 rfl
    have h2 := hf 2 f2 rfl
    rw [t0, o0, cells3] at h0
    rw [t1, o1, cells4] at h1
    rw [t2, o2, cells22] at h2
    obtain ⟨kd, e0, _, w0⟩ := DataW.trod_int Try.underlying3 (h0.trans rfl)
    obtain ⟨sc, e1, _⟩ := DataW.trod_bool Try.underlying4 (h1.trans rfl)
    obtain ⟨cc, e2, _, w2⟩ := DataW.trod_int Try.underlying22 (h2.trans rfl)
    refine ⟨⟨kd, sc, cc⟩, ?_, i64_b (bounds_i64 w0), u64_b (bounds_u64 w2)⟩
    match cs, hl with
    | [x0, x1, x2], _ =>
      simp at e0 e1 e2
      rw [e0, e1, e2]
theorem open_ops {H : Type} {enc : TypeId × Value → H} {w : World} {base fuel : Nat} {held : Bool} {cs : List Value} {x : DataW H × List MemPlace}
    (h : DataW.trod enc Try.prog w base (fun _ => true) held fuel 23 cs = some x) :
    ∃ a n c l, cs = [.slice a n c] ∧ Opl w a n l := by
  rcases open_slice Try.underlying23 h with ⟨rfl, _⟩ | ⟨x, n, c, m, nn, D, Pl, rfl, _, hl, hm, hme, hx, hel⟩
  · exact ⟨none, 0, 0, [], rfl, ⟨rfl, .inl rfl⟩⟩
  · have hnm : n ≤ m := by rw [hme]; split <;> omega
    have key : ∀ i, i < n → ∃ o : Wop, (w.cell? ((x.add (i * 3)).add 0) = some (.int .i64 o.kd) ∧ w.cell? ((x.add (i * 3)).add 1) = some (.bool o.sec) ∧ w.cell? ((x.add (i * 3)).add 2) = some (.int .u64 o.c)) ∧ i64r o.kd ∧ u64r o.c := by
      intro i hi
      obtain ⟨cs', h1, h2⟩ := hel i (by omega)
      rw [cellsOp] at h1
      obtain ⟨c0, c1, c2, rfl, g0, g1, g2⟩ := cells_three h1
      obtain ⟨o, e, ok⟩ := open_opc h2
      simp at e
      obtain ⟨rfl, rfl, rfl⟩ := e
      exact ⟨o, ⟨g0, g1, g2⟩, ok⟩
    obtain ⟨f, hf⟩ := choose_lt key
    refine ⟨some x, n, c, (List.range n).map f, rfl, ⟨by simp, ?_⟩⟩
    by_cases h0 : n = 0
    · exact .inl h0
    obtain ⟨b, off, spot⟩ := x
    have hspot : spot = none := by
      obtain ⟨⟨q, _⟩, _⟩ := hf 0 (by omega)
      simpa [Addr.add] using World.cell?_spot q
    subst hspot
    refine .inr ⟨b, off, rfl, fun i hi => ?_⟩
    obtain ⟨⟨q0, q1, q2⟩, r⟩ := hf i hi
    have hg : ((List.range n).map f).getD i wop0 = f i := by simp [List.getD, hi]
    rw [hg]
    simp only [Addr.add_lit, Nat.add_zero] at q0 q1 q2
    exact ⟨⟨q0, q1, q2⟩, r⟩
end Go.Proofs.Ytbdkmjjjafbaoaa
