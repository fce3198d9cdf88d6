import Derived.Test.YtjaecokhocbdlaaLawBroken
import Derived.Test.YtjaecokhocbdlaaRow
import Derived.ProofKit
import Derived.OpenShut
import Derived.Deep.Slices
import Derived.Deep.Strs
namespace Go.Proofs.Ytjaecokhocbdlaa
open Go.ChangeShapes Go.WideShapes Go.ChangeAt Go.RowKit Go.Deep
set_option linter.unusedVariables false

theorem cells34 : Try.prog.cellsOf 34 = 3 := by kernel_rfl
theorem cells3 : Try.prog.cellsOf 3 = 1 := by kernel_rfl
theorem cells4 : Try.prog.cellsOf 4 = 1 := by kernel_rfl

theorem cells_three {w : World} {base : Nat} {x : Addr} {cs : List Value} (h : w.cells? base x 3 = some cs) : ∃ c0 c1 c2, cs = [c0, c1, c2] ∧ w.cell? (x.add 0) = some c0 ∧ w.cell? (x.add 1) = some c1 ∧ w.cell? (x.add 2) = some c2 := by
  unfold World.cells? at h
  split at h
  · simp only [List.range, List.range.loop, List.mapM_cons, List.mapM_nil, Option.bind_eq_bind, Option.pure_def, Option.bind_eq_some_iff] at h
    obtain ⟨c0, h0, y, ⟨c1, h1, z, ⟨c2, h2, u, e3, e2⟩, e1⟩, e0⟩ := h
    simp at e0 e1 e2 e3
    subst e3 e2 e1 e0
    exact ⟨c0, c1, c2, rfl, h0, h1, h2⟩
  · cases h

theorem open_ops {H : Type} {enc : TypeId × Value → H} {w : World} {base : Nat} {spare : Nat → Bool} {held : Bool} {fuel n c : Nat} {a : Option Addr} {x : DataW H × List MemPlace}
    (h : DataW.trod enc Try.prog w base spare held fuel 28 [.slice a n c] = some x) : n ≤ c ∧ c ≤ maxLen ∧ ∃ K N S, IsOps w a n K N S := by
  rcases open_slice Try.underlying28 h with ⟨hcs, _⟩ | ⟨x, len, cap, m, nn, D, Pl, hcs, _, hl, hm, hme, _, hel⟩
  · simp at hcs
    obtain ⟨rfl, rfl, rfl⟩ := hcs
    exact ⟨Nat.le_refl _, by unfold maxLen; omega, fun _ => 0, fun _ => 0, fun _ => false, .inl rfl⟩
  · simp at hcs
    obtain ⟨rfl, rfl, rfl⟩ := hcs
    refine ⟨hl, hm, ?_⟩
    by_cases h0 : n = 0
    · exact ⟨fun _ => 0, fun _ => 0, fun _ => false, .inl h0⟩
    have hnm : n ≤ m := by rw [hme]; split <;> omega
    have key : ∀ i, i < n → ∃ y : Int × Int × Bool, w.cell? ((x.add (i * 3)).add 0) = some (.int .i64 y.1) ∧ w.cell? ((x.add (i * 3)).add 1) = some (.int .i64 y.2.1) ∧ w.cell? ((x.add (i * 3)).add 2) = some (.bool y.2.2) := by
      intro i hi
      obtain ⟨cs', h1, h2⟩ := hel i (by omega)
      rw [cells34] at h1
      obtain ⟨c0, c1, c2, rfl, g0, g1, g2⟩ := cells_three h1
      obtain ⟨y0, y1, y2, q, _, _, t0, t1, t2⟩ := trod_struct3 Try.underlying34 h2
      simp only [cells3, cells4, List.drop, List.take] at t0 t1 t2
      obtain ⟨k, e0, _, _⟩ := DataW.trod_int Try.underlying3 t0
      obtain ⟨l, e1, _, _⟩ := DataW.trod_int Try.underlying3 t1
      obtain ⟨b, e2, _⟩ := DataW.trod_bool Try.underlying4 t2
      simp at e0 e1 e2
      subst e0 e1 e2
      exact ⟨(k, l, b), g0, g1, g2⟩
    obtain ⟨f, hf⟩ := choose_lt key
    obtain ⟨b, off, spot⟩ := x
    have hspot : spot = none := by simpa [Addr.add] using World.cell?_spot (hf 0 (by omega)).1
    subst hspot
    refine ⟨fun i => (f i).1, fun i => (f i).2.1, fun i => (f i).2.2, .inr ⟨b, off, rfl, fun i hi => ?_⟩⟩
    have := hf i hi
    simpa only [add_add, Addr.add_lit, Nat.add_zero, Nat.add_assoc] using this
end Go.Proofs.Ytjaecokhocbdlaa
