import Derived.Test.YtbdmgciibfgmbaaGreatDoorSRow
import Derived.Test.YtbdmgciibfgmbaaGreatDoorF6
import Derived.Test.YtbdmgciibfgmbaaGreatDoorS9
namespace Go.Proofs.YtbdmgciibfgmbaaGreatDoor
open Go.ChangeShapes Go.WideShapes Go.ChangeAt Go.RowKit Go.Deep
set_option linter.unusedVariables false
set_option maxRecDepth 100000

/-- A list of stamps that came in. -/
def IsSt (w : World) (a : Option Addr) (n : Nat) (K N : Nat → Int) : Prop :=
  n = 0 ∨ ∃ b off, a = some ⟨b, off, none⟩ ∧ ∀ i, i < n → (w.cell? ⟨b, off + i * 2, none⟩ = some (.int .i64 (K i)) ∧ w.cell? ⟨b, off + i * 2 + 1, none⟩ = some (.int .i64 (N i))) ∧ InI (K i) ∧ InI (N i)
theorem IsSt.below {w w' : World} {a : Option Addr} {n : Nat} {K N : Nat → Int} (h : IsSt w a n K N) (hb : Below w.heap.size w w') : IsSt w' a n K N := by
  rcases h with h | ⟨b, off, e, h⟩
  · exact .inl h
  · refine .inr ⟨b, off, e, fun i hi => ?_⟩
    obtain ⟨⟨h1, h2⟩, h3⟩ := h i hi
    have hl : b < w.heap.size := World.block_lt_of_cell? w _ h1
    exact ⟨⟨(hb.cell hl).trans h1, (hb.cell hl).trans h2⟩, h3⟩
theorem cells_two {w : World} {base : Nat} {x : Addr} {cs : List Value} (h : w.cells? base x 2 = some cs) : ∃ c0 c1, cs = [c0, c1] ∧ w.cell? (x.add 0) = some c0 ∧ w.cell? (x.add 1) = some c1 := by
  unfold World.cells? at h
  split at h
  · simp only [List.range, List.range.loop, List.mapM_cons, List.mapM_nil, Option.bind_eq_bind, Option.pure_def, Option.bind_eq_some_iff] at h
    obtain ⟨c0, h0, y, ⟨c1, h1, u, e2, e1⟩, e0⟩ := h
    simp at e0 e1 e2
    subst e2 e1 e0
    exact ⟨c0, c1, rfl, h0, h1⟩
  · cases h
theorem open_sts {H : Type} {enc : TypeId × Value → H} {w : World} {base : Nat} {spare : Nat → Bool} {held : Bool} {fuel n c : Nat} {a : Option Addr} {x : DataW H × List MemPlace}
    (h : DataW.trod enc Tryz.prog w base spare held fuel 22 [.slice a n c] = some x) : n ≤ c ∧ c ≤ maxLen ∧ ∃ K N, IsSt w a n K N := by
  rcases open_slice Tryz.underlying22 h with ⟨hcs, _⟩ | ⟨x, len, cap, m, nn, D, Pl, hcs, _, hl, hm, hme, _, hel⟩
  · simp at hcs
    obtain ⟨rfl, rfl, rfl⟩ := hcs
    exact ⟨Nat.le_refl _, by unfold maxLen; omega, fun _ => 0, fun _ => 0, .inl rfl⟩
  · simp at hcs
    obtain ⟨rfl, rfl, rfl⟩ := hcs
    refine ⟨hl, hm, ?_⟩
    by_cases h0 : n = 0
    · exact ⟨fun _ => 0, fun _ => 0, .inl h0⟩
    have hnm : n ≤ m := by rw [hme]; split <;> omega
    have key : ∀ i, i < n → ∃ y : Int × Int, (w.cell? ((x.add (i * 2)).add 0) = some (.int .i64 y.1) ∧ w.cell? ((x.add (i * 2)).add 1) = some (.int .i64 y.2)) ∧ InI y.1 ∧ InI y.2 := by
      intro i hi
      obtain ⟨cs', h1, h2⟩ := hel i (by omega)
      rw [cellsSt] at h1
      obtain ⟨c0, c1, rfl, g0, g1⟩ := cells_two h1
      obtain ⟨s, n', hs, hn, e⟩ := open_two h2
      simp at e
      obtain ⟨rfl, rfl⟩ := e
      exact ⟨(s, n'), ⟨g0, g1⟩, hs, hn⟩
    obtain ⟨f, hf⟩ := choose_lt key
    obtain ⟨b, off, spot⟩ := x
    have hspot : spot = none := by simpa [Addr.add] using World.cell?_spot (hf 0 (by omega)).1.1
    subst hspot
    refine ⟨fun i => (f i).1, fun i => (f i).2, .inr ⟨b, off, rfl, fun i hi => ?_⟩⟩
    have := hf i hi
    simpa only [add_add, Addr.add_lit, Nat.add_zero, Nat.add_assoc] using this
end Go.Proofs.YtbdmgciibfgmbaaGreatDoor
