import Derived.Test.YtmgoabedickooaaGreatDoorPRow
import Derived.Test.YtmgoabedickooaaGreatDoorOW2
namespace Go.Proofs.YtmgoabedickooaaGreatDoor.Kp
set_option maxRecDepth 100000
open Go.ChangeShapes Go.WideShapes Go.ChangeAt Go.RowKit Go.Deep
set_option linter.unusedVariables false

theorem cells_four {w : World} {base : Nat} {x : Addr} {cs : List Value} (h : w.cells? base x 4 = some cs) : ∃ c0 c1 c2 c3, cs = [c0, c1, c2, c3] ∧ w.cell? (x.add 0) = some c0 ∧ w.cell? (x.add 1) = some c1 ∧ w.cell? (x.add 2) = some c2 ∧ w.cell? (x.add 3) = some c3 := by
  unfold World.cells? at h
  split at h
  · simp only [List.range, List.range.loop, List.mapM_cons, List.mapM_nil, Option.bind_eq_bind, Option.pure_def, Option.bind_eq_some_iff] at h
    obtain ⟨c0, h0, y, ⟨c1, h1, y1, ⟨c2, h2, y2, ⟨c3, h3, u, e4, e3⟩, e2⟩, e1⟩, e0⟩ := h
    simp at e0 e1 e2 e3 e4
    subst e4 e3 e2 e1 e0
    exact ⟨c0, c1, c2, c3, rfl, h0, h1, h2, h3⟩
  · cases h
theorem open_pxs {H : Type} {enc : TypeId × Value → H} {w : World} {base : Nat} {spare : Nat → Bool} {held : Bool} {fuel n c : Nat} {a : Option Addr} {x : DataW H × List MemPlace}
    (h : DataW.trod enc Tryz.prog w base spare held fuel 22 [.slice a n c] = some x) : (n ≤ c ∧ c ≤ maxLen) ∧ ∃ f h l b, IsPx w a n f h l b := by
  rcases open_slice Tryz.underlying22 h with ⟨hcs, _⟩ | ⟨x, len, cap, m, nn, D, Pl, hcs, _, hl, hm, hme, _, hel⟩
  · simp at hcs
    obtain ⟨rfl, rfl, rfl⟩ := hcs
    exact ⟨⟨Nat.le_refl _, by unfold maxLen; omega⟩, fun _ => 0, fun _ => 0, fun _ => 0, fun _ => 0, .inl rfl⟩
  · simp at hcs
    obtain ⟨rfl, rfl, rfl⟩ := hcs
    refine ⟨⟨hl, hm⟩, ?_⟩
    by_cases h0 : n = 0
    · exact ⟨fun _ => 0, fun _ => 0, fun _ => 0, fun _ => 0, .inl h0⟩
    have hnm : n ≤ m := by rw [hme]; split <;> omega
    have key : ∀ i, i < n → ∃ y : Int × Int × Int × Int, (w.cell? ((x.add (i * 4)).add 0) = some (.int .i64 y.1) ∧ w.cell? ((x.add (i * 4)).add 1) = some (.int .u64 y.2.1) ∧ w.cell? ((x.add (i * 4)).add 2) = some (.int .u64 y.2.2.1) ∧ w.cell? ((x.add (i * 4)).add 3) = some (.int .i64 y.2.2.2)) ∧ InI y.1 ∧ InU y.2.1 ∧ InU y.2.2.1 ∧ InI y.2.2.2 := by
      intro i hi
      obtain ⟨cs', h1, h2⟩ := hel i (by omega)
      rw [cellsPx] at h1
      obtain ⟨c0, c1, c2, c3, rfl, g0, g1, g2, g3⟩ := cells_four h1
      obtain ⟨F, H', L, B, hh, e⟩ := open_four h2
      simp at e
      obtain ⟨rfl, rfl, rfl, rfl⟩ := e
      exact ⟨(F, H', L, B), ⟨g0, g1, g2, g3⟩, hh⟩
    obtain ⟨f, hf⟩ := choose_lt key
    obtain ⟨b, off, spot⟩ := x
    have hspot : spot = none := by simpa [Addr.add] using World.cell?_spot (hf 0 (by omega)).1.1
    subst hspot
    refine ⟨fun i => (f i).1, fun i => (f i).2.1, fun i => (f i).2.2.1, fun i => (f i).2.2.2, .inr ⟨b, off, rfl, fun i hi => ?_⟩⟩
    have := hf i hi
    simpa only [add_add, Addr.add_lit, Nat.add_zero, Nat.add_assoc] using this
end Go.Proofs.YtmgoabedickooaaGreatDoor.Kp
