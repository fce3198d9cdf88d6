import Derived.Test.YtejnknkehigkdaaARow
import Derived.Deep.Slices
import Derived.Deep.Strs
namespace Go.Proofs.Ytejnknkehigkdaa
open Go.ChangeShapes Go.WideShapes Go.ChangeAt Go.RowKit Go.Deep
set_option linter.unusedVariables false

/-- The slice at 'a' reads n blocks: the byte j of the block i is fs i j. -/
def Bl (w : World) (a : Option Addr) (n : Nat) (fs : Nat → Nat → Nat) : Prop :=
  (∀ i, i < n → ∀ j, j < 16 → fs i j < 256) ∧ (n = 0 ∨ ∃ b off, a = some ⟨b, off, none⟩ ∧ ∀ i, i < n → ∀ j, j < 16 → w.cell? ⟨b, off + 16 * i + j, none⟩ = some (.int .u8 (fs i j : Nat)))
theorem Bl.below {w w' : World} {a : Option Addr} {n : Nat} {fs : Nat → Nat → Nat} (h : Bl w a n fs) (hb : Below w.heap.size w w') : Bl w' a n fs := by
  refine ⟨h.1, ?_⟩
  rcases h.2 with h0 | ⟨b, off, e, hc⟩
  · exact .inl h0
  · exact .inr ⟨b, off, e, fun i hi j hj => (hb.cell (World.block_lt_of_cell? w _ (hc i hi j hj))).trans (hc i hi j hj)⟩

theorem trod16 {H : Type} {enc : TypeId × Value → H} {W : World} {b0 fuel : Nat} {spare : Nat → Bool} {held : Bool} {cs : List Value} {y : DataW H × List MemPlace} (hf : DataW.trod enc Try.prog W b0 spare held fuel 36 cs = some y) :
    ∀ i, i < 16 → ∃ z : Nat, z < 256 ∧ cs[i]? = some (.int .u8 (z : Nat)) := by
  cases fuel with
  | zero => simp [DataW.trod] at hf
  | succ n =>
    unfold DataW.trod at hf
    rw [under16] at hf
    simp only [cells8] at hf
    split at hf
    · obtain ⟨xs, hm, _⟩ := Option.map_eq_some_iff.1 hf
      intro i hi
      obtain ⟨y, hy⟩ := mapM_at _ _ _ hm i (by simpa using hi)
      obtain ⟨z, hz, _, hw⟩ := DataW.trod_int under8 hy
      obtain ⟨h0, h1⟩ := bounds_u8 hw
      refine ⟨z.toNat, by omega, ?_⟩
      have e : (cs.drop i)[0]? = some (.int .u8 z) := by
        have := congrArg (·[0]?) hz
        simpa using this
      rw [List.getElem?_drop] at e
      rw [Int.toNat_of_nonneg h0]
      simpa using e
    · cases hf
theorem mapM_get {α β : Type} (f : α → Option β) : ∀ (l : List α) (r : List β), l.mapM f = some r → ∀ (i : Nat) (x : α), l[i]? = some x → f x = r[i]?
  | [], _, _, i, x, hx => by simp at hx
  | a :: l, r, h, i, x, hx => by
    rw [List.mapM_cons] at h
    simp only [bind, Option.bind_eq_some_iff, pure, Option.some.injEq] at h
    obtain ⟨y, hy, ys, hys, rfl⟩ := h
    cases i with
    | zero => simp at hx; subst hx; simpa using hy
    | succ i => simp at hx ⊢; exact mapM_get f l ys hys i x hx
theorem cells_at {w : World} {base n : Nat} {x : Addr} {cs : List Value} (h : w.cells? base x n = some cs) (j : Nat) (hj : j < n) : w.cell? (x.add j) = cs[j]? := by
  unfold World.cells? at h
  split at h
  · exact mapM_get _ _ _ h j j (by simp [hj])
  · cases h
theorem open_blocks {H : Type} {enc : TypeId × Value → H} {w : World} {base : Nat} {spare : Nat → Bool} {held : Bool} {fuel n c : Nat} {a : Option Addr} {x : DataW H × List MemPlace}
    (h : DataW.trod enc Try.prog w base spare held fuel 41 [.slice a n c] = some x) : n ≤ c ∧ c ≤ maxLen ∧ ∃ fs, Bl w a n fs := by
  rcases open_slice (show Try.prog.underlying 41 = some (.slice 36) by kernel_rfl) h with ⟨hcs, _⟩ | ⟨x, len, cap, m, nn, D, Pl, hcs, _, hl, hm, hme, _, hel⟩
  · simp at hcs
    obtain ⟨rfl, rfl, rfl⟩ := hcs
    exact ⟨Nat.le_refl _, by unfold maxLen; omega, fun _ _ => 0, fun i hi => by omega, .inl rfl⟩
  · simp at hcs
    obtain ⟨rfl, rfl, rfl⟩ := hcs
    refine ⟨hl, hm, ?_⟩
    by_cases h0 : n = 0
    · exact ⟨fun _ _ => 0, fun i hi => by omega, .inl h0⟩
    have hnm : n ≤ m := by rw [hme]; split <;> omega
    have key : ∀ i, i < n → ∃ f : Nat → Nat, ∀ j, j < 16 → f j < 256 ∧ w.cell? ((x.add (i * 16)).add j) = some (.int .u8 (f j : Nat)) := by
      intro i hi
      obtain ⟨cs', h1, h2⟩ := hel i (by omega)
      rw [show Try.prog.cellsOf 36 = 16 by kernel_rfl] at h1
      have each := trod16 h2
      refine ⟨fun j => if h : j < 16 then (each j h).choose else 0, fun j hj => ?_⟩
      simp only [hj, dite_true]
      exact ⟨(each j hj).choose_spec.1, (cells_at h1 j hj).trans (each j hj).choose_spec.2⟩
    obtain ⟨f, hf⟩ := choose_lt key
    obtain ⟨b, off, spot⟩ := x
    have hspot : spot = none := by simpa [Addr.add] using World.cell?_spot (hf 0 (by omega) 0 (by omega)).2
    subst hspot
    refine ⟨f, fun i hi j hj => (hf i hi j hj).1, .inr ⟨b, off, rfl, fun i hi j hj => ?_⟩⟩
    have := (hf i hi j hj).2
    rw [Nat.mul_comm 16 i]
    simpa only [add_add, Addr.add_lit, Nat.add_zero, Nat.add_assoc] using this
end Go.Proofs.Ytejnknkehigkdaa
