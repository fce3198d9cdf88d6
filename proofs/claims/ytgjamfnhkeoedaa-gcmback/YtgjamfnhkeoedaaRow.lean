import Derived.Test.YtgjamfnhkeoedaaBase
import Derived.ProofKit
import Derived.OpenShut
namespace Go.Proofs.Ytgjamfnhkeoedaa
open Go.ChangeShapes Go.WideShapes Go.ChangeAt Go.RowKit
set_option linter.unusedVariables false

theorem mapM_at {α β : Type} (f : α → Option β) : ∀ (l : List α) (r : List β), l.mapM f = some r → ∀ x ∈ l, ∃ y, f x = some y
  | [], _, _, _, hx => by cases hx
  | a :: l, r, h, x, hx => by
    rw [List.mapM_cons] at h
    simp only [bind, Option.bind_eq_some_iff, pure] at h
    obtain ⟨y, hy, ys, hys, _⟩ := h
    rcases List.mem_cons.1 hx with rfl | hx
    · exact ⟨y, hy⟩
    · exact mapM_at f l ys hys x hx
/-- An array of 16 bytes that came in is a block. -/
theorem open16 {H : Type} {enc : TypeId × Value → H} {W : World} {base b0 : Nat} {spare : Nat → Bool} {held : Bool} {v : Value} {d : DataW H} {p : List MemPlace} (hv : Value.okWide Try.prog W .any base 44 v) (h : DataW.Trod enc Try.prog W b0 spare held 44 v d p) :
    ∃ X, X < 2 ^ 128 ∧ v = .agg (bv X) := by
  obtain ⟨cs, rfl, hsz, _⟩ : ∃ cs, v = .agg cs ∧ cs.size = Try.prog.cellsOf 44 ∧ Row.okWide Try.prog W .any base 44 cs := by
    simpa [Value.okWide, under16] using hv
  rw [show Try.prog.cellsOf 44 = 16 by kernel_rfl] at hsz
  obtain ⟨fuel, hf⟩ := h
  cases fuel with
  | zero => simp [DataW.trod] at hf
  | succ n =>
    unfold DataW.trod at hf
    rw [under16] at hf
    simp only [cells8] at hf
    split at hf
    · obtain ⟨xs, hm, _⟩ := Option.map_eq_some_iff.1 hf
      have each : ∀ i, i < 16 → ∃ z : Nat, z < 256 ∧ cs[i]? = some (.int .u8 (z : Nat)) := by
        intro i hi
        obtain ⟨y, hy⟩ := mapM_at _ _ _ hm i (by simpa using hi)
        obtain ⟨z, hz, _, hw⟩ := DataW.trod_int under8 hy
        obtain ⟨h0, h1⟩ := bounds_u8 hw
        refine ⟨z.toNat, by omega, ?_⟩
        have e : (cs.toList.drop i)[0]? = some (.int .u8 z) := by
          have := congrArg (·[0]?) hz
          simpa [Value.cells] using this
        rw [List.getElem?_drop] at e
        rw [Int.toNat_of_nonneg h0]
        simpa using e
      have hf : ∃ f : Nat → Nat, ∀ i, i < 16 → f i < 256 ∧ cs[i]? = some (.int .u8 (f i : Nat)) :=
        ⟨fun i => if h : i < 16 then (each i h).choose else 0, fun i h => by simp only [h, dite_true]; exact (each i h).choose_spec⟩
      obtain ⟨f, hf⟩ := hf
      obtain ⟨X, hX, e⟩ := of_bytes ((List.range 16).map f) (by simp) (by
        intro z hz
        obtain ⟨i, hi, rfl⟩ := List.mem_map.1 hz
        exact (hf i (by simpa using hi)).1)
      refine ⟨X, hX, ?_⟩
      congr 1
      rw [← e]
      apply Array.ext_getElem?
      intro i
      by_cases hi : i < 16
      · rw [(hf i hi).2]; simp [hi]
      · rw [Array.getElem?_eq_none (by omega), Array.getElem?_eq_none (by simp; omega)]
    · cases hf
theorem u8nat {n : Int} (h : (Lit.int .u8 n).wf = true) : ∃ m : Nat, n = (m : Int) ∧ m < 256 := by
  obtain ⟨h0, h1⟩ := bounds_u8 h
  exact ⟨n.toNat, by omega, by omega⟩
end Go.Proofs.Ytgjamfnhkeoedaa
