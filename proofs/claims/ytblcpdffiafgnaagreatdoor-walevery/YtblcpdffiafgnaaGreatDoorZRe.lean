import Derived.Test.YtblcpdffiafgnaaGreatDoorZR
import Derived.Test.YtblcpdffiafgnaaGreatDoorZZa
namespace Go.Proofs.YtblcpdffiafgnaaGreatDoor
set_option linter.unusedSimpArgs false
set_option maxRecDepth 100000
open Go.ChangeShapes Go.WideShapes Go.ChangeAt Go.RowKit Go.Deep
set_option linter.unusedVariables false
set_option linter.unusedSimpArgs false

/-- A list of numbers of 64 bits that came in. -/
theorem open_u12 {H : Type} {enc : TypeId × Value → H} {W : World} {b0 fuel : Nat} {held : Bool} {cs : List Value} {x : DataW H × List MemPlace} (h : DataW.trod enc Tryz.prog W b0 (fun _ => true) held fuel 44 cs = some x) (hw : ∀ n ∈ x.1.weights Tryz.prog 44, n ≤ reachBytes) :
    ∃ a n c l, cs = [.slice a n c] ∧ Uc12 W a n l ∧ n ≤ c ∧ c ≤ maxLen := by
  rcases open_ints Tryz.underlying44 Tryz.underlying45 (by kernel_rfl) h with ⟨rfl, _⟩ | ⟨y, l, c, zs, rfl, _, hl, hm, hz, hdat, hcell, hwz⟩
  · exact ⟨none, 0, 0, [], rfl, ⟨rfl, fun x hx => (by cases hx), .inl rfl⟩, Nat.le_refl _, by unfold maxLen; omega⟩
  · have hlen : l ≤ zs.length := by simp at hz; omega
    have hg : ∀ i, i < l → (zs.take l).getD i 0 = zs.getD i 0 := fun i hi => by simp [List.getD, hi]
    refine ⟨some y, l, c, zs.take l, rfl, ⟨by simp; omega, fun x hx => ?_, ?_⟩, hl, hm⟩
    · have := bounds_u64 (hwz x (List.mem_of_mem_take hx))
      exact ⟨this.1, by omega⟩
    · by_cases h0 : l = 0
      · exact .inl h0
      obtain ⟨b, off, spot⟩ := y
      have hspot : spot = none := by simpa [Addr.add] using World.cell?_spot (hcell 0 (by omega))
      subst hspot
      refine .inr ⟨b, off, rfl, fun i hi => ?_⟩
      rw [hg i hi]
      have h1 := hcell i (by omega)
      rw [Addr.add_lit] at h1
      exact h1
end Go.Proofs.YtblcpdffiafgnaaGreatDoor
