import Derived.Test.YtbdkmjjjafbaoaaV7
import Derived.ProofKit
import Derived.OpenShut
import Derived.ChangeSame
import Derived.Deep.Slices
import Derived.Deep.Strs
import Derived.SizedLaws
namespace Go.Proofs.Ytbdkmjjjafbaoaa
set_option maxRecDepth 100000
open Go.ChangeShapes Go.WideShapes Go.ChangeAt Go.RowKit Go.Deep
set_option linter.unusedVariables false

theorem u64_b {x : Int} (h : 0 ≤ x ∧ x ≤ 18446744073709551615) : u64r x := ⟨h.1, by omega⟩
theorem i64_b {x : Int} (h : -9223372036854775808 ≤ x ∧ x ≤ 9223372036854775807) : i64r x := ⟨h.1, by omega⟩
/-! A list of numbers of 64 bits that came in. -/
theorem open_u64s {H : Type} {enc : TypeId × Value → H} {W : World} {b0 fuel : Nat} {held : Bool} {cs : List Value} {x : DataW H × List MemPlace} (h : DataW.trod enc Try.prog W b0 (fun _ => true) held fuel 42 cs = some x) :
    ∃ a n c l, cs = [.slice a n c] ∧ Ucs W a n l := by
  rcases open_ints Try.underlying42 Try.underlying22 (by kernel_rfl) h with ⟨rfl, _⟩ | ⟨y, l, c, zs, rfl, _, hl, hm, hz, hdat, hcell, hwz⟩
  · exact ⟨none, 0, 0, [], rfl, ⟨rfl, fun i hi => by omega, .inl rfl⟩⟩
  · have hlen : l ≤ zs.length := by simp at hz; omega
    have hg : ∀ i, i < l → (zs.take l).getD i 0 = zs.getD i 0 := fun i hi => by simp [List.getD, hi]
    refine ⟨some y, l, c, zs.take l, rfl, ⟨by simp; omega, fun i hi => ?_, ?_⟩⟩
    · rw [hg i hi]
      have hmem : zs.getD i 0 ∈ zs := by rw [show zs.getD i 0 = zs[i]'(by omega) from by simp [List.getD, show i < zs.length by omega]]; exact List.getElem_mem _
      exact u64_b (bounds_u64 (hwz _ hmem))
    · by_cases h0 : l = 0
      · exact .inl h0
      obtain ⟨b, off, spot⟩ := y
      have hspot : spot = none := by simpa [Addr.add] using World.cell?_spot (hcell 0 (by omega))
      subst hspot
      refine .inr ⟨b, off, rfl, fun i hi => ?_⟩
      rw [hg i hi]
      have h1 := hcell i (by omega)
      rw [Addr.add_lit] at h1
      exact h1
/-! A list of ints that came in. -/
theorem open_i64s {H : Type} {enc : TypeId × Value → H} {W : World} {b0 fuel : Nat} {held : Bool} {cs : List Value} {x : DataW H × List MemPlace} (h : DataW.trod enc Try.prog W b0 (fun _ => true) held fuel 47 cs = some x) :
    ∃ a n c l, cs = [.slice a n c] ∧ Ics W a n l := by
  rcases open_ints Try.underlying47 Try.underlying3 (by kernel_rfl) h with ⟨rfl, _⟩ | ⟨y, l, c, zs, rfl, _, hl, hm, hz, hdat, hcell, hwz⟩
  · exact ⟨none, 0, 0, [], rfl, ⟨rfl, fun i hi => by omega, .inl rfl⟩⟩
  · have hlen : l ≤ zs.length := by simp at hz; omega
    have hg : ∀ i, i < l → (zs.take l).getD i 0 = zs.getD i 0 := fun i hi => by simp [List.getD, hi]
    refine ⟨some y, l, c, zs.take l, rfl, ⟨by simp; omega, fun i hi => ?_, ?_⟩⟩
    · rw [hg i hi]
      have hmem : zs.getD i 0 ∈ zs := by rw [show zs.getD i 0 = zs[i]'(by omega) from by simp [List.getD, show i < zs.length by omega]]; exact List.getElem_mem _
      exact i64_b (bounds_i64 (hwz _ hmem))
    · by_cases h0 : l = 0
      · exact .inl h0
      obtain ⟨b, off, spot⟩ := y
      have hspot : spot = none := by simpa [Addr.add] using World.cell?_spot (hcell 0 (by omega))
      subst hspot
      refine .inr ⟨b, off, rfl, fun i hi => ?_⟩
      rw [hg i hi]
      have h1 := hcell i (by omega)
      rw [Addr.add_lit] at h1
      exact h1
end Go.Proofs.Ytbdkmjjjafbaoaa
