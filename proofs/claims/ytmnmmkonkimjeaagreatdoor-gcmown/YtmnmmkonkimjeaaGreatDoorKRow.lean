import Derived.Test.YtmnmmkonkimjeaaGreatDoorKLaw
import Derived.ProofKit
import Derived.OpenShut
import Derived.Deep.Slices
namespace Go.Proofs.YtmnmmkonkimjeaaGreatDoor
open Go.ChangeShapes Go.WideShapes Go.ChangeAt Go.RowKit Go.Deep
set_option linter.unusedVariables false
set_option maxRecDepth 100000

/-- A slice of integers that came in: nil, or a row of 'cap' numbers. -/
def IsRow (k : IntKind) (w : World) (a : Option Addr) (len cap : Nat) (zs : List Int) : Prop :=
  (a = none ∧ len = 0 ∧ cap = 0 ∧ zs = []) ∨
  ∃ x, a = some x ∧ len ≤ cap ∧ cap ≤ maxLen ∧ zs.length = cap ∧ (∀ i, i < zs.length → w.cell? (x.add i) = some (.int k (zs.getD i 0))) ∧ ∀ n ∈ zs, (Lit.int k n).wf = true

theorem IsRow.fits {k : IntKind} {w : World} {a : Option Addr} {len cap : Nat} {zs : List Int} (h : IsRow k w a len cap zs) : len ≤ cap ∧ cap ≤ maxLen ∧ (a = none → cap = 0) ∧ zs.length = cap := by
  rcases h with ⟨rfl, rfl, rfl, rfl⟩ | ⟨x, rfl, hl, hm, hz, _⟩
  · exact ⟨Nat.le_refl _, by unfold maxLen; omega, fun _ => rfl, rfl⟩
  · exact ⟨hl, hm, (fun e => by cases e), hz⟩

theorem IsRow.at {k : IntKind} {w : World} {a : Option Addr} {len cap : Nat} {zs : List Int} (h : IsRow k w a len cap zs) :
    len = 0 ∨ ∃ b off, a = some ⟨b, off, none⟩ ∧ ∀ i, i < len → w.cell? ⟨b, off + i, none⟩ = some (.int k (zs.getD i 0)) := by
  rcases h with ⟨rfl, rfl, rfl, rfl⟩ | ⟨x, rfl, hl, hm, hz, hcell, hwz⟩
  · exact .inl rfl
  · by_cases h0 : len = 0
    · exact .inl h0
    · obtain ⟨b, off, spot⟩ := x
      have hc := hcell 0 (by omega)
      have hspot : spot = none := by simpa [Addr.add] using World.cell?_spot hc
      subst hspot
      refine .inr ⟨b, off, rfl, fun i hi => ?_⟩
      have := hcell i (by omega)
      rwa [Addr.add_lit] at this

theorem IsRow.bs {w : World} {a : Option Addr} {len cap : Nat} {zs : List Int} (h : IsRow .u8 w a len cap zs) : Bs w a len (zs.take len) := by
  obtain ⟨f1, f2, _, f3⟩ := h.fits
  have hat := h.at
  refine ⟨by simp; omega, fun z hz => ?_, ?_⟩
  · rcases h with ⟨rfl, rfl, rfl, rfl⟩ | ⟨x, rfl, hl, hm, hz', hcell, hwz⟩
    · simp at hz
    · exact bounds_u8 (hwz z (List.mem_of_mem_take hz))
  · rcases hat with h0 | ⟨b, off, rfl, hc⟩
    · exact .inl h0
    · refine .inr ⟨b, off, rfl, fun i hi => ?_⟩
      rw [hc i hi]
      simp only [List.getD, List.getElem?_take, if_pos hi]

theorem cellsB : Tryz.prog.cellsOf 22 = 1 := by kernel_rfl
/-- A list of lists of bytes that came in. -/
theorem open_lists {H : Type} {enc : TypeId × Value → H} {w : World} {base : Nat} {held : Bool} {fuel n c : Nat} {a : Option Addr} {x : DataW H × List MemPlace}
    (h : DataW.trod enc Tryz.prog w base (fun _ => true) held fuel 23 [.slice a n c] = some x) : n ≤ c ∧ c ≤ maxLen ∧ ∃ A N C L, Tx w a n A N C L := by
  rcases open_slice1 Tryz.underlying23 cellsB h with ⟨hcs, _⟩ | ⟨x, len, cap, m, nn, V, D, Pl, hcs, _, hl, hm, hme, _, hel⟩
  · simp at hcs
    obtain ⟨rfl, rfl, rfl⟩ := hcs
    exact ⟨Nat.le_refl _, by unfold maxLen; omega, fun _ => none, fun _ => 0, fun _ => 0, fun _ => [], .inl rfl⟩
  · simp at hcs
    obtain ⟨rfl, rfl, rfl⟩ := hcs
    refine ⟨hl, hm, ?_⟩
    by_cases h0 : n = 0
    · exact ⟨fun _ => none, fun _ => 0, fun _ => 0, fun _ => [], .inl h0⟩
    have hnm : n ≤ m := by rw [hme]; split <;> omega
    have key : ∀ i, i < n → ∃ y : Option Addr × Nat × Nat × List Nat, w.cell? (x.add i) = some (.slice y.1 y.2.1 y.2.2.1) ∧ Bs w y.1 y.2.1 (ic y.2.2.2) ∧ y.2.1 ≤ y.2.2.1 ∧ y.2.2.1 ≤ maxLen ∧ (y.1 = none → y.2.2.1 = 0) ∧ ∀ z ∈ y.2.2.2, z < 256 := by
      intro i hi
      obtain ⟨h1, h2⟩ := hel i (by omega)
      rcases open_ints Tryz.underlying22 Tryz.underlying5 (by kernel_rfl) h2 with ⟨hcs, _⟩ | ⟨ax, l, c', zs, hcs, _, hl', hm', hz, _, hcell, hwz⟩
      · simp at hcs
        exact ⟨(none, 0, 0, []), by rw [h1, hcs], ⟨rfl, by simp [ic], .inl rfl⟩, Nat.le_refl _, (by show 0 ≤ maxLen; omega), fun _ => rfl, by simp⟩
      · simp at hcs
        have hr : IsRow .u8 w (some ax) l c' zs := .inr ⟨ax, rfl, hl', hm', by simpa using hz, hcell, hwz⟩
        have hb := hr.bs
        exact ⟨(some ax, l, c', (zs.take l).map Int.toNat), by rw [h1, hcs], by rw [ic_toNat hb.2.1]; exact hb, hl', hm', (fun e => by cases e), nat_lt hb.2.1⟩
    obtain ⟨f, hf⟩ := choose_lt key
    obtain ⟨b, off, spot⟩ := x
    have hspot : spot = none := by simpa [Addr.add] using World.cell?_spot (hf 0 (by omega)).1
    subst hspot
    refine ⟨fun i => (f i).1, fun i => (f i).2.1, fun i => (f i).2.2.1, fun i => (f i).2.2.2, .inr ⟨b, off, rfl, fun i hi => ?_⟩⟩
    have := hf i hi
    rw [Addr.add_lit] at this
    exact this
end Go.Proofs.YtmnmmkonkimjeaaGreatDoor
