import Derived.Test.YtmgoabedickooaaGreatDoorP9
namespace Go.Proofs.YtmgoabedickooaaGreatDoor
set_option maxRecDepth 100000
open Go.RowKit
set_option linter.unusedVariables false

def nl (l : List Int) : List Nat := l.map Int.toNat
theorem nl_length (l : List Int) : (nl l).length = l.length := by simp [nl]
theorem nl_lt {l : List Int} (h : ∀ z ∈ l, 0 ≤ z ∧ z ≤ 255) : ∀ x ∈ nl l, x < 256 := by
  intro x hx
  obtain ⟨z, hz, rfl⟩ := List.mem_map.1 hx
  have := h z hz
  omega
theorem nl_get {l : List Int} (h : ∀ z ∈ l, 0 ≤ z ∧ z ≤ 255) (i : Nat) : l.getD i 0 = (((nl l).getD i 0 : Nat) : Int) := by
  have hb := getD_byte6 h i
  unfold nl
  simp only [List.getD, List.getElem?_map] at *
  cases e : l[i]? with
  | none => rfl
  | some z =>
    rw [e] at hb
    simp at hb ⊢
    omega
/-- An address's text. -/
def ta (F H L : Int) : List Nat := tx (nl (pa F H L))
def tp (F H L B : Int) : List Nat := if vp F H L B then ta F H L ++ 47 :: dgs B.toNat 1 else []
end Go.Proofs.YtmgoabedickooaaGreatDoor
