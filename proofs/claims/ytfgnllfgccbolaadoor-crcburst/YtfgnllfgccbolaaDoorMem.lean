import Derived.WalkKit
import Derived.WalkSpells
import Derived.WalkSmall
import Derived.WalkLawsBesides
import Derived.Deep.QuietTactic
import Derived.BigQuiet
namespace Go.Proofs.YtfgnllfgccbolaaDoor
open Go.RowKit

theorem hid {p : Prop} (h : p) : Hid p := h

/-- The slice at 'a', of n elements, reads the bytes zs. -/
def Bs (w : World) (a : Option Addr) (n : Nat) (zs : List Int) : Prop :=
  zs.length = n ∧ (∀ z ∈ zs, 0 ≤ z ∧ z ≤ 255) ∧ (n = 0 ∨ ∃ b off, a = some ⟨b, off, none⟩ ∧ ∀ i, i < n → w.cell? ⟨b, off + i, none⟩ = some (.int .u8 (zs.getD i 0)))

/-- Where the slice lies apart from block r. -/
def Off (a : Option Addr) (n : Nat) (r : Option Nat) : Prop := n = 0 ∨ ∀ x, a = some x → some x.block ≠ r

theorem Bs.kept {w w' : World} {a : Option Addr} {n : Nat} {zs : List Int} {r : Option Nat} (h : Bs w a n zs) (hg : w.grownBy w' r) (ho : Off a n r) : Bs w' a n zs := by
  refine ⟨h.1, h.2.1, ?_⟩
  rcases h.2.2 with h0 | ⟨b, off, rfl, hc⟩
  · exact .inl h0
  · rcases ho with h0 | ho
    · exact .inl h0
    · exact .inr ⟨b, off, rfl, fun i hi => hg.cell (hc i hi) (ho ⟨b, off, .none⟩ rfl)⟩

theorem Off.none (a : Option Addr) (n : Nat) : Off a n none := .inr fun _ _ => by simp

/-- Are the two lists one? -/
def sameB (xs ys : List Int) : Bool := decide (xs = ys)
theorem sameB_self (xs : List Int) : sameB xs xs = true := by simp [sameB]
theorem sameB_len {xs ys : List Int} (h : xs.length ≠ ys.length) : sameB xs ys = false := by
  unfold sameB; exact decide_eq_false fun e => h (by rw [e])
theorem sameB_at {xs ys : List Int} {k : Nat} (h : xs.getD k 0 ≠ ys.getD k 0) : sameB xs ys = false := by
  unfold sameB; exact decide_eq_false fun e => h (by rw [e])
theorem sameB_take {xs ys : List Int} {n : Nat} (hx : xs.length = n) (hy : ys.length = n) (h : xs.take n = ys.take n) : sameB xs ys = true := by
  unfold sameB
  rw [List.take_of_length_le (by omega), List.take_of_length_le (by omega)] at h
  exact decide_eq_true h
theorem take_step {xs ys : List Int} {k : Nat} (hx : k < xs.length) (hy : k < ys.length) (h : xs.take k = ys.take k) (e : xs.getD k 0 = ys.getD k 0) : xs.take (k + 1) = ys.take (k + 1) := by
  rw [List.take_succ_eq_append_getElem hx, List.take_succ_eq_append_getElem hy, h]
  simp [List.getD, hx, hy] at e
  rw [e]
theorem ret_bool {a b : Bool} (h : a = b) : Ending.returned (.bool a) = .returned (.bool b) := by rw [h]

theorem grown_drewN (w : World) (n : Nat) (r : Option Nat) : w.grownBy (w.drewN n) r := ⟨rfl, rfl, rfl, Nat.le_refl _, fun _ _ _ => rfl⟩
end Go.Proofs.YtfgnllfgccbolaaDoor
