import Derived.Test.YtbkeejapongmlaaGreatDoorABytes
import Derived.Test.YtbkeejapongmlaaGreatDoorRows
namespace Go.Proofs.YtbkeejapongmlaaGreatDoor.Kp
set_option maxRecDepth 100000
open Go.RowKit
set_option linter.unusedVariables false

/-- A row of bytes in a block of its own. -/
def Row (w : World) (g : Nat) (zs : List Int) : Prop := w.heap[g]? = some (.cells (cells zs).toArray 5 (0, 0))

theorem Row.cell {w : World} {g : Nat} {zs : List Int} (h : Row w g zs) (i : Nat) (hi : i < zs.length) : w.cell? ⟨g, i, none⟩ = some (.int .u8 (zs.getD i 0)) := by
  rw [cell_of_row w g i _ 5 (0, 0) h]
  simpa using cells_get zs i hi
theorem Row.lt {w : World} {g : Nat} {zs : List Int} (h : Row w g zs) : g < w.heap.size := (Array.getElem?_eq_some_iff.1 h).1
theorem Row.bs {w : World} {g : Nat} {zs : List Int} (h : Row w g zs) (hb : ∀ z ∈ zs, 0 ≤ z ∧ z ≤ 255) : Bs w (some ⟨g, 0, none⟩) zs.length zs :=
  ⟨rfl, hb, .inr ⟨g, 0, rfl, fun i hi => by rw [Nat.zero_add]; exact h.cell i hi⟩⟩
theorem Row.kept {w w' : World} {g : Nat} {zs : List Int} {r : Option Nat} (h : Row w g zs) (hg : w.grownBy w' r) (hr : some g ≠ r) : Row w' g zs := by
  unfold Row
  rw [hg.block g h.lt hr]; exact h
theorem Row.unfrozen {w : World} {g : Nat} {zs : List Int} (h : Row w g zs) (i : Nat) : w.frozen? ⟨g, i, none⟩ = false := by
  unfold Row at h
  simp [World.frozen?, h]
theorem Row.set {w : World} {g : Nat} {zs : List Int} (h : Row w g zs) (i : Nat) (x : Int) : Row (w.setCell ⟨g, i, none⟩ (.int .u8 x)) g (zs.set i x) := by
  unfold Row at *
  simp [World.setCell, Array.getElem?_modify, h, cells]

theorem made_zeros (n : Nat) : (madeCells (Value.int .u8 0).cells (n * 1)).toList = cells (List.replicate n 0) := by
  simp [madeCells, cells, Value.cells]
  apply List.ext_getElem
  · simp
  · intro i h1 h2; simp [Nat.mod_one]

theorem row_of_own {w : World} {base g n : Nat} {xs : List Int} (h : w.ownsRow base 5 1 (.slice (some ⟨g, 0, none⟩) n n) n (cells xs)) : Row w g xs := by
  obtain ⟨h1, h2⟩ := h
  rcases h2 with ⟨e, _⟩ | ⟨g', cap, cur, e, _, hg, _, _, hs, ht⟩
  · simp at e
  · simp at e
    obtain ⟨rfl, rfl⟩ := e
    unfold Row
    rw [hg]
    have : cur.toList = cells xs := by rw [← ht, List.take_of_length_le (by simp [hs])]
    rw [← this]

/-- Nothing but block r has turned, and no block has come. -/
structure Only (r : Nat) (w w' : World) : Prop where
  os : w'.os = w.os
  tape : w'.tape = w.tape
  output : w'.output = w.output
  size : w'.heap.size = w.heap.size
  block : ∀ k, k ≠ r → w'.heap[k]? = w.heap[k]?
theorem Only.refl (r : Nat) (w : World) : Only r w w := ⟨rfl, rfl, rfl, rfl, fun _ _ => rfl⟩
theorem Only.trans {r : Nat} {x y z : World} (h : Only r x y) (k : Only r y z) : Only r x z :=
  ⟨k.os.trans h.os, k.tape.trans h.tape, k.output.trans h.output, k.size.trans h.size, fun i hi => (k.block i hi).trans (h.block i hi)⟩
theorem Only.drewN {r : Nat} {x y : World} (h : Only r x y) (n : Nat) : Only r x (y.drewN n) := h.trans ⟨rfl, rfl, rfl, rfl, fun _ _ => rfl⟩
theorem Only.set {r : Nat} {x y : World} (h : Only r x y) (i : Nat) (v : Value) : Only r x (y.setCell ⟨r, i, none⟩ v) :=
  h.trans ⟨rfl, rfl, rfl, by simp [World.setCell], fun k hk => Below.heap_setCell _ _ _ _ hk⟩
theorem Only.grown {r : Nat} {x y : World} (h : Only r x y) : x.grownBy y (some r) := ⟨h.os, h.tape, h.output, by rw [h.size]; exact Nat.le_refl _, fun k _ hr => h.block k (fun e => hr (by rw [e]))⟩
theorem Only.below {r B : Nat} {x y : World} (h : Only r x y) (hB : B ≤ r) : Below B x y := ⟨h.os, h.tape, h.output, by rw [h.size]; exact Nat.le_refl _, fun k hk => h.block k (by omega)⟩
end Go.Proofs.YtbkeejapongmlaaGreatDoor.Kp
