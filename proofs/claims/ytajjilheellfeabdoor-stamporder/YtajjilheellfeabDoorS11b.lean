import Derived.Test.YtajjilheellfeabDoorS11a
namespace Go.Proofs.YtajjilheellfeabDoor
open Go.RowKit
set_option linter.unusedVariables false

/-! Three stamps in a row, and a table of nine truths. -/
def th (x0 x1 x2 : Int) (i : Nat) : Int := if i = 0 then x0 else if i = 1 then x1 else x2
structure Tri (w : World) (g : Nat) (s n : Nat → Int) : Prop where
  row : w.heap[g]? = some (.cells #[.int .i64 (s 0), .int .i64 (n 0), .int .i64 (s 1), .int .i64 (n 1), .int .i64 (s 2), .int .i64 (n 2)] 23 (0, 0))
theorem Tri.lt {w : World} {g : Nat} {s n : Nat → Int} (h : Tri w g s n) : g < w.heap.size := (Array.getElem?_eq_some_iff.1 h.row).1
theorem Tri.at {w w' : World} {g : Nat} {s n : Nat → Int} (h : Tri w g s n) (e : w'.heap[g]? = w.heap[g]?) : Tri w' g s n := ⟨by rw [e]; exact h.row⟩
theorem Tri.kept {w w' : World} {g : Nat} {s n : Nat → Int} (h : Tri w g s n) (hb : Below w.heap.size w w') : Tri w' g s n := h.at (hb.block g h.lt)
theorem Tri.c0 {w : World} {g : Nat} {s n : Nat → Int} (h : Tri w g s n) (i : Nat) (hi : i < 3) : w.cell? ⟨g, i * 2, none⟩ = some (.int .i64 (s i)) := by
  rw [cell_of_row w g _ _ _ (0, 0) h.row]
  have : i = 0 ∨ i = 1 ∨ i = 2 := by omega
  rcases this with rfl | rfl | rfl <;> rfl
theorem Tri.c1 {w : World} {g : Nat} {s n : Nat → Int} (h : Tri w g s n) (i : Nat) (hi : i < 3) : w.cell? ⟨g, i * 2 + 1, none⟩ = some (.int .i64 (n i)) := by
  rw [cell_of_row w g _ _ _ (0, 0) h.row]
  have : i = 0 ∨ i = 1 ∨ i = 2 := by omega
  rcases this with rfl | rfl | rfl <;> rfl
def bcs (f : Nat → Bool) : List Value := (List.range 9).map fun i => .bool (f i)
structure Tn (w : World) (g : Nat) (f : Nat → Bool) : Prop where
  row : w.heap[g]? = some (.cells (bcs f).toArray 28 (0, 0))
theorem Tn.lt {w : World} {g : Nat} {f : Nat → Bool} (h : Tn w g f) : g < w.heap.size := (Array.getElem?_eq_some_iff.1 h.row).1
theorem Tn.at {w w' : World} {g : Nat} {f : Nat → Bool} (h : Tn w g f) (e : w'.heap[g]? = w.heap[g]?) : Tn w' g f := ⟨by rw [e]; exact h.row⟩
theorem Tn.kept {w w' : World} {g : Nat} {f : Nat → Bool} (h : Tn w g f) (hb : Below w.heap.size w w') : Tn w' g f := h.at (hb.block g h.lt)
theorem Tn.cell {w : World} {g : Nat} {f : Nat → Bool} (h : Tn w g f) (i : Nat) (hi : i < 9) : w.cell? ⟨g, i, none⟩ = some (.bool (f i)) := by
  rw [cell_of_row w g _ _ _ (0, 0) h.row]
  simp [bcs, hi]
theorem Tn.fz {w : World} {g : Nat} {f : Nat → Bool} (h : Tn w g f) (i : Nat) : w.frozen? ⟨g, i, none⟩ = false := by
  have := h.row
  simp [World.frozen?, this]
def updb (f : Nat → Bool) (i : Nat) (b : Bool) : Nat → Bool := fun j => if j = i then b else f j
theorem Tn.set {w : World} {g : Nat} {f : Nat → Bool} (h : Tn w g f) (i : Nat) (hi : i < 9) (b : Bool) : Tn (w.setCell ⟨g, i, none⟩ (.bool b)) g (updb f i b) := by
  refine ⟨?_⟩
  have h1 := h.row
  have e : (bcs f).set i (.bool b) = bcs (updb f i b) := by
    unfold bcs updb
    apply List.ext_getElem
    · simp
    · intro j h1 h2
      rw [List.getElem_set]
      simp only [List.getElem_map, List.getElem_range]
      by_cases e : i = j
      · subst e; simp
      · rw [if_neg e, if_neg (Ne.symm e)]
  have : (w.setCell ⟨g, i, none⟩ (.bool b)).heap[g]? = some (.cells ((bcs f).set i (.bool b)).toArray 28 (0, 0)) := by
    simp [World.setCell, Array.getElem?_modify, h1]
  rw [this, e]
theorem Tn.new (w : World) (x : Array Value) (hx : x = (bcs fun _ => false).toArray) : Tn (w.alloc (.cells x 28)) w.heap.size fun _ => false := ⟨by rw [hx]; exact heap_alloc_new w _⟩
theorem Tri.set {w : World} {g g' i : Nat} {s n : Nat → Int} {v : Value} (h : Tri w g s n) (hn : g ≠ g') : Tri (w.setCell ⟨g', i, none⟩ v) g s n := h.at (setCell_other6 _ _ _ _ _ hn)
theorem Tri.drew {w : World} {g : Nat} {s n : Nat → Int} (h : Tri w g s n) : Tri w.drew g s n := ⟨h.row⟩
theorem Tn.drew {w : World} {g : Nat} {f : Nat → Bool} (h : Tn w g f) : Tn w.drew g f := ⟨h.row⟩
def ls (s n : Nat → Int) (i k : Nat) : Bool := lss (s i) (n i) (s k) (n k)
def sm (s n : Nat → Int) (i k : Nat) : Bool := sme (s i) (n i) (s k) (n k)
theorem ls_sm {s n : Nat → Int} {i k : Nat} (h : sm s n i k = true) : ls s n i k = false := by
  have := of_decide_eq_true (show decide _ = true from h)
  exact decide_eq_false (by omega)
theorem ls_two {s n : Nat → Int} {i k : Nat} (h : sm s n i k = false) : ls s n i k ≠ ls s n k i := by
  have h := of_decide_eq_false (show decide _ = false from h)
  unfold ls lss
  intro e
  have e := decide_eq_decide.1 e
  omega
theorem ls_trans {s n : Nat → Int} {i k m : Nat} (h1 : ls s n i k = true) (h2 : ls s n k m = true) : ls s n i m = true := by
  have h1 := of_decide_eq_true (show decide _ = true from h1)
  have h2 := of_decide_eq_true (show decide _ = true from h2)
  exact decide_eq_true (by omega)
end Go.Proofs.YtajjilheellfeabDoor
