import Derived.Test.YtgjamfnhkeoedaaABase
namespace Go.Proofs.Ytgjamfnhkeoedaa
open Go.RowKit
set_option linter.unusedVariables false

/-- n bytes as cells. -/
def rw8 (n : Nat) (f : Nat → Nat) : Array Value := ((List.range n).map fun i => Value.int .u8 (f i : Nat)).toArray
theorem rw8_size (n : Nat) (f : Nat → Nat) : (rw8 n f).size = n := by simp [rw8]
theorem rw8_get (n : Nat) (f : Nat → Nat) (i : Nat) (h : i < n) : (rw8 n f)[i]? = some (.int .u8 (f i : Nat)) := by simp [rw8, h]
theorem rw8_set (n : Nat) (f : Nat → Nat) (i x : Nat) : (rw8 n f).setIfInBounds i (.int .u8 (x : Nat)) = rw8 n fun j => if j = i then x else f j := by
  apply Array.ext_getElem?
  intro j
  rw [Array.getElem?_setIfInBounds, rw8_size]
  by_cases hj : j < n
  · rw [rw8_get _ _ j hj, rw8_get _ _ j hj]
    by_cases h : i = j
    · subst h; simp [hj]
    · rw [if_neg h, if_neg (fun e => h e.symm)]
  · have e1 : ∀ f, (rw8 n f)[j]? = none := fun f => Array.getElem?_eq_none (by rw [rw8_size]; omega)
    rw [e1, e1]
    split
    · rw [if_neg (by omega)]
    · rfl
def Rw (w : World) (g : Nat) (t : TypeId) (n : Nat) (f : Nat → Nat) : Prop := w.heap[g]? = some (.cells (rw8 n f) t (0, 0))
theorem Rw.lt {w : World} {g t n : Nat} {f : Nat → Nat} (h : Rw w g t n f) : g < w.heap.size := (Array.getElem?_eq_some_iff.1 h).1
theorem Rw.fz {w : World} {g t n : Nat} {f : Nat → Nat} (h : Rw w g t n f) (i : Nat) : w.frozen? ⟨g, i, none⟩ = false := by unfold Rw at h; simp [World.frozen?, h]
theorem Rw.byte {w : World} {g t n : Nat} {f : Nat → Nat} (h : Rw w g t n f) (i : Nat) (hi : i < n) : w.cell? ⟨g, i, none⟩ = some (.int .u8 (f i : Nat)) := (cell_of_row w g i _ t (0, 0) h).trans (rw8_get n f i hi)
theorem Rw.set {w : World} {g t n : Nat} {f : Nat → Nat} (h : Rw w g t n f) (i x : Nat) : Rw (w.setCell ⟨g, i, none⟩ (.int .u8 (x : Nat))) g t n fun j => if j = i then x else f j := by
  unfold Rw at *; rw [← rw8_set]; simp [World.setCell, Array.getElem?_modify, h]
theorem Rw.other {w : World} {g g' t n : Nat} {f : Nat → Nat} (h : Rw w g t n f) (hn : g ≠ g') (i : Nat) (v : Value) : Rw (w.setCell ⟨g', i, none⟩ v) g t n f := by
  unfold Rw at *; rw [Below.heap_setCell _ _ _ _ hn]; exact h
theorem Rw.kept {w w' : World} {g t n : Nat} {f : Nat → Nat} (h : Rw w g t n f) (hb : Below w.heap.size w w') : Rw w' g t n f := by
  have := h.lt
  unfold Rw at *; rw [hb.block g this]; exact h
theorem Rw.new (w : World) (t n : Nat) (f : Nat → Nat) : Rw (w.alloc (.cells (rw8 n f) t)) w.heap.size t n f := heap_alloc_new w _
theorem Rw.alloc {w : World} {g t n : Nat} {f : Nat → Nat} (h : Rw w g t n f) (o : Obj) : Rw (w.alloc o) g t n f := by
  have := h.lt
  unfold Rw at *; rw [Below.heap_alloc _ _ _ this]; exact h
theorem Rw.drew {w : World} {g t n : Nat} {f : Nat → Nat} (h : Rw w g t n f) : Rw w.drew g t n f := h

/-- The document's cipher while it is made: c substitutions and doubles stand, the round words begin with l. -/
def NS (w : World) (g c : Nat) (l : List Nat) : Prop :=
  ∃ f, Rw w g 65 752 f ∧ (∀ y, y < c → f y = sbx y) ∧ (∀ y, y < c → f (256 + y) = mul8 2 y) ∧ ∀ j, j < 240 → f (512 + j) = l.getD j 0
theorem NS.lt {w : World} {g c : Nat} {l : List Nat} (h : NS w g c l) : g < w.heap.size := by obtain ⟨f, r, _⟩ := h; exact r.lt
theorem NS.fz {w : World} {g c : Nat} {l : List Nat} (h : NS w g c l) (i : Nat) : w.frozen? ⟨g, i, none⟩ = false := by obtain ⟨f, r, _⟩ := h; exact r.fz i
theorem NS.some {w : World} {g c : Nat} {l : List Nat} (h : NS w g c l) (i : Nat) (hi : i < 752) : ∃ o : Nat, w.cell? ⟨g, i, none⟩ = some (.int .u8 (o : Nat)) := by obtain ⟨f, r, _⟩ := h; exact ⟨_, r.byte i hi⟩
theorem NS.key {w : World} {g c : Nat} {l : List Nat} (h : NS w g c l) (j : Nat) (hj : j < 240) : w.cell? ⟨g, 512 + j, none⟩ = .some (.int .u8 (l.getD j 0 : Nat)) := by
  obtain ⟨f, r, _, _, hk⟩ := h
  rw [r.byte _ (by omega), hk j hj]
theorem NS.box {w : World} {g c : Nat} {l : List Nat} (h : NS w g c l) (y : Nat) (hy : y < c) (hc : c ≤ 256) : w.cell? ⟨g, y, none⟩ = .some (.int .u8 (sbx y : Nat)) := by
  obtain ⟨f, r, hb, _, _⟩ := h
  rw [r.byte _ (by omega), hb y hy]
theorem NS.dbl {w : World} {g c : Nat} {l : List Nat} (h : NS w g c l) (y : Nat) (hy : y < c) (hc : c ≤ 256) : w.cell? ⟨g, 256 + y, none⟩ = .some (.int .u8 (mul8 2 y : Nat)) := by
  obtain ⟨f, r, _, hb, _⟩ := h
  rw [r.byte _ (by omega), hb y hy]
theorem NS.kept {w w' : World} {g c : Nat} {l : List Nat} (h : NS w g c l) (hb : Below w.heap.size w w') : NS w' g c l := by obtain ⟨f, r, x⟩ := h; exact ⟨f, r.kept hb, x⟩
theorem NS.other {w : World} {g g' c : Nat} {l : List Nat} (h : NS w g c l) (hn : g ≠ g') (i : Nat) (v : Value) : NS (w.setCell ⟨g', i, none⟩ v) g c l := by obtain ⟨f, r, x⟩ := h; exact ⟨f, r.other hn i v, x⟩
theorem NS.alloc {w : World} {g c : Nat} {l : List Nat} (h : NS w g c l) (o : Obj) : NS (w.alloc o) g c l := by obtain ⟨f, r, x⟩ := h; exact ⟨f, r.alloc o, x⟩
theorem NS.drew {w : World} {g c : Nat} {l : List Nat} (h : NS w g c l) : NS w.drew g c l := by obtain ⟨f, r, x⟩ := h; exact ⟨f, r.drew, x⟩
theorem NS.setBoth {w w' : World} {g c : Nat} {l : List Nat} (h : NS w g c l) (hc : c < 256) (hw : ∀ f, Rw w g 65 752 f → Rw w' g 65 752 fun j => if j = 256 + c then mul8 2 c else if j = c then sbx c else f j) : NS w' g (c + 1) l := by
  obtain ⟨f, r, h1, h2, h3⟩ := h
  refine ⟨_, hw f r, fun y hy => ?_, fun y hy => ?_, fun j hj => ?_⟩
  · rw [if_neg (by omega)]
    by_cases e : y = c
    · rw [if_pos e, e]
    · rw [if_neg e, h1 y (by omega)]
  · by_cases e : y = c
    · rw [if_pos (by omega), e]
    · rw [if_neg (by omega), if_neg (by omega), h2 y (by omega)]
  · rw [if_neg (by omega), if_neg (by omega), h3 j hj]
theorem NS.setKey {w : World} {g c : Nat} {l l' : List Nat} (h : NS w g c l) (hc : c ≤ 256) (j x : Nat) (hj : j < 240) (hl : ∀ i, i < 240 → l'.getD i 0 = if i = j then x else l.getD i 0) : NS (w.setCell ⟨g, 512 + j, none⟩ (.int .u8 (x : Nat))) g c l' := by
  obtain ⟨f, r, h1, h2, h3⟩ := h
  refine ⟨_, r.set (512 + j) x, fun y hy => ?_, fun y hy => ?_, fun i hi => ?_⟩
  · rw [if_neg (by omega), h1 y hy]
  · rw [if_neg (by omega), h2 y hy]
  · rw [hl i hi]
    by_cases e : i = j
    · rw [if_pos e, if_pos (by omega)]
    · rw [if_neg e, if_neg (by omega), h3 i hi]
theorem getD_app (l m : List Nat) (j : Nat) : (l ++ m).getD j 0 = if j < l.length then l.getD j 0 else m.getD (j - l.length) 0 := by
  by_cases h : j < l.length
  · rw [if_pos h]; simp only [List.getD, List.getElem?_append_left h]
  · rw [if_neg h]; simp [List.getD, List.getElem?_append_right (Nat.not_lt.1 h)]
/-- One byte more. -/
theorem getD_more (l m : List Nat) (n k : Nat) (hl : l.length = n) (hk : k < m.length) (i : Nat) : (l ++ m.take (k + 1)).getD i 0 = if i = n + k then m.getD k 0 else (l ++ m.take k).getD i 0 := by
  rw [getD_app, getD_app, hl]
  by_cases h : i < n
  · rw [if_pos h, if_pos h, if_neg (by omega)]
  · rw [if_neg h, if_neg h]
    simp only [List.getD, List.getElem?_take]
    by_cases e : i = n + k
    · rw [if_pos e, e, show n + k - n = k from by omega, if_pos (by omega)]
    · rw [if_neg e]
      by_cases h2 : i - n < k
      · rw [if_pos (by omega), if_pos h2]
      · rw [if_neg (by omega), if_neg h2]
end Go.Proofs.Ytgjamfnhkeoedaa
