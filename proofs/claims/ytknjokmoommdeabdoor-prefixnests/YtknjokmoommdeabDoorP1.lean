import Derived.Test.YtknjokmoommdeabDoorPTxt
namespace Go.Proofs.YtknjokmoommdeabDoor
open Go.RowKit
set_option linter.unusedVariables false

theorem anew (w : World) (F H L : Int) : Below w.heap.size w (w.alloc (.cells #[.int .i64 F, .int .u64 H, .int .u64 L] 24)) := (Below.refl _ _).alloc (Nat.le_refl _) _
theorem pnew (w : World) (F H L B : Int) : Below w.heap.size w (w.alloc (.cells #[.int .i64 F, .int .u64 H, .int .u64 L, .int .i64 B] 26)) := (Below.refl _ _).alloc (Nat.le_refl _) _
/-- An address in a variable; a prefix in a variable. -/
def Am (w : World) (g : Nat) (F H L : Int) : Prop := w.heap[g]? = some (.cells #[.int .i64 F, .int .u64 H, .int .u64 L] 24 (0, 0))
def Pm (w : World) (g : Nat) (F H L B : Int) : Prop := w.heap[g]? = some (.cells #[.int .i64 F, .int .u64 H, .int .u64 L, .int .i64 B] 26 (0, 0))
section
variable {w w' : World} {g : Nat} {F H L B : Int}
theorem Am.lt (h : Am w g F H L) : g < w.heap.size := (Array.getElem?_eq_some_iff.1 h).1
theorem Am.c0 (h : Am w g F H L) : w.cell? ⟨g, 0, none⟩ = some (.int .i64 F) := (cell_of_row w g 0 _ _ (0, 0) h).trans rfl
theorem Am.c1 (h : Am w g F H L) : w.cell? ⟨g, 1, none⟩ = some (.int .u64 H) := (cell_of_row w g 1 _ _ (0, 0) h).trans rfl
theorem Am.c2 (h : Am w g F H L) : w.cell? ⟨g, 2, none⟩ = some (.int .u64 L) := (cell_of_row w g 2 _ _ (0, 0) h).trans rfl
theorem Am.at (h : Am w g F H L) (e : w'.heap[g]? = w.heap[g]?) : Am w' g F H L := by unfold Am at *; rw [e]; exact h
theorem Am.kept (h : Am w g F H L) (hb : Below w.heap.size w w') : Am w' g F H L := h.at (hb.block g h.lt)
theorem Am.new (w : World) (F H L : Int) : Am (w.alloc (.cells #[.int .i64 F, .int .u64 H, .int .u64 L] 24)) w.heap.size F H L := heap_alloc_new w _
theorem Am.alloc (h : Am w g F H L) (o : Obj) : Am (w.alloc o) g F H L := h.at (Below.heap_alloc _ _ _ h.lt)
theorem Pm.lt (h : Pm w g F H L B) : g < w.heap.size := (Array.getElem?_eq_some_iff.1 h).1
theorem Pm.c0 (h : Pm w g F H L B) : w.cell? ⟨g, 0, none⟩ = some (.int .i64 F) := (cell_of_row w g 0 _ _ (0, 0) h).trans rfl
theorem Pm.c1 (h : Pm w g F H L B) : w.cell? ⟨g, 1, none⟩ = some (.int .u64 H) := (cell_of_row w g 1 _ _ (0, 0) h).trans rfl
theorem Pm.c2 (h : Pm w g F H L B) : w.cell? ⟨g, 2, none⟩ = some (.int .u64 L) := (cell_of_row w g 2 _ _ (0, 0) h).trans rfl
theorem Pm.c3 (h : Pm w g F H L B) : w.cell? ⟨g, 3, none⟩ = some (.int .i64 B) := (cell_of_row w g 3 _ _ (0, 0) h).trans rfl
theorem Pm.at (h : Pm w g F H L B) (e : w'.heap[g]? = w.heap[g]?) : Pm w' g F H L B := by unfold Pm at *; rw [e]; exact h
theorem Pm.kept (h : Pm w g F H L B) (hb : Below w.heap.size w w') : Pm w' g F H L B := h.at (hb.block g h.lt)
theorem Pm.new (w : World) (F H L B : Int) : Pm (w.alloc (.cells #[.int .i64 F, .int .u64 H, .int .u64 L, .int .i64 B] 26)) w.heap.size F H L B := heap_alloc_new w _
theorem Pm.alloc (h : Pm w g F H L B) (o : Obj) : Pm (w.alloc o) g F H L B := h.at (Below.heap_alloc _ _ _ h.lt)
end
/-- Which of the two numbers a bit lies in. -/
theorem bt_hi {n i : Nat} {H L : Int} (hL : InU L) (h : 64 ≤ n - 1 - i) : bt n (ad H L) i = decide (H / 2 ^ (n - 1 - i - 64) % 2 = 1) := by
  unfold bt ad
  obtain ⟨k, hk⟩ : ∃ k, n - 1 - i = 64 + k := ⟨n - 1 - i - 64, by omega⟩
  rw [hk, Nat.add_sub_cancel_left]
  have e : (H * 18446744073709551616 + L) / 2 ^ (64 + k) = H / 2 ^ k := by
    rw [Int.pow_add, ← Int.ediv_ediv_of_nonneg (by decide)]
    have h1 : (H * 18446744073709551616 + L) / 2 ^ 64 = H := by
      unfold InU at hL
      have : (2 : Int) ^ 64 = 18446744073709551616 := by decide
      rw [this]
      omega
    rw [h1]
  rw [e]
theorem bt_lo {n i : Nat} {H L : Int} (h : n - 1 - i < 64) : bt n (ad H L) i = decide (L / 2 ^ (n - 1 - i) % 2 = 1) := by
  unfold bt ad
  generalize n - 1 - i = k at *
  obtain ⟨m, hm⟩ : ∃ m, 64 = k + (m + 1) := ⟨63 - k, by omega⟩
  have e : (H * 18446744073709551616 + L) / 2 ^ k = H * 2 ^ m * 2 + L / 2 ^ k := by
    have e1 : H * 18446744073709551616 = 2 ^ k * (H * 2 ^ m * 2) := by
      have : (18446744073709551616 : Int) = 2 ^ k * (2 ^ m * 2) := by
        rw [← Int.pow_succ, ← Int.pow_add, ← hm]
        decide
      rw [this, Int.mul_left_comm, Int.mul_assoc]
    rw [e1, Int.add_comm, Int.add_mul_ediv_left _ _ (by have := pow_pos2 k; omega), Int.add_comm]
  rw [e]
  refine decide_eq_decide.2 ?_
  omega
theorem and_one (x : Int) (h : InU x) : (bits BinOp.and .u64 x 1 == 1) = decide (x % 2 = 1) := by
  obtain ⟨a, rfl⟩ := Int.eq_ofNat_of_zero_le h.1
  have h2 := h.2
  have e := bits_and_u64_nat a 1 (by omega) (by omega)
  have e' : bits BinOp.and .u64 (a : Int) 1 = ((a % 2 : Nat) : Int) := by rw [← Nat.and_one_is_mod]; exact e
  rw [e', Bool.beq_eq_decide_eq]
  exact decide_eq_decide.2 (by omega)
theorem div_in {x : Int} (h : InU x) (k : Nat) : InU (x / 2 ^ k) := by
  have hp := pow_pos2 k
  exact ⟨Int.ediv_nonneg h.1 (by omega), Int.le_trans (Int.ediv_le_self _ h.1) h.2⟩
end Go.Proofs.YtknjokmoommdeabDoor
