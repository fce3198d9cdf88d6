import Derived.Test.YtbkeejapongmlaaGreatDoorBookDefs
namespace Go.Proofs.YtbkeejapongmlaaGreatDoor.Kp
set_option maxRecDepth 100000
open Go.RowKit
set_option linter.unusedVariables false

/-- The book's cells: its pass, its lists of bytes, what they were, what they were grown to; all other lists are nil. -/
def bookRest : List Value := List.replicate 48 (.slice none 0 0)
def bookCells (ps : Int) (v2 v3 v4 : Value) : Array Value := (.int .i64 0 :: .int .i64 ps :: v2 :: v3 :: v4 :: bookRest).toArray
def Bk (w : World) (k : Nat) (ps : Int) (v2 v3 v4 : Value) : Prop := w.heap[k]? = some (.cells (bookCells ps v2 v3 v4) 50 (0, 0))
section
variable {w w' : World} {k : Nat} {ps : Int} {v2 v3 v4 : Value}
theorem Bk.nils (h : Bk w k ps v2 v3 v4) (i : Nat) (h5 : 5 ≤ i) (h53 : i < 53) : w.cell? ⟨k, i, none⟩ = some (.slice none 0 0) := by
  rw [cell_of_row w k i _ _ (0, 0) h]
  obtain ⟨j, rfl⟩ : ∃ j, i = j + 5 := ⟨i - 5, by omega⟩
  have hj : j < 48 := by omega
  unfold bookCells
  rw [List.getElem?_toArray]
  simp only [List.getElem?_cons_succ]
  unfold bookRest
  rw [List.getElem?_replicate, if_pos hj]
theorem Bk.c0 (h : Bk w k ps v2 v3 v4) : w.cell? ⟨k, 0, none⟩ = some (.int .i64 0) := by rw [cell_of_row w k 0 _ _ (0, 0) h]; rfl
theorem Bk.c1 (h : Bk w k ps v2 v3 v4) : w.cell? ⟨k, 1, none⟩ = some (.int .i64 ps) := by rw [cell_of_row w k 1 _ _ (0, 0) h]; rfl
theorem Bk.c2 (h : Bk w k ps v2 v3 v4) : w.cell? ⟨k, 2, none⟩ = some v2 := by rw [cell_of_row w k 2 _ _ (0, 0) h]; rfl
theorem Bk.c3 (h : Bk w k ps v2 v3 v4) : w.cell? ⟨k, 3, none⟩ = some v3 := by rw [cell_of_row w k 3 _ _ (0, 0) h]; rfl
theorem Bk.c4 (h : Bk w k ps v2 v3 v4) : w.cell? ⟨k, 4, none⟩ = some v4 := by rw [cell_of_row w k 4 _ _ (0, 0) h]; rfl
theorem Bk.fz (h : Bk w k ps v2 v3 v4) (i : Nat) : w.frozen? ⟨k, i, none⟩ = false := by unfold Bk at h; simp [World.frozen?, h]
theorem Bk.lt (h : Bk w k ps v2 v3 v4) : k < w.heap.size := (Array.getElem?_eq_some_iff.1 h).1
theorem Bk.at (h : Bk w k ps v2 v3 v4) (hk : w'.heap[k]? = w.heap[k]?) : Bk w' k ps v2 v3 v4 := by unfold Bk; rw [hk]; exact h
theorem Bk.set1 (h : Bk w k ps v2 v3 v4) (q : Int) : Bk (w.setCell ⟨k, 1, none⟩ (.int .i64 q)) k q v2 v3 v4 := by
  unfold Bk at *; simp [World.setCell, Array.getElem?_modify, h, bookCells]
theorem Bk.set2 (h : Bk w k ps v2 v3 v4) (v : Value) : Bk (w.setCell ⟨k, 2, none⟩ v) k ps v v3 v4 := by
  unfold Bk at *; simp [World.setCell, Array.getElem?_modify, h, bookCells]
theorem Bk.set3 (h : Bk w k ps v2 v3 v4) (v : Value) : Bk (w.setCell ⟨k, 3, none⟩ v) k ps v2 v v4 := by
  unfold Bk at *; simp [World.setCell, Array.getElem?_modify, h, bookCells]
theorem Bk.set4 (h : Bk w k ps v2 v3 v4) (v : Value) : Bk (w.setCell ⟨k, 4, none⟩ v) k ps v2 v3 v := by
  unfold Bk at *; simp [World.setCell, Array.getElem?_modify, h, bookCells]
end

/-- The mark of element j of the list of that number. -/
def mk (ps id j : Int) : Int := if ps = 1 then (id * 97 + j * 31) % 256 else (id / 256 * 59 + j * 13 + id % 256 * 3 + 1) % 256
theorem mk_byte (ps id j : Int) : 0 ≤ mk ps id j ∧ mk ps id j ≤ 255 := by unfold mk; split <;> omega

set_option maxHeartbeats 400000 in
theorem byteMark_ (k : Nat) (ps id j : Int) (v2 v3 v4 : Value) (w : World) (h : Bk w k ps v2 v3 v4) (i0 : 0 ≤ id) (i1 : id ≤ 100000) (j0 : 0 ≤ j) (j1 : j ≤ 10000000) :
    Calls Tryz.prog 111 #[.pointer (some ⟨k, 0, none⟩), .int .i64 id, .int .i64 j] w fun en w' => en = .returned (.int .u8 (mk ps id j)) ∧ w' = w := by
  have hc := h.c1
  clear h
  by_cases hp : ps = 1
  · have hm : Hid (mk ps id j = (id * 97 + j * 31) % 256) := if_pos hp
    have hb : (ps == 1) = true := by rw [beq_iff_eq]; exact hp
    clear hp
    generalize mk ps id j = z at *
    go_enter Tryz.func111, Tryz.ntmps111
    go_wp2
    go_ret
    exact ⟨by rw [hm.out]; rfl, rfl⟩
  · have hm : Hid (mk ps id j = (id / 256 * 59 + j * 13 + id % 256 * 3 + 1) % 256) := if_neg hp
    have hb : (ps == 1) = false := by rw [beq_eq_false_iff_ne]; exact hp
    clear hp
    generalize mk ps id j = z at *
    go_enter Tryz.func111, Tryz.ntmps111
    go_wp2
    go_ret
    exact ⟨by rw [hm.out]; rfl, rfl⟩
end Go.Proofs.YtbkeejapongmlaaGreatDoor.Kp
