import Derived.Test.YtmgoabedickooaaGreatDoorP14
namespace Go.Proofs.YtmgoabedickooaaGreatDoor
set_option maxRecDepth 100000
open Go.RowKit
set_option linter.unusedVariables false

/-! The address that a text seems to say. -/
/-- A row of texts. -/
def Tx (w : World) (g : Nat) (ls : List (List Nat)) : Prop := ∃ o, w.heap[g]? = some o ∧ ∀ w' : World, w'.heap[g]? = some o → ∀ i, i < ls.length → w'.cell? ⟨g, i, none⟩ = some (.string (sb (ls.getD i [])))
theorem Tx.cell {w : World} {g : Nat} {ls : List (List Nat)} (h : Tx w g ls) (i : Nat) (hi : i < ls.length) : w.cell? ⟨g, i, none⟩ = some (.string (sb (ls.getD i []))) := by
  obtain ⟨o, h1, h2⟩ := h
  exact h2 w h1 i hi
theorem Tx.at {w w' : World} {g : Nat} {ls : List (List Nat)} (h : Tx w g ls) (e : w'.heap[g]? = w.heap[g]?) : Tx w' g ls := by
  obtain ⟨o, h1, h2⟩ := h
  exact ⟨o, e.trans h1, h2⟩
theorem Tx.lt {w : World} {g : Nat} {ls : List (List Nat)} (h : Tx w g ls) : g < w.heap.size := by
  obtain ⟨o, h1, _⟩ := h
  exact (Array.getElem?_eq_some_iff.1 h1).1
theorem Tx.kept {w w' : World} {g : Nat} {ls : List (List Nat)} (h : Tx w g ls) (hb : Below w.heap.size w w') : Tx w' g ls := h.at (hb.block g h.lt)
theorem own_texts {w : World} {base n : Nat} {v : Value} {ls : List (List Nat)} (h : w.ownsRow base 9 1 v n (tv ls)) (hn : 0 < n) : ∃ g cap, v = .slice (some ⟨g, 0, none⟩) n cap ∧ n ≤ cap ∧ cap ≤ maxLen ∧ base ≤ g ∧ Tx w g ls := by
  obtain ⟨h1, h2⟩ := h
  rw [tv_length, Nat.mul_one] at h1
  rcases h2 with ⟨_, h⟩ | ⟨g, cap, cur, rfl, hb, hg, hnc, hcm, hs, ht⟩
  · omega
  · refine ⟨g, cap, rfl, hnc, hcm, hb, _, hg, fun w' hw i hi => ?_⟩
    rw [cell_of_row w' g i _ _ _ hw]
    have hh : (tv ls)[i]? = some (.string (sb (ls.getD i []))) := by
      simp [tv, List.getD, hi]
    rw [← hh, ← ht, Nat.mul_one, List.getElem?_take_of_lt (by omega)]
    simp
/-- The bytes that a text's parts say. -/
def e1 (x : List Nat) : Int := nm 10 x % 256
def e2 (x : List Nat) : List Int := [Int.tdiv (nm 16 x) 256, nm 16 x % 256]
def gB (l : List Nat) : List Int := if (cu 46 l).length = 4 then (cu 46 l).map e1 else if 8 ≤ (cu 58 l).length then ((cu 58 l).take 8).flatMap e2 else []
def gF (l : List Nat) : Int := if (gB l).length = 0 then 0 else af (gB l).length
theorem e1_in (x : List Nat) : 0 ≤ e1 x ∧ e1 x ≤ 255 := by unfold e1; omega
theorem e2_in (x : List Nat) : ∀ z ∈ e2 x, 0 ≤ z ∧ z ≤ 255 := by
  have h := nm_in 16 (by decide) (by decide) x
  have h2 : 0 ≤ Int.tdiv (nm 16 x) 256 ∧ Int.tdiv (nm 16 x) 256 ≤ 255 := by
    by_cases h0 : 0 ≤ nm 16 x
    · rw [Int.tdiv_eq_ediv_of_nonneg h0]; omega
    · rw [show nm 16 x = -1 by omega]; decide
  intro z hz
  unfold e2 at hz
  simp at hz
  rcases hz with rfl | rfl
  · exact h2
  · omega
theorem e2_len (ls : List (List Nat)) : (ls.flatMap e2).length = 2 * ls.length := by
  induction ls with
  | nil => rfl
  | cons x l ih =>
    rw [List.flatMap_cons, List.length_append, ih]
    simp [e2]
    omega
theorem gB_len (l : List Nat) : (gB l).length = 0 ∨ (gB l).length = 4 ∨ (gB l).length = 16 := by
  unfold gB
  split
  · rename_i h
    rw [List.length_map, h]
    exact .inr (.inl rfl)
  · split
    · rw [e2_len, List.length_take]
      omega
    · exact .inl rfl
theorem gB_byte (l : List Nat) : ∀ z ∈ gB l, 0 ≤ z ∧ z ≤ 255 := by
  intro z hz
  unfold gB at hz
  split at hz
  · obtain ⟨x, _, rfl⟩ := List.mem_map.1 hz
    exact e1_in x
  · split at hz
    · obtain ⟨x, _, h⟩ := List.mem_flatMap.1 hz
      exact e2_in x z h
    · cases hz
theorem cu_pos (c : Nat) (l : List Nat) : 0 < (cu c l).length := by
  unfold cu
  generalize ([] : List Nat) = cur
  induction l generalizing cur with
  | nil => simp [cq]
  | cons x l ih =>
    unfold cq
    split
    · simp
    · exact ih _
theorem getD_out7 (ls : List (List Nat)) (i : Nat) (h : ls.length ≤ i) : ls.getD i [] = [] := by
  unfold List.getD
  rw [List.getElem?_eq_none h]
  rfl
theorem take_texts (ls : List (List Nat)) (j : Nat) (h : j < ls.length) : ls.take (j + 1) = ls.take j ++ [ls.getD j []] := by
  rw [List.take_succ_eq_append_getElem h]
  simp [List.getD, h]
theorem cu_lt (c : Nat) (l : List Nat) (hy : ∀ x ∈ l, x < 256) (i : Nat) : ∀ x ∈ (cu c l).getD i [], x < 256 := by
  intro x hx
  by_cases hi : i < (cu c l).length
  · have : (cu c l).getD i [] = (cu c l)[i] := by simp [List.getD, hi]
    rw [this] at hx
    exact cq_sign c l (· < 256) hy [] (fun x hx => by cases hx) _ (List.getElem_mem hi) x hx
  · rw [getD_out7 _ _ (by omega)] at hx
    cases hx
theorem cu_short (c : Nat) (l : List Nat) (i : Nat) : ((cu c l).getD i []).length ≤ l.length := by
  by_cases hi : i < (cu c l).length
  · have : (cu c l).getD i [] = (cu c l)[i] := by simp [List.getD, hi]
    rw [this]
    have := cq_short c l [] _ (List.getElem_mem hi)
    simpa using this
  · rw [getD_out7 _ _ (by omega)]
    simp
theorem two_src (w : World) (X Y : Value) (t : TypeId) : ∀ (j : Nat) (u : Value), [X, Y][j]? = some u → (w.alloc (.cells #[X, Y] t)).cell? ((⟨w.heap.size, 0, none⟩ : Addr).add j) = some u := by
  intro j u hu
  have hj : j = 0 ∨ j = 1 := by
    have := (List.getElem?_eq_some_iff.1 hu).1
    simp at this
    omega
  rw [Addr.add_lit, Nat.zero_add, cell_of_row _ w.heap.size j _ _ (0, 0) (heap_alloc_new w _)]
  rcases hj with rfl | rfl <;> exact hu
theorem cells_map_succ (ls : List (List Nat)) (j : Nat) (h : j < ls.length) : cells ((ls.take j).map e1) ++ [.int .u8 (e1 (ls.getD j []))] = cells ((ls.take (j + 1)).map e1) := by
  rw [take_texts ls j h, List.map_append]
  unfold cells
  rw [List.map_append]
  rfl
theorem cells_flat_succ (ls : List (List Nat)) (j : Nat) (h : j < ls.length) : cells ((ls.take j).flatMap e2) ++ [.int .u8 (Int.tdiv (nm 16 (ls.getD j [])) 256), .int .u8 (nm 16 (ls.getD j []) % 256)] = cells ((ls.take (j + 1)).flatMap e2) := by
  rw [take_texts ls j h, List.flatMap_append]
  unfold cells
  rw [List.map_append]
  rfl
end Go.Proofs.YtmgoabedickooaaGreatDoor
