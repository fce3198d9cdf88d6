import Derived.Test.YtmgoabedickooaaGreatDoorL3
namespace Go.Proofs.YtmgoabedickooaaGreatDoor
set_option maxRecDepth 100000
open Go.RowKit
set_option linter.unusedVariables false

/-- Texts joined by a sign. -/
def jn (c : Nat) : List (List Nat) → List Nat
  | [] => []
  | [x] => x
  | x :: y :: r => x ++ c :: jn c (y :: r)
theorem join_sb (c : Nat) (ls : List (List Nat)) : (⟨(Lib.join ((ls.map sb).map (·.data.toList)) (sb [c]).data.toList).toArray⟩ : ByteArray) = sb (jn c ls) := by
  have e : ∀ ls : List (List Nat), Lib.join ((ls.map sb).map (·.data.toList)) (sb [c]).data.toList = (jn c ls).map UInt8.ofNat := by
    intro ls
    induction ls with
    | nil => rfl
    | cons x r ih =>
      cases r with
      | nil => simp [Lib.join, List.intercalate, jn, sb]
      | cons y r =>
        rw [jn, List.map_append]
        show _ = x.map UInt8.ofNat ++ (UInt8.ofNat c :: (jn c (y :: r)).map UInt8.ofNat)
        rw [← ih]
        simp [Lib.join, List.intercalate, sb]
  rw [e]
  rfl
theorem join_len (c : Nat) (ls : List (List Nat)) (h : ∀ x ∈ ls, x.length ≤ 4) : (jn c ls).length ≤ 5 * ls.length := by
  induction ls with
  | nil => simp [jn]
  | cons x r ih =>
    cases r with
    | nil => have := h x (by simp); simp [jn]; omega
    | cons y r =>
      have h1 := h x (by simp)
      have h2 := ih (fun z hz => h z (by simp [hz]))
      rw [jn, List.length_append, List.length_cons]
      simp only [List.length_cons] at h2 ⊢
      omega
theorem joinLib_len (c : Nat) (ls : List (List Nat)) : (Lib.join ((ls.map sb).map (·.data.toList)) (sb [c]).data.toList).length = (jn c ls).length := by
  have := congrArg (fun b : ByteArray => b.data.size) (join_sb c ls)
  simpa [sb] using this
theorem tv_cell {w : World} {g n : Nat} {cur : Array Value} {ls : List (List Nat)} (hg : w.heap[g]? = some (.cells cur 9 (0, 0))) (ht : cur.toList.take n = tv ls) (hn : ls.length = n) (j : Nat) (x : ByteArray) (h : (ls.map sb)[j]? = some x) : w.cell? ⟨g, 0 + j, none⟩ = some (.string x) := by
  rw [Nat.zero_add, cell_of_row w g j cur _ (0, 0) hg]
  have hj : j < ls.length := by have := (List.getElem?_eq_some_iff.1 h).1; simpa using this
  have h1 : (tv ls)[j]? = some (.string x) := by
    simp only [tv, List.getElem?_map] at h ⊢
    cases q : ls[j]? with
    | none => rw [q] at h; simp at h
    | some y => rw [q] at h; simp at h; simp [h]
  rw [← ht, List.getElem?_take, if_pos (by omega)] at h1
  simpa using h1
/-- strings.Join of an own row of texts. -/
theorem join_ (c m : Nat) (v : Value) (ls : List (List Nat)) (B : Nat) (w : World) (hown : w.ownsRow B 9 1 v m (tv ls)) (hm : ls.length = m) (hs : m ≤ 16) (hx : ∀ x ∈ ls, x.length ≤ 4) :
    Calls Tryz.prog 121 #[v, .string (sb [c])] w fun e w' => e = .returned (.string (sb (jn c ls))) ∧ Below w.heap.size w w' := by
  have hjl := join_len c ls hx
  rcases hown.2 with ⟨rfl, h0⟩ | ⟨g, cap, cur, rfl, hb, hg, hnc, hcm, hsz, ht⟩
  · obtain rfl : m = 0 := h0
    obtain rfl : ls = [] := List.eq_nil_of_length_eq_zero hm
    refine (Tryz.strings_Join_none none 0 (sb [c]) w).mono ?_
    rintro e w' ⟨rfl, rfl⟩
    exact ⟨rfl, Below.refl _ _⟩
  · rw [Nat.mul_one] at ht hsz
    have hlt : g < w.heap.size := (Array.getElem?_eq_some_iff.1 hg).1
    have k := Tryz.strings_Join g 0 cap (ls.map sb) (sb [c]) w (fun j x h => tv_cell hg ht hm j x h) hlt (by rw [List.length_map]; omega) (by rw [List.length_map]; omega) (by rw [joinLib_len]; omega)
    rw [List.length_map, hm] at k
    refine k.mono ?_
    rintro e w' ⟨rfl, g2⟩
    exact ⟨by rw [join_sb], g2⟩
end Go.Proofs.YtmgoabedickooaaGreatDoor
