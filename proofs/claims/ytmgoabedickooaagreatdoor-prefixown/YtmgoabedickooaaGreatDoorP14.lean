import Derived.Test.YtmgoabedickooaaGreatDoorP13
namespace Go.Proofs.YtmgoabedickooaaGreatDoor
set_option maxRecDepth 100000
open Go.RowKit
set_option linter.unusedVariables false

/-! A text cut at a sign. -/
def cq (c : Nat) (cur : List Nat) : List Nat → List (List Nat)
  | [] => [cur]
  | x :: l => if x = c then cur :: cq c [] l else cq c (cur ++ [x]) l
def cu (c : Nat) (l : List Nat) : List (List Nat) := cq c [] l
def tv (l : List (List Nat)) : List Value := l.map fun x => Value.string (sb x)
theorem tv_length (l : List (List Nat)) : (tv l).length = l.length := by simp [tv]
theorem sb_cut (l : List Nat) (a b : Nat) : (sb l).extract a b = sb ((l.take b).drop a) := by
  apply ByteArray.ext
  unfold sb
  rw [ByteArray.data_extract]
  simp only [List.extract_toArray, List.extract_eq_take_drop, List.map_drop, List.map_take, List.drop_take]
theorem cq_len (c : Nat) (l : List Nat) : ∀ cur, (cq c cur l).length ≤ l.length + 1 := by
  induction l with
  | nil => intro cur; simp [cq]
  | cons x l ih =>
    intro cur
    unfold cq
    split
    · have := ih []
      simp only [List.length_cons]
      omega
    · have := ih (cur ++ [x])
      simp only [List.length_cons]
      omega
theorem cq_sign (c : Nat) (l : List Nat) (P : Nat → Prop) (hl : ∀ x ∈ l, P x) : ∀ cur, (∀ x ∈ cur, P x) → ∀ y ∈ cq c cur l, ∀ x ∈ y, P x := by
  induction l with
  | nil =>
    intro cur hc y hy
    simp [cq] at hy
    subst hy
    exact hc
  | cons a l ih =>
    intro cur hc y hy
    unfold cq at hy
    have hl' : ∀ x ∈ l, P x := fun x hx => hl x (List.mem_cons_of_mem _ hx)
    split at hy
    · rcases List.mem_cons.1 hy with rfl | hy
      · exact hc
      · exact ih hl' [] (fun x hx => by cases hx) y hy
    · refine ih hl' (cur ++ [a]) (fun x hx => ?_) y hy
      rcases List.mem_append.1 hx with h | h
      · exact hc x h
      · rw [List.mem_singleton.1 h]
        exact hl a (List.mem_cons_self ..)
theorem cq_short (c : Nat) (l : List Nat) : ∀ cur, ∀ y ∈ cq c cur l, y.length ≤ cur.length + l.length := by
  induction l with
  | nil =>
    intro cur y hy
    simp [cq] at hy
    subst hy
    simp
  | cons a l ih =>
    intro cur y hy
    unfold cq at hy
    split at hy
    · rcases List.mem_cons.1 hy with rfl | hy
      · simp
      · have := ih [] y hy
        simp only [List.length_cons, List.length_nil] at *
        omega
    · have := ih _ y hy
      simp only [List.length_cons, List.length_append, List.length_nil] at *
      omega
theorem drop_cons7 (l : List Nat) (j : Nat) (h : j < l.length) : l.drop j = l.getD j 0 :: l.drop (j + 1) := by
  rw [List.drop_eq_getElem_cons h]
  simp [List.getD, h]
theorem cq_hit (c : Nat) (l : List Nat) (j : Nat) (cur : List Nat) (h : j < l.length) (e : l.getD j 0 = c) : cq c cur (l.drop j) = cur :: cq c ((l.take (j + 1)).drop (j + 1)) (l.drop (j + 1)) := by
  have e0 : (l.take (j + 1)).drop (j + 1) = [] := List.drop_eq_nil_of_le (by rw [List.length_take]; omega)
  rw [drop_cons7 l j h, e0, cq, if_pos e]
theorem cq_miss (c : Nat) (l : List Nat) (j p : Nat) (hp : p ≤ j) (h : j < l.length) (e : l.getD j 0 ≠ c) : cq c ((l.take j).drop p) (l.drop j) = cq c ((l.take (j + 1)).drop p) (l.drop (j + 1)) := by
  rw [drop_cons7 l j h]
  rw [cq, if_neg e]
  rw [take_snoc7 l j h, List.drop_append_of_le_length (by rw [List.length_take]; omega)]
theorem one_src (w : World) (X : Value) (t : TypeId) : ∀ (j : Nat) (u : Value), [X][j]? = some u → (w.alloc (.cells #[X] t)).cell? ((⟨w.heap.size, 0, none⟩ : Addr).add j) = some u := by
  intro j u hu
  have hj : j = 0 := by
    have := (List.getElem?_eq_some_iff.1 hu).1
    simp at this
    exact this
  subst hj
  rw [Addr.add_lit, Nat.zero_add, cell_of_row _ w.heap.size 0 _ _ (0, 0) (heap_alloc_new w _)]
  exact hu
theorem info_s : (Tryz.prog.info? 9).map (fun i => (i.zero, i.size, i.bytes)) = some (some (.string ⟨#[]⟩), 1, 16) := by kernel_rfl
end Go.Proofs.YtmgoabedickooaaGreatDoor
