import Derived.Test.YtajjilheellfeabDoorS5
namespace Go.Proofs.YtajjilheellfeabDoor
open Go.RowKit
set_option linter.unusedVariables false

/-! What a text is. -/
def zs (l : List Nat) : Nat := dv (l.take (l.length - 10))
def zn (l : List Nat) : Nat := dv (l.drop (l.length - 10 + 1))
def pok (l : List Nat) : Bool := decide (zs l ≤ 9223372036854775807 ∧ vld (zs l) (zn l) = true ∧ pr (zs l) (zn l) = l)
def xs (l : List Nat) : Int := if pok l then zs l else 0
def xn (l : List Nat) : Int := if pok l then zn l else 0
def xe (l : List Nat) : Int := if pok l then 0 else 60
theorem x_bad {l : List Nat} (h : pok l = false) : 0 = xs l ∧ 0 = xn l ∧ 60 = xe l := by unfold xs xn xe; rw [h]; exact ⟨rfl, rfl, rfl⟩
theorem x_good {l : List Nat} (h : pok l = true) : (zs l : Int) = xs l ∧ (zn l : Int) = xn l ∧ 0 = xe l := by unfold xs xn xe; rw [h]; exact ⟨rfl, rfl, rfl⟩
theorem dn9 (N : Nat) (h : N ≤ 999999999) : dn N 9 = 9 := by
  have := (cnt_lt 9 N).2 (by omega)
  unfold dn
  rw [Nat.max_def]
  split <;> omega
theorem dn19 (S : Nat) (h : S ≤ 9223372036854775807) : 1 ≤ dn S 1 ∧ dn S 1 ≤ 19 := by
  have := (cnt_lt 19 S).2 (by have : (10 : Nat) ^ 19 = 10000000000000000000 := by decide
                              omega)
  unfold dn
  rw [Nat.max_def]
  split <;> omega
/-- The shape of a stamp's text. -/
theorem pr_shape (S N : Nat) (hS : S ≤ 9223372036854775807) (hN : N ≤ 999999999) : ∃ a b, pr S N = a ++ 46 :: b ∧ a = dgs S 1 ∧ b = dgs N 9 ∧ b.length = 9 ∧ 1 ≤ a.length ∧ a.length ≤ 19 ∧ (∀ x ∈ a, 48 ≤ x ∧ x ≤ 57) ∧ (∀ x ∈ b, 48 ≤ x ∧ x ≤ 57) := by
  refine ⟨dgs S 1, dgs N 9, ?_, rfl, rfl, ?_, ?_, ?_, ?_, ?_⟩
  · unfold pr vld
    rw [if_pos (decide_eq_true ⟨by omega, by omega, by omega⟩), Int.toNat_natCast, Int.toNat_natCast]
  · unfold dgs; rw [dl_length, dn9 N hN]
  · unfold dgs; rw [dl_length]; exact (dn19 S hS).1
  · unfold dgs; rw [dl_length]; exact (dn19 S hS).2
  · exact dl_digit _ _
  · exact dl_digit _ _
theorem pok_shape (l : List Nat) (h : pok l = true) : 11 ≤ l.length ∧ l.length ≤ 29 ∧ l.getD (l.length - 10) 0 = 46 ∧ zs l ≤ 9223372036854775807 ∧ ∀ i, i < l.length → i ≠ l.length - 10 → 48 ≤ l.getD i 0 ∧ l.getD i 0 ≤ 57 := by
  obtain ⟨h1, h2, h3⟩ := of_decide_eq_true (show decide _ = true from h)
  obtain ⟨_, _, hN⟩ := of_decide_eq_true (show decide _ = true from h2)
  obtain ⟨a, b, e, _, _, hb, ha1, ha2, da, db⟩ := pr_shape (zs l) (zn l) h1 (by omega)
  rw [h3] at e
  have hl : l.length = a.length + 10 := by rw [e, List.length_append, List.length_cons, hb]
  refine ⟨by omega, by omega, ?_, h1, fun i hi hne => ?_⟩
  · rw [show l.length - 10 = a.length from by omega, e]
    simp [List.getD]
  · rw [e]
    by_cases hia : i < a.length
    · have : (a ++ 46 :: b).getD i 0 = a[i] := by simp [List.getD, List.getElem?_append_left hia, hia]
      rw [this]
      exact da _ (List.getElem_mem hia)
    · obtain ⟨k, rfl⟩ : ∃ k, i = a.length + 1 + k := ⟨i - a.length - 1, by omega⟩
      have hk : k < b.length := by omega
      have : (a ++ 46 :: b).getD (a.length + 1 + k) 0 = b[k] := by
        simp only [List.getD, List.getElem?_append_right (show a.length ≤ a.length + 1 + k by omega), show a.length + 1 + k - a.length = k + 1 from by omega, List.getElem?_cons_succ]
        simp [hk]
      rw [this]
      exact db _ (List.getElem_mem hk)
theorem dv_take (l : List Nat) (j : Nat) (h : j < l.length) : dv (l.take (j + 1)) = dv (l.take j) * 10 + (l.getD j 0 - 48) := by
  rw [List.take_succ_eq_append_getElem h, dv_snoc]
  simp [List.getD, h]
theorem dv_up (l : List Nat) (k : Nat) : ∀ j, j ≤ k → dv (l.take j) ≤ dv (l.take k) := by
  induction k with
  | zero => intro j hj; rw [show j = 0 from by omega]; exact Nat.le_refl _
  | succ k ih =>
    intro j hj
    by_cases e : j = k + 1
    · rw [e]; exact Nat.le_refl _
    · have h1 := ih j (by omega)
      by_cases hk : k < l.length
      · rw [dv_take l k hk]; omega
      · rw [List.take_of_length_le (show l.length ≤ k + 1 by omega)]
        rw [List.take_of_length_le (show l.length ≤ k by omega)] at h1
        exact h1
theorem sb_get (l : List Nat) (hy : ∀ x ∈ l, x < 256) (i : Nat) (h : i < l.length) : ∃ h' : i < (sb l).data.size, ((sb l).data[i].toNat) = l.getD i 0 := by
  refine ⟨by simp [sb]; exact h, ?_⟩
  simp [sb, List.getD, h]
  have := hy l[i] (List.getElem_mem h)
  omega
end Go.Proofs.YtajjilheellfeabDoor
