import Derived.Test.YtbdmgciibfgmbaaGreatDoorS2
namespace Go.Proofs.YtbdmgciibfgmbaaGreatDoor
open Go.RowKit
set_option linter.unusedVariables false
set_option maxRecDepth 100000

theorem val_take (l : List Int) (j : Nat) (h : j < l.length) : val (l.take (j + 1)) = val (l.take j) * 256 + l.getD j 0 := by
  rw [List.take_succ_eq_append_getElem h, val_snoc]
  simp [List.getD, h]
theorem getD_byte6 {zs : List Int} (h : ∀ z ∈ zs, 0 ≤ z ∧ z ≤ 255) (i : Nat) : 0 ≤ zs.getD i 0 ∧ zs.getD i 0 ≤ 255 := by
  simp only [List.getD]
  cases e : zs[i]? with
  | none => simp
  | some z => exact h z (List.mem_of_getElem? e)
theorem val_up (l : List Int) (hb : ∀ z ∈ l, 0 ≤ z ∧ z ≤ 255) (k : Nat) : ∀ j, j ≤ k → val (l.take j) ≤ val (l.take k) := by
  induction k with
  | zero => intro j hj; rw [show j = 0 from by omega]; exact Int.le_refl _
  | succ k ih =>
    intro j hj
    by_cases e : j = k + 1
    · rw [e]; exact Int.le_refl _
    · have h1 := ih j (by omega)
      have h2 := (val_bound (l.take k) (fun z hz => hb z (List.mem_of_mem_take hz))).1
      by_cases hk : k < l.length
      · rw [val_take l k hk]
        have := getD_byte6 hb k
        omega
      · rw [List.take_of_length_le (show l.length ≤ k + 1 by omega)]
        rw [List.take_of_length_le (show l.length ≤ k by omega)] at h1
        exact h1
theorem gs_first (l : List Int) (hb : ∀ z ∈ l, 0 ≤ z ∧ z ≤ 255) (hl : l.length = 12) : gs l ≤ 9223372036854775807 ↔ l.getD 0 0 ≤ 127 := by
  match l, hl with
  | a :: r, hl =>
    have ha := hb a (by simp)
    have hr := val_bound (r.take 7) (fun z hz => hb z (by simp [List.mem_of_mem_take hz]))
    have e : gs (a :: r) = a * 256 ^ (r.take 7).length + val (r.take 7) := by
      unfold gs
      rw [List.take_succ_cons, val_cons]
    have hl7 : (r.take 7).length = 7 := by simp at hl; simp; omega
    rw [hl7] at e hr
    rw [e]
    show _ ↔ a ≤ 127
    have : (256 : Int) ^ 7 = 72057594037927936 := by decide
    omega
theorem ret_g {a b a' b' c c' : Int} (h1 : a = a') (h2 : b = b') (h3 : c = c') : Ending.returned (.tuple #[.agg #[.int .i64 a, .int .i64 b], .int .i64 c]) = .returned (.tuple #[.agg #[.int .i64 a', .int .i64 b'], .int .i64 c']) := by rw [h1, h2, h3]
def qs (l : List Int) : Int := if gok l then gs l else 0
def qn (l : List Int) : Int := if gok l then gn l else 0
def qe (l : List Int) : Int := if gok l then 0 else 60
theorem q_bad {l : List Int} (h : gok l = false) : 0 = qs l ∧ 0 = qn l ∧ 60 = qe l := by unfold qs qn qe; rw [h]; exact ⟨rfl, rfl, rfl⟩
theorem q_good {l : List Int} (h : gok l = true) : gs l = qs l ∧ gn l = qn l ∧ 0 = qe l := by unfold qs qn qe; rw [h]; exact ⟨rfl, rfl, rfl⟩
end Go.Proofs.YtbdmgciibfgmbaaGreatDoor
