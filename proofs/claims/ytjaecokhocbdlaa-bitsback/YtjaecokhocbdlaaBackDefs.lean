import Derived.Test.YtjaecokhocbdlaaEnc
import Derived.Deep.RegionHeld
namespace Go.Proofs.Ytjaecokhocbdlaa
open Go.RowKit
set_option linter.unusedVariables false

/-- A list of numbers that came in. -/
def IsNums (w : World) (a : Option Addr) (n : Nat) (X V : Nat → Int) : Prop :=
  (∀ i, 0 ≤ X i ∧ X i ≤ 18446744073709551615) ∧ (n = 0 ∨ ∃ b off, a = some ⟨b, off, none⟩ ∧ ∀ i, i < n → w.cell? ⟨b, off + i * 2, none⟩ = some (.int .u64 (X i)) ∧ w.cell? ⟨b, off + i * 2 + 1, none⟩ = some (.int .i64 (V i)))

theorem info3 : (Try.prog.info? 3).map (fun i => (i.zero, i.size, i.bytes)) = some (some (.int .i64 0), 1, 8) := by kernel_rfl

theorem bs_drew {w : World} {a : Option Addr} {n : Nat} {zs : List Int} (h : Bs w a n zs) : Bs w.drew a n zs := h
/-- Where each of the first k numbers ends. -/
def ends (F : Nat → Nat) (k : Nat) : List Value := (List.range k).map fun i => .int .i64 (En F (i + 1))
theorem ends_succ (F : Nat → Nat) (k : Nat) : ends F k ++ [.int .i64 (En F (k + 1))] = ends F (k + 1) := by
  simp [ends, List.range_succ]

theorem own_ends {w : World} {base n : Nat} {v : Value} {F : Nat → Nat} (h : w.ownsRow base 3 1 v n (ends F n)) :
    ∃ a c, v = .slice a n c ∧ (n = 0 ∨ ∃ g, a = some ⟨g, 0, none⟩ ∧ ∀ j, j < n → w.cell? ⟨g, j, none⟩ = some (.int .i64 (En F (j + 1)))) := by
  obtain ⟨h1, h2⟩ := h
  rcases h2 with ⟨rfl, rfl⟩ | ⟨g, cap, cur, rfl, _, hg, hnc, hcm, hs, ht⟩
  · exact ⟨none, 0, rfl, .inl rfl⟩
  · refine ⟨_, cap, rfl, .inr ⟨g, rfl, fun j hj => ?_⟩⟩
    rw [cell_of_row w g j cur 3 (0, 0) hg]
    have hq : (ends F n)[j]? = some (.int .i64 (En F (j + 1))) := by simp [ends, hj]
    rw [← ht, Nat.mul_one, List.getElem?_take, if_pos hj] at hq
    simpa using hq
theorem Bs.take {w : World} {a : Option Addr} {n m : Nat} {zs : List Int} (h : Bs w a n zs) (hm : m ≤ n) : Bs w a m (zs.take m) := by
  obtain ⟨h1, h2, h3⟩ := h
  refine ⟨by simp; omega, fun z hz => h2 z (List.mem_of_mem_take hz), ?_⟩
  rcases h3 with h3 | ⟨b, off, rfl, hc⟩
  · exact .inl (by omega)
  · refine .inr ⟨b, off, rfl, fun i hi => ?_⟩
    rw [hc i (by omega)]
    simp only [List.getD, List.getElem?_take, if_pos hi]
theorem tmodL (s : Int) (L : Nat) : -(L : Int) ≤ s.tmod ((L : Int) + 1) ∧ s.tmod ((L : Int) + 1) ≤ (L : Int) := by
  have h1 := Int.lt_tmod_of_pos s (show (0 : Int) < (L : Int) + 1 by omega)
  have h2 := Int.tmod_lt_of_pos s (show (0 : Int) < (L : Int) + 1 by omega)
  omega
theorem remL (t : Int) (L : Nat) : ∃ C : Nat, C ≤ L ∧ (t + (L : Int) + 1) % ((L : Int) + 1) = (C : Int) := by
  have h1 := Int.emod_nonneg (t + (L : Int) + 1) (show (L : Int) + 1 ≠ 0 by omega)
  have h2 := Int.emod_lt_of_pos (t + (L : Int) + 1) (show (0 : Int) < (L : Int) + 1 by omega)
  exact ⟨((t + (L : Int) + 1) % ((L : Int) + 1)).toNat, by omega, by omega⟩

end Go.Proofs.Ytjaecokhocbdlaa
