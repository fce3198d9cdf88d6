import Derived.Test.YtknjokmoommdeabDoorQ8
namespace Go.Proofs.YtknjokmoommdeabDoor
open Go.RowKit
set_option linter.unusedVariables false

theorem Bs.cut {w : World} {a : Option Addr} {n m : Nat} {zs : List Int} (h : Bs w a n zs) (hm : m ≤ n) : Bs w a m (zs.take m) := by
  refine ⟨by rw [List.length_take, h.1]; omega, fun z hz => h.2.1 z (List.mem_of_mem_take hz), ?_⟩
  rcases h.2.2 with h0 | ⟨b, off, rfl, hc⟩
  · exact .inl (by omega)
  · refine .inr ⟨b, off, rfl, fun i hi => ?_⟩
    rw [hc i (by omega)]
    simp only [List.getD, List.getElem?_take, if_pos hi]
/-- A new reader, all its memory new: its bytes lie below it. -/
theorem newReader7 (a : Option Addr) (n c : Nat) (zs : List Int) (w : World) (hb : Bs w a n zs) (ha : a = none → c = 0) (hn : n ≤ 1000000) (hnc : n ≤ c) (h0 : 0 < w.heap.size) :
    Calls Tryd.prog 26 #[.slice a n c] w fun en w' => ∃ r g, en = .returned (.pointer (some ⟨r, 0, none⟩)) ∧ RS w' r g zs 0 0 ∧ w.heap.size ≤ r ∧ g < r ∧ Below w.heap.size w w' := by
  cases a with
  | none =>
    obtain rfl : c = 0 := ha rfl
    obtain rfl : n = 0 := by omega
    obtain rfl : zs = [] := List.eq_nil_of_length_eq_zero hb.1
    refine (newReader_nil w).mono ?_
    rintro en w' ⟨rfl, rfl⟩
    exact ⟨w.heap.size, 0, rfl, .inl ⟨rfl, by omega, none, 0, 0, heap_alloc_new w _, rfl, Nat.le_refl _, by unfold maxLen; omega, by simp, .inl ⟨rfl, rfl, rfl⟩⟩, Nat.le_refl _, h0, (Below.refl _ _).alloc (Nat.le_refl _) _⟩
  | some x =>
    refine (newReader_some x n c zs w hb hn).mono ?_
    rintro en w' ⟨g, cap, cur, w1, rfl, hbg, hgg, hnc', hcm, hcs, ht, hg, rfl⟩
    have hs := hg.size
    have hlt : g < w1.heap.size := (Array.getElem?_eq_some_iff.1 hgg).1
    refine ⟨w1.heap.size, g, rfl, .inl ⟨rfl, by omega, some ⟨g, 0, none⟩, n, cap, heap_alloc_new w1 _, hb.1, hnc', hcm, hb.2.1, .inr ⟨0, cur, rfl, ?_, by omega, ?_⟩⟩, hs, hlt, (below_of_grown hg).alloc hs _⟩
    · rw [Below.heap_alloc w1 _ g hlt]; exact hgg
    · simpa using ht
end Go.Proofs.YtknjokmoommdeabDoor
