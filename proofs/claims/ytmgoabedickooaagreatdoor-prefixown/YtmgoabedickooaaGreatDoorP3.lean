import Derived.Test.YtmgoabedickooaaGreatDoorP2
namespace Go.Proofs.YtmgoabedickooaaGreatDoor
set_option maxRecDepth 100000
open Go.RowKit
set_option linter.unusedVariables false

theorem panew (w : World) (F H L B F' H' L' : Int) : Below w.heap.size w ((w.alloc (.cells #[.int .i64 F, .int .u64 H, .int .u64 L, .int .i64 B] 50)).alloc (.cells #[.int .i64 F', .int .u64 H', .int .u64 L'] 48)) ∧ Pm ((w.alloc (.cells #[.int .i64 F, .int .u64 H, .int .u64 L, .int .i64 B] 50)).alloc (.cells #[.int .i64 F', .int .u64 H', .int .u64 L'] 48)) w.heap.size F H L B ∧ Am ((w.alloc (.cells #[.int .i64 F, .int .u64 H, .int .u64 L, .int .i64 B] 50)).alloc (.cells #[.int .i64 F', .int .u64 H', .int .u64 L'] 48)) (w.heap.size + 1) F' H' L' := by
  refine ⟨(pnew w F H L B).alloc (by simp) _, (Pm.new w F H L B).alloc _, ?_⟩
  have := Am.new (w.alloc (.cells #[.int .i64 F, .int .u64 H, .int .u64 L, .int .i64 B] 50)) F' H' L'
  simpa using this
theorem ho_bad {F H L B F' H' L' : Int} (h : vp F H L B = false ∨ va F' H' L' = false ∨ F ≠ F') : ho F H L B F' H' L' = false := by
  unfold ho
  rcases h with h | h | h
  · rw [h]; rfl
  · rw [h, Bool.false_and, Bool.and_false]
  · rw [decide_eq_false (fun h' => h h'.1), Bool.and_false, Bool.and_false]
theorem ho_iff {F H L B H' L' : Int} (h : vp F H L B = true) (h' : va F H' L' = true) (hH : InU H) (hL : InU L) (hH' : InU H') (hL' : InU L') (b : Nat) (hb : B = b) : ho F H L B F H' L' = true ↔ ∀ i, i < b → bt (nb F) (ad H L) i = bt (nb F) (ad H' L') i := by
  obtain ⟨h1, h2, h3, _⟩ := vp_in h
  rw [head_same (nb F) _ _ (va_in h1 hH hL).2 (va_in h' hH' hL').2 b (by omega)]
  unfold ho
  rw [h, h', Bool.true_and, Bool.true_and, decide_eq_true_iff, hb, Int.toNat_natCast]
  exact ⟨fun h => h.2, fun h => ⟨rfl, h⟩⟩
end Go.Proofs.YtmgoabedickooaaGreatDoor
