import Derived.Test.YtajjilheellfeabDoorS8
namespace Go.Proofs.YtajjilheellfeabDoor
open Go.RowKit
set_option linter.unusedVariables false

/-! The law's nearest stamp. -/
def fs (s : Int) : Int := if s < 0 then -(s + 1) else s
def fn (n : Int) : Int := if n.tmod 1000000000 < 0 then -(n.tmod 1000000000) else n.tmod 1000000000
theorem tmod_in (n : Int) : -1000000000 < n.tmod 1000000000 ∧ n.tmod 1000000000 < 1000000000 := by
  have h1 := Int.tmod_lt_of_pos n (show (0 : Int) < 1000000000 by omega)
  have h2 := Int.lt_tmod_of_pos n (show (0 : Int) < 1000000000 by omega)
  omega
theorem fs_in (s : Int) (h : InI s) : 0 ≤ fs s ∧ fs s ≤ 9223372036854775807 := by
  unfold fs InI at *
  split <;> omega
theorem fn_in (n : Int) : 0 ≤ fn n ∧ fn n ≤ 999999999 := by
  have := tmod_in n
  unfold fn
  split <;> omega
theorem results_st1 {fn : Func} {p : Tmp} (h : fn.results = #[.cell p 23]) (tmps : Array Value) (w : World) (g : Nat) (s n : Int)
    (hp : tmps.getD p undef = .pointer (some ⟨g, 0, none⟩)) (hg : Sm w g s n) : (results fn tmps).run Tryd.prog w = .ok (.agg #[.int .i64 s, .int .i64 n]) w :=
  results_cell_row h tmps w g 23 #[.int .i64 s, .int .i64 n] (0, 0) _ hp hg Tryd.underlying23 rfl sizest
theorem ret_agg {a b a' b' : Int} (h1 : a = a') (h2 : b = b') : Ending.returned (.agg #[.int .i64 a, .int .i64 b]) = .returned (.agg #[.int .i64 a', .int .i64 b']) := by rw [h1, h2]
theorem Sm.rowo {w : World} {g g' : Nat} {s n : Int} (h : Sm w g s n) (hn : g ≠ g') (ds : Array Value) : Sm (w.setRow g' ds) g s n := h.at (setRow_other w g' g ds hn)
set_option maxHeartbeats 1000000 in
theorem fit_ (s n : Int) (w : World) (hs : InI s) (hn : InI n) :
    Calls Tryd.prog 8 #[.agg #[.int .i64 s, .int .i64 n]] w fun e w' => e = .returned (.agg #[.int .i64 (fs s), .int .i64 (fn n)]) ∧ Below w.heap.size w w' := by
  have B0 := snew1 w s n
  have m0 := Sm.new w s n
  have ht := tmod_in n
  unfold InI at hs hn
  go_enter Tryd.func8, Tryd.ntmps8
  go_wp2_with fail
  · refine bodyPost_ret (results_st1 rfl _ _ (w.heap.size + 1) (-(s + 1)) (-n.tmod 1000000000) rfl (snew3 w _ _ _ _).2) rfl ⟨ret_agg (by unfold fs; rw [if_pos (by assumption)]) (by unfold fn; rw [if_pos (by assumption)]), snew2 w _ _ _ _⟩
  · refine bodyPost_ret (results_st1 rfl _ _ (w.heap.size + 1) (-(s + 1)) (n.tmod 1000000000) rfl (snew3 w _ _ _ _).2) rfl ⟨ret_agg (by unfold fs; rw [if_pos (by assumption)]) (by unfold fn; rw [if_neg (by omega)]), snew2 w _ _ _ _⟩
  · refine bodyPost_ret (results_st1 rfl _ _ (w.heap.size + 1) s (-n.tmod 1000000000) rfl (snew3 w _ _ _ _).2) rfl ⟨ret_agg (by unfold fs; rw [if_neg (by omega)]) (by unfold fn; rw [if_pos (by assumption)]), snew2 w _ _ _ _⟩
  · refine bodyPost_ret (results_st1 rfl _ _ (w.heap.size + 1) s (n.tmod 1000000000) rfl (snew3 w _ _ _ _).2) rfl ⟨ret_agg (by unfold fs; rw [if_neg (by omega)]) (by unfold fn; rw [if_neg (by omega)]), snew2 w _ _ _ _⟩
end Go.Proofs.YtajjilheellfeabDoor
