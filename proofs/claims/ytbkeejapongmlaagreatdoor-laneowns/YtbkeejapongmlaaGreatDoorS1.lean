import Derived.Test.YtbkeejapongmlaaGreatDoorSMath
import Derived.Test.YtbkeejapongmlaaGreatDoorABytes
import Derived.Laws.ResultCell
import Derived.Laws.Tables
namespace Go.Proofs.YtbkeejapongmlaaGreatDoor
set_option maxRecDepth 100000
open Go.RowKit
set_option linter.unusedVariables false

theorem snew1 (w : World) (s n : Int) : Below w.heap.size w (w.alloc (.cells #[.int .i64 s, .int .i64 n] 25)) := (Below.refl _ _).alloc (Nat.le_refl _) _
theorem snew2 (w : World) (s n s' n' : Int) : Below w.heap.size w ((w.alloc (.cells #[.int .i64 s, .int .i64 n] 25)).alloc (.cells #[.int .i64 s', .int .i64 n'] 25)) := (snew1 w s n).alloc (by simp) _
/-- Are the two one? -/
def sme (s n s' n' : Int) : Bool := decide (s = s' ∧ n = n')
set_option maxHeartbeats 400000 in
theorem sameStamp_ (s n s' n' : Int) (w : World) :
    Calls Tryz.prog 41 #[.agg #[.int .i64 s, .int .i64 n], .agg #[.int .i64 s', .int .i64 n']] w fun e w' => e = .returned (.bool (sme s n s' n')) ∧ Below w.heap.size w w' := by
  go_enter Tryz.func41, Tryz.ntmps41
  go_wp2_with fail
  all_goals
    go_ret
    refine ⟨ret_bool ?_, snew2 w _ _ _ _⟩
    unfold sme
    first
      | exact (decide_eq_true (by omega)).symm
      | exact (decide_eq_false (by omega)).symm
      | exact decide_eq_decide.2 (by omega)
      | (rw [← Bool.decide_eq_true (_ == _)]; exact decide_eq_decide.2 (by rw [beq_iff_eq]; omega))
/-- The stamp next above. -/
def nok (s n : Int) : Bool := vld s n && !big s n
def ns (s n : Int) : Int := if nok s n then (if n = 999999999 then s + 1 else s) else 0
def nn (s n : Int) : Int := if nok s n then (if n = 999999999 then 0 else n + 1) else 0
theorem results_st {fn : Func} {p u : Tmp} (h : fn.results = #[.cell p 25, .tmp u]) (tmps : Array Value) (w : World) (g : Nat) (s n : Int) (v : Value)
    (hp : tmps.getD p undef = .pointer (some ⟨g, 0, none⟩)) (hv : tmps.getD u undef = v) (h0 : w.cell? ⟨g, 0, none⟩ = some (.int .i64 s)) (h1 : w.cell? ⟨g, 1, none⟩ = some (.int .i64 n)) :
    (results fn tmps).run Tryz.prog w = .ok (.tuple #[.agg #[.int .i64 s, .int .i64 n], v]) w := by
  rw [results_cell_tmp h, hp, hv]
  go_simp
/-- A stamp in a variable. -/
def Sm (w : World) (g : Nat) (s n : Int) : Prop := w.heap[g]? = some (.cells #[.int .i64 s, .int .i64 n] 25 (0, 0))
theorem Sm.lt {w : World} {g : Nat} {s n : Int} (h : Sm w g s n) : g < w.heap.size := (Array.getElem?_eq_some_iff.1 h).1
theorem Sm.c0 {w : World} {g : Nat} {s n : Int} (h : Sm w g s n) : w.cell? ⟨g, 0, none⟩ = some (.int .i64 s) := (cell_of_row w g 0 _ _ (0, 0) h).trans rfl
theorem Sm.c1 {w : World} {g : Nat} {s n : Int} (h : Sm w g s n) : w.cell? ⟨g, 1, none⟩ = some (.int .i64 n) := (cell_of_row w g 1 _ _ (0, 0) h).trans rfl
theorem Sm.fz {w : World} {g : Nat} {s n : Int} (h : Sm w g s n) (i : Nat) : w.frozen? ⟨g, i, none⟩ = false := by unfold Sm at h; simp [World.frozen?, h]
theorem Sm.kept {w w' : World} {g : Nat} {s n : Int} (h : Sm w g s n) (hb : Below w.heap.size w w') : Sm w' g s n := by
  have := h.lt
  unfold Sm at *; rw [hb.block g this]; exact h
theorem Sm.new (w : World) (s n : Int) : Sm (w.alloc (.cells #[.int .i64 s, .int .i64 n] 25)) w.heap.size s n := heap_alloc_new w _
theorem Sm.alloc {w : World} {g : Nat} {s n : Int} (h : Sm w g s n) (o : Obj) : Sm (w.alloc o) g s n := by
  have := h.lt
  unfold Sm at *; rw [Below.heap_alloc _ _ _ this]; exact h
theorem Sm.row {w : World} {g : Nat} {s n : Int} (h : Sm w g s n) (s' n' : Int) : Sm (w.setRow g #[.int .i64 s', .int .i64 n']) g s' n' := setRow_heap w g _ _ _ _ h
theorem sizest : (Tryz.prog.info? 25).map (·.size) = some 2 := by kernel_rfl
theorem wpList_sst {ops : Array Oper} {rest : List Oper} {o : Oper} {a : Act} {w : World} {Q : Exit → Act → World → Prop} (hgd : o.guard = none) (hdst : o.dst = none) (x y : Operand) (ho : o.op = .store 25 x y)
    (g : Nat) (s n : Int) (hx : a.eval x = .pointer (some ⟨g, 0, none⟩)) (hy : a.eval y = .agg #[.int .i64 s, .int .i64 n]) (s0 n0 : Int) (hg : Sm w g s0 n0)
    (h : wpList Tryz.prog ops Q rest a (w.setRow g #[.int .i64 s, .int .i64 n])) : wpList Tryz.prog ops Q (o :: rest) a w := by
  refine wpList_store_row hgd _ x y ho g #[.int .i64 s, .int .i64 n] hx hy _ _ hg sizest rfl (by simp [Value.oneCell']) ?_
  rw [hdst]
  exact h
theorem snew3 (w : World) (s n s' n' : Int) : Sm ((w.alloc (.cells #[.int .i64 s, .int .i64 n] 25)).alloc (.cells #[.int .i64 s', .int .i64 n'] 25)) w.heap.size s n ∧ Sm ((w.alloc (.cells #[.int .i64 s, .int .i64 n] 25)).alloc (.cells #[.int .i64 s', .int .i64 n'] 25)) (w.heap.size + 1) s' n' := by
  refine ⟨(Sm.new w s n).alloc _, ?_⟩
  have := Sm.new (w.alloc (.cells #[.int .i64 s, .int .i64 n] 25)) s' n'
  simpa using this
theorem ret_st {a b a' b' : Int} {c c' : Bool} (h1 : a = a') (h2 : b = b') (h3 : c = c') : Ending.returned (.tuple #[.agg #[.int .i64 a, .int .i64 b], .bool c]) = .returned (.tuple #[.agg #[.int .i64 a', .int .i64 b'], .bool c']) := by rw [h1, h2, h3]
end Go.Proofs.YtbkeejapongmlaaGreatDoor
