import Derived.Test.YtmbopaemnlikkaaLD
import Derived.Test.YtmbopaemnlikkaaLB0
namespace Go.Proofs.Ytmbopaemnlikkaa
set_option maxRecDepth 100000
open Go.RowKit
set_option linter.unusedVariables false

/-- The law's numbers in a variable; an op in a variable. -/
def Nm (w : World) (p : Nat) (G B X Y T U : Int) : Prop := w.heap[p]? = some (.cells #[.int .i64 G, .int .i64 B, .int .u64 X, .int .u64 Y, .int .i64 T, .int .i64 U] 34 (0, 0))
def Om (w : World) (p : Nat) (kd G B X Y T U : Int) : Prop := w.heap[p]? = some (.cells #[.int .i64 kd, .int .i64 G, .int .i64 B, .int .u64 X, .int .u64 Y, .int .i64 T, .int .i64 U] 36 (0, 0))
section
variable {w w' : World} {p : Nat} {kd G B X Y T U : Int}
theorem Nm.c0 (h : Nm w p G B X Y T U) : w.cell? ⟨p, 0, none⟩ = some (.int .i64 G) := (cell_of_row w p 0 _ _ (0, 0) h).trans rfl
theorem Nm.c1 (h : Nm w p G B X Y T U) : w.cell? ⟨p, 1, none⟩ = some (.int .i64 B) := (cell_of_row w p 1 _ _ (0, 0) h).trans rfl
theorem Nm.c2 (h : Nm w p G B X Y T U) : w.cell? ⟨p, 2, none⟩ = some (.int .u64 X) := (cell_of_row w p 2 _ _ (0, 0) h).trans rfl
theorem Nm.c3 (h : Nm w p G B X Y T U) : w.cell? ⟨p, 3, none⟩ = some (.int .u64 Y) := (cell_of_row w p 3 _ _ (0, 0) h).trans rfl
theorem Nm.c4 (h : Nm w p G B X Y T U) : w.cell? ⟨p, 4, none⟩ = some (.int .i64 T) := (cell_of_row w p 4 _ _ (0, 0) h).trans rfl
theorem Nm.c5 (h : Nm w p G B X Y T U) : w.cell? ⟨p, 5, none⟩ = some (.int .i64 U) := (cell_of_row w p 5 _ _ (0, 0) h).trans rfl
theorem Nm.lt (h : Nm w p G B X Y T U) : p < w.heap.size := (Array.getElem?_eq_some_iff.1 h).1
theorem Nm.at (h : Nm w p G B X Y T U) (e : w'.heap[p]? = w.heap[p]?) : Nm w' p G B X Y T U := by unfold Nm at *; rw [e]; exact h
theorem Nm.kept (h : Nm w p G B X Y T U) (hb : Below w.heap.size w w') : Nm w' p G B X Y T U := h.at (hb.block p h.lt)
theorem Nm.new (w : World) (G B X Y T U : Int) : Nm (w.alloc (.cells #[.int .i64 G, .int .i64 B, .int .u64 X, .int .u64 Y, .int .i64 T, .int .i64 U] 34)) w.heap.size G B X Y T U := heap_alloc_new w _
theorem Om.c0 (h : Om w p kd G B X Y T U) : w.cell? ⟨p, 0, none⟩ = some (.int .i64 kd) := (cell_of_row w p 0 _ _ (0, 0) h).trans rfl
theorem Om.c1 (h : Om w p kd G B X Y T U) : w.cell? ⟨p, 1, none⟩ = some (.int .i64 G) := (cell_of_row w p 1 _ _ (0, 0) h).trans rfl
theorem Om.c2 (h : Om w p kd G B X Y T U) : w.cell? ⟨p, 2, none⟩ = some (.int .i64 B) := (cell_of_row w p 2 _ _ (0, 0) h).trans rfl
theorem Om.c3 (h : Om w p kd G B X Y T U) : w.cell? ⟨p, 3, none⟩ = some (.int .u64 X) := (cell_of_row w p 3 _ _ (0, 0) h).trans rfl
theorem Om.c4 (h : Om w p kd G B X Y T U) : w.cell? ⟨p, 4, none⟩ = some (.int .u64 Y) := (cell_of_row w p 4 _ _ (0, 0) h).trans rfl
theorem Om.c5 (h : Om w p kd G B X Y T U) : w.cell? ⟨p, 5, none⟩ = some (.int .i64 T) := (cell_of_row w p 5 _ _ (0, 0) h).trans rfl
theorem Om.c6 (h : Om w p kd G B X Y T U) : w.cell? ⟨p, 6, none⟩ = some (.int .i64 U) := (cell_of_row w p 6 _ _ (0, 0) h).trans rfl
theorem Om.lt (h : Om w p kd G B X Y T U) : p < w.heap.size := (Array.getElem?_eq_some_iff.1 h).1
theorem Om.at (h : Om w p kd G B X Y T U) (e : w'.heap[p]? = w.heap[p]?) : Om w' p kd G B X Y T U := by unfold Om at *; rw [e]; exact h
theorem Om.kept (h : Om w p kd G B X Y T U) (hb : Below w.heap.size w w') : Om w' p kd G B X Y T U := h.at (hb.block p h.lt)
theorem Om.new (w : World) (kd G B X Y T U : Int) : Om (w.alloc (.cells #[.int .i64 kd, .int .i64 G, .int .i64 B, .int .u64 X, .int .u64 Y, .int .i64 T, .int .i64 U] 36)) w.heap.size kd G B X Y T U := heap_alloc_new w _
end
def wu (x : Int) : Int := IntKind.u64.wrap x
def wi (x : Int) : Int := IntKind.i64.wrap x
theorem wi_r (x : Int) : i64r (IntKind.i64.wrap x) := by
  have := IntKind.wrap_i64 x
  unfold i64r
  omega
theorem wu_r (x : Int) : u64r (IntKind.u64.wrap x) := by
  have := IntKind.wrap_u64 x
  unfold u64r
  omega
/-- What one call of the law's kinds makes of a lane. -/
def nxR (l : Ln) (kd G B X Y T U : Int) : Ln :=
  if kd = 1 then agnL l else if kd = 2 then resL l (wu (l.D + Y)) B else if kd = 3 then prpL l else if kd = 4 then ansL l (wi (l.C + G)) X T U B else if kd = 5 then opnL l (wi (l.C + G)) X B else if kd = 6 then rseL l (wu (l.E + X)) B else lzero
def nxL (l : Ln) (kd G B X Y T U : Int) : Ln := if (nxR l kd G B X Y T U).C = 0 then l else nxR l kd G B X Y T U
def nxG (l : Ln) (kd G B X Y T U : Int) : Int := if (nxR l kd G B X Y T U).C = 0 then -1 else if kd = 3 then prpG l else -1
def nxA (l : Ln) (kd G B X Y T U : Int) : Int := if (nxR l kd G B X Y T U).C = 0 then 0 else if kd = 4 then ansN l (wi (l.C + G)) X T U B else 0
end Go.Proofs.Ytmbopaemnlikkaa
