import Derived.Test.YtbkeejapongmlaaGreatDoorOW1
import Derived.Deep.CutRange
namespace Go.Proofs.YtbkeejapongmlaaGreatDoor.Kp
set_option maxRecDepth 100000
open Go.RowKit
set_option linter.unusedVariables false

def Nm (w : World) (p : Nat) (G B X Y T U : Int) : Prop := w.heap[p]? = some (.cells #[.int .i64 G, .int .i64 B, .int .u64 X, .int .u64 Y, .int .i64 T, .int .i64 U] 29 (0, 0))
section
variable {w w' : World} {p : Nat} {G B X Y T U : Int}
theorem Nm.c0 (h : Nm w p G B X Y T U) : w.cell? ⟨p, 0, none⟩ = some (.int .i64 G) := (cell_of_row w p 0 _ _ (0, 0) h).trans rfl
theorem Nm.c1 (h : Nm w p G B X Y T U) : w.cell? ⟨p, 1, none⟩ = some (.int .i64 B) := (cell_of_row w p 1 _ _ (0, 0) h).trans rfl
theorem Nm.c2 (h : Nm w p G B X Y T U) : w.cell? ⟨p, 2, none⟩ = some (.int .u64 X) := (cell_of_row w p 2 _ _ (0, 0) h).trans rfl
theorem Nm.c3 (h : Nm w p G B X Y T U) : w.cell? ⟨p, 3, none⟩ = some (.int .u64 Y) := (cell_of_row w p 3 _ _ (0, 0) h).trans rfl
theorem Nm.c4 (h : Nm w p G B X Y T U) : w.cell? ⟨p, 4, none⟩ = some (.int .i64 T) := (cell_of_row w p 4 _ _ (0, 0) h).trans rfl
theorem Nm.c5 (h : Nm w p G B X Y T U) : w.cell? ⟨p, 5, none⟩ = some (.int .i64 U) := (cell_of_row w p 5 _ _ (0, 0) h).trans rfl
theorem Nm.lt (h : Nm w p G B X Y T U) : p < w.heap.size := (Array.getElem?_eq_some_iff.1 h).1
theorem Nm.at (h : Nm w p G B X Y T U) (e : w'.heap[p]? = w.heap[p]?) : Nm w' p G B X Y T U := by unfold Nm at *; rw [e]; exact h
end
theorem newL_len {k : List Int} {S : Int} (h : k.length ≤ 4096) : (newL k S).k.length ≤ 4096 := by
  unfold newL
  split
  · exact h
  · simp [lzero]
theorem agnL_len {l : Ln} (h : l.k.length ≤ 4096) : (agnL l).k.length ≤ 4096 := by
  unfold agnL
  split
  · exact h
  · simp [lzero]
theorem prpL_len {l : Ln} (h : l.k.length ≤ 4096) : (prpL l).k.length ≤ 4096 := by
  unfold prpL
  split
  · exact h
  · simp [lzero]
theorem resL_len {l : Ln} {x b : Int} (h : l.k.length ≤ 4096) : (resL l x b).k.length ≤ 4096 := by
  unfold resL
  split
  · exact h
  · simp [lzero]
theorem ansL_len {l : Ln} {g c s n b : Int} (h : l.k.length ≤ 4096) : (ansL l g c s n b).k.length ≤ 4096 := by
  unfold ansL
  split
  · exact h
  · simp [lzero]
theorem opnL_len {l : Ln} {g c b : Int} (h : l.k.length ≤ 4096) : (opnL l g c b).k.length ≤ 4096 := by
  unfold opnL
  split
  · exact h
  · simp [lzero]
theorem rseL_len {l : Ln} {c b : Int} (h : l.k.length ≤ 4096) : (rseL l c b).k.length ≤ 4096 := by
  unfold rseL
  split
  · exact h
  · simp [lzero]
theorem fld0 (a : Option Addr) (m c : Nat) (S C N D E s n : Int) (w : World) : (Instr.field 27 (.agg #[.slice a m c, .int .i64 S, .int .i64 C, .int .i64 N, .int .u64 D, .int .u64 E, .int .i64 s, .int .i64 n]) 0).run Tryz.prog w = .ok (.slice a m c) w := by
  kernel_rfl
/-- What lies ahead of the round: the lane that came in, the numbers, the book and the lane with marks. -/
structure Rd0 (w0 w : World) (k m pw g H m0 cap pn pl : Nat) (a : Option Addr) (c : Nat) (key : List Int) (S C N D E s n G B X Y T U : Int) : Prop where
  os : Os w0 w k m pw g H m0 cap key S C N D E s n
  nm : Nm w0 pn G B X Y T U
  lm : Lm w0 pl a m0 c S C N D E s n
section
variable {w0 w : World} {k m pw g H m0 cap pn pl : Nat} {a : Option Addr} {c : Nat} {key : List Int} {S C N D E s n G B X Y T U : Int}
theorem Rd0.nmw (h : Rd0 w0 w k m pw g H m0 cap pn pl a c key S C N D E s n G B X Y T U) : Nm w pn G B X Y T U := h.nm.at (h.os.ow.fr.block pn h.nm.lt)
theorem Rd0.lmw (h : Rd0 w0 w k m pw g H m0 cap pn pl a c key S C N D E s n G B X Y T U) : Lm w pl a m0 c S C N D E s n := h.lm.at (h.os.ow.fr.block pl h.lm.lt)
end
end Go.Proofs.YtbkeejapongmlaaGreatDoor.Kp
