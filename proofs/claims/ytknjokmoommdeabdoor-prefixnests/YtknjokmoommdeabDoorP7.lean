import Derived.Test.YtknjokmoommdeabDoorP6
namespace Go.Proofs.YtknjokmoommdeabDoor
open Go.RowKit
set_option linter.unusedVariables false

theorem val_take7 (l : List Int) (j : Nat) (h : j < l.length) : val (l.take (j + 1)) = val (l.take j) * 256 + l.getD j 0 := by
  rw [List.take_succ_eq_append_getElem h, val_snoc]
  simp [List.getD, h]
theorem setCell_other7 (w : World) (g i j : Nat) (v : Value) (h : j ≠ g) : (w.setCell ⟨g, i, none⟩ v).heap[j]? = w.heap[j]? := by
  simp [World.setCell, Array.getElem?_modify, Ne.symm h]
section
variable {w w' : World} {g : Nat} {F H L B : Int}
theorem Am.s0 (h : Am w g F H L) (x : Int) : Am (w.setCell ⟨g, 0, none⟩ (.int .i64 x)) g x H L := by
  unfold Am at *
  simp [World.setCell, Array.getElem?_modify, h]
theorem Am.s1 (h : Am w g F H L) (x : Int) : Am (w.setCell ⟨g, 1, none⟩ (.int .u64 x)) g F x L := by
  unfold Am at *
  simp [World.setCell, Array.getElem?_modify, h]
theorem Am.s2 (h : Am w g F H L) (x : Int) : Am (w.setCell ⟨g, 2, none⟩ (.int .u64 x)) g F H x := by
  unfold Am at *
  simp [World.setCell, Array.getElem?_modify, h]
theorem Am.fz (h : Am w g F H L) (i : Nat) : w.frozen? ⟨g, i, none⟩ = false := by unfold Am at h; simp [World.frozen?, h]
end
theorem sizea : (Tryd.prog.info? 24).map (·.size) = some 3 := by kernel_rfl
theorem Am.row {w : World} {g : Nat} {F H L : Int} (h : Am w g F H L) (F' H' L' : Int) : Am (w.setRow g #[.int .i64 F', .int .u64 H', .int .u64 L']) g F' H' L' := setRow_heap w g _ _ _ _ h
theorem wpList_sa {ops : Array Oper} {rest : List Oper} {o : Oper} {a : Act} {w : World} {Q : Exit → Act → World → Prop} (hgd : o.guard = none) (hdst : o.dst = none) (x y : Operand) (ho : o.op = .store 24 x y)
    (g : Nat) (F H L : Int) (hx : a.eval x = .pointer (some ⟨g, 0, none⟩)) (hy : a.eval y = .agg #[.int .i64 F, .int .u64 H, .int .u64 L]) (F0 H0 L0 : Int) (hg : Am w g F0 H0 L0)
    (h : wpList Tryd.prog ops Q rest a (w.setRow g #[.int .i64 F, .int .u64 H, .int .u64 L])) : wpList Tryd.prog ops Q (o :: rest) a w := by
  refine wpList_store_row hgd _ x y ho g #[.int .i64 F, .int .u64 H, .int .u64 L] hx hy _ _ hg sizea rfl (by simp [Value.oneCell']) ?_
  rw [hdst]
  exact h
theorem results_a {fn : Func} {p : Tmp} (h : fn.results = #[.cell p 24]) (tmps : Array Value) (w : World) (g : Nat) (F H L : Int)
    (hp : tmps.getD p undef = .pointer (some ⟨g, 0, none⟩)) (hg : Am w g F H L) : (results fn tmps).run Tryd.prog w = .ok (.agg #[.int .i64 F, .int .u64 H, .int .u64 L]) w :=
  results_cell_row h tmps w g 24 #[.int .i64 F, .int .u64 H, .int .u64 L] (0, 0) _ hp hg Tryd.underlying24 rfl sizea
theorem getD_byte7 {zs : List Int} (h : ∀ z ∈ zs, 0 ≤ z ∧ z ≤ 255) (i : Nat) : 0 ≤ zs.getD i 0 ∧ zs.getD i 0 ≤ 255 := getD_byte6 h i
theorem pow256_15 (j : Nat) (h : j ≤ 15) : (256 : Int) ^ j ≤ 1329227995784915872903807060280344576 := by
  have : j = 0 ∨ j = 1 ∨ j = 2 ∨ j = 3 ∨ j = 4 ∨ j = 5 ∨ j = 6 ∨ j = 7 ∨ j = 8 ∨ j = 9 ∨ j = 10 ∨ j = 11 ∨ j = 12 ∨ j = 13 ∨ j = 14 ∨ j = 15 := by omega
  rcases this with rfl | rfl | rfl | rfl | rfl | rfl | rfl | rfl | rfl | rfl | rfl | rfl | rfl | rfl | rfl | rfl <;> decide
/-- The address that these bytes are. -/
def af (m : Nat) : Int := if m = 4 then 4 else 6
def ah (l : List Int) : Int := val l / 18446744073709551616
def al (l : List Int) : Int := val l % 18446744073709551616
end Go.Proofs.YtknjokmoommdeabDoor
