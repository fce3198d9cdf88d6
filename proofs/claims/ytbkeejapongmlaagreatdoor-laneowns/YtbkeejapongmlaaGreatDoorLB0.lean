import Derived.Test.YtbkeejapongmlaaGreatDoorLA
import Derived.Deep.Cut
import Derived.Deep.RegionHeld
import Derived.Deep.RegionHeldLaw
namespace Go.Proofs.YtbkeejapongmlaaGreatDoor
set_option maxRecDepth 100000
open Go.RowKit
set_option linter.unusedVariables false

section
variable {w w' : World} {g : Nat} {a : Option Addr} {m c : Nat} {S C N D E s n : Int}
theorem Lm.s2 (h : Lm w g a m c S C N D E s n) (x : Int) : Lm (w.setCell ⟨g, 2, none⟩ (.int .i64 x)) g a m c S x N D E s n := by unfold Lm at *; simp [World.setCell, Array.getElem?_modify, h]
theorem Lm.s3 (h : Lm w g a m c S C N D E s n) (x : Int) : Lm (w.setCell ⟨g, 3, none⟩ (.int .i64 x)) g a m c S C x D E s n := by unfold Lm at *; simp [World.setCell, Array.getElem?_modify, h]
theorem Lm.s4 (h : Lm w g a m c S C N D E s n) (x : Int) : Lm (w.setCell ⟨g, 4, none⟩ (.int .u64 x)) g a m c S C N x E s n := by unfold Lm at *; simp [World.setCell, Array.getElem?_modify, h]
theorem Lm.s5 (h : Lm w g a m c S C N D E s n) (x : Int) : Lm (w.setCell ⟨g, 5, none⟩ (.int .u64 x)) g a m c S C N D x s n := by unfold Lm at *; simp [World.setCell, Array.getElem?_modify, h]
theorem Lm.s67 (h : Lm w g a m c S C N D E s n) (x y : Int) : Lm ((w.setCell ⟨g, 6, none⟩ (.int .i64 x)).setCell ⟨g, 7, none⟩ (.int .i64 y)) g a m c S C N D E x y := by unfold Lm at *; simp [World.setCell, Array.getElem?_modify, h]
end
/-- A lane in a variable of one's own, its key new memory. -/
structure Zs (W wc : World) (g : Nat) (a : Option Addr) (m c : Nat) (k : List Int) (S C N D E s n : Int) : Prop where
  lm : Lm wc g a m c S C N D E s n
  bw : Bw W wc
  vs : Vs wc (fun x => W.heap.size ≤ x ∧ x ≠ g) a m c k
  ge : W.heap.size ≤ g
section
variable {W wc w2 : World} {g : Nat} {a : Option Addr} {m c : Nat} {k : List Int} {S C N D E s n : Int}
theorem Zs.on (h : Zs W wc g a m c k S C N D E s n) (hb : Below wc.heap.size wc w2) : Zs W w2 g a m c k S C N D E s n := ⟨h.lm.kept hb, h.bw.on hb, h.vs.step fun x hx _ _ => hb.block x hx, h.ge⟩
theorem Zs.new {y : World} (hb : Bw W y) (hv : Vs y (fun x => W.heap.size ≤ x) a m c k) (S C N D E s n : Int) : Zs W (y.alloc (.cells #[.slice a m c, .int .i64 S, .int .i64 C, .int .i64 N, .int .u64 D, .int .u64 E, .int .i64 s, .int .i64 n] 27)) y.heap.size a m c k S C N D E s n :=
  ⟨Lm.new y a m c S C N D E s n, hb.on (lnew y a m c S C N D E s n), (hv.wide (V' := fun x => W.heap.size ≤ x ∧ x ≠ y.heap.size) fun x hx h => ⟨h, by omega⟩).step fun x hx _ _ => (lnew y a m c S C N D E s n).block x hx, Below.size hb⟩
theorem Zs.cell_other (h : Zs W wc g a m c k S C N D E s n) (i : Nat) (v : Value) : Bw W (wc.setCell ⟨g, i, none⟩ v) ∧ Vs (wc.setCell ⟨g, i, none⟩ v) (fun x => W.heap.size ≤ x ∧ x ≠ g) a m c k :=
  ⟨Below.setCell (p := ⟨g, i, none⟩) h.bw h.ge v, h.vs.step fun x _ hx _ => Below.heap_setCell _ _ _ _ hx.2⟩
theorem Zs.s2 (h : Zs W wc g a m c k S C N D E s n) (x : Int) : Zs W (wc.setCell ⟨g, 2, none⟩ (.int .i64 x)) g a m c k S x N D E s n := ⟨h.lm.s2 x, (h.cell_other 2 _).1, (h.cell_other 2 _).2, h.ge⟩
theorem Zs.s3 (h : Zs W wc g a m c k S C N D E s n) (x : Int) : Zs W (wc.setCell ⟨g, 3, none⟩ (.int .i64 x)) g a m c k S C x D E s n := ⟨h.lm.s3 x, (h.cell_other 3 _).1, (h.cell_other 3 _).2, h.ge⟩
theorem Zs.s4 (h : Zs W wc g a m c k S C N D E s n) (x : Int) : Zs W (wc.setCell ⟨g, 4, none⟩ (.int .u64 x)) g a m c k S C N x E s n := ⟨h.lm.s4 x, (h.cell_other 4 _).1, (h.cell_other 4 _).2, h.ge⟩
theorem Zs.s5 (h : Zs W wc g a m c k S C N D E s n) (x : Int) : Zs W (wc.setCell ⟨g, 5, none⟩ (.int .u64 x)) g a m c k S C N D x s n := ⟨h.lm.s5 x, (h.cell_other 5 _).1, (h.cell_other 5 _).2, h.ge⟩
theorem Zs.s67 (h : Zs W wc g a m c k S C N D E s n) (x y : Int) : Zs W ((wc.setCell ⟨g, 6, none⟩ (.int .i64 x)).setCell ⟨g, 7, none⟩ (.int .i64 y)) g a m c k S C N D E x y :=
  ⟨h.lm.s67 x y, Below.setCell (p := ⟨g, 7, none⟩) (h.cell_other 6 _).1 h.ge _, ((h.cell_other 6 (.int .i64 x)).2).step fun x _ hx _ => Below.heap_setCell _ _ _ _ hx.2, h.ge⟩
end
theorem Sm.at' {w w' : World} {g : Nat} {s n : Int} (h : Sm w g s n) (e : w'.heap[g]? = w.heap[g]?) : Sm w' g s n := by unfold Sm at *; rw [e]; exact h
theorem bel_al' (w : World) (o : Obj) : Below w.heap.size w (w.alloc o) := (Below.refl _ _).alloc (Nat.le_refl _) o
theorem results_ln3 {fn : Func} {p u v' : Tmp} (h : fn.results = #[.cell p 27, .tmp u, .tmp v']) (tmps : Array Value) (w : World) (g : Nat) (a : Option Addr) (m c : Nat) (S C N D E s n : Int) (v x : Value)
    (hp : tmps.getD p undef = .pointer (some ⟨g, 0, none⟩)) (hv : tmps.getD u undef = v) (hx : tmps.getD v' undef = x) (hm : Lm w g a m c S C N D E s n) :
    (results fn tmps).run Tryz.prog w = .ok (.tuple #[.agg #[.slice a m c, .int .i64 S, .int .i64 C, .int .i64 N, .int .u64 D, .int .u64 E, .int .i64 s, .int .i64 n], v, x]) w := by
  have e : (results fn tmps).run Tryz.prog w = ((asAddr (tmps.getD p undef)).run Tryz.prog w).andThen fun a w₁ => ((loadVar 27 a).run Tryz.prog w₁).andThen fun z w₂ => .ok (.tuple #[z, tmps.getD u undef, tmps.getD v' undef]) w₂ := by
    simp only [results, h]
    simp [Sem.run_bind, Result.andThen]
  rw [e, hp, hv, hx]
  have c0 := hm.c0
  have c1 := hm.c1
  have c2 := hm.c2
  have c3 := hm.c3
  have c4 := hm.c4
  have c5 := hm.c5
  have c6 := hm.c6
  have c7 := hm.c7
  go_simp
theorem Lm.set8 {w : World} {g : Nat} {a : Option Addr} {m c : Nat} {S C N D E s n : Int} (h : Lm w g a m c S C N D E s n) (a' : Option Addr) (m' c' : Nat) (S' C' N' D' E' s' n' : Int) :
    Lm ((((((((w.setCell ⟨g, 0, none⟩ (.slice a' m' c')).setCell ⟨g, 1, none⟩ (.int .i64 S')).setCell ⟨g, 2, none⟩ (.int .i64 C')).setCell ⟨g, 3, none⟩ (.int .i64 N')).setCell ⟨g, 4, none⟩ (.int .u64 D')).setCell ⟨g, 5, none⟩ (.int .u64 E')).setCell ⟨g, 6, none⟩ (.int .i64 s')).setCell ⟨g, 7, none⟩ (.int .i64 n')) g a' m' c' S' C' N' D' E' s' n' := by
  unfold Lm at *
  simp [World.setCell, Array.getElem?_modify, h]
theorem set8_other {w : World} {g j : Nat} (h : j ≠ g) (v0 v1 v2 v3 v4 v5 v6 v7 : Value) : ((((((((w.setCell ⟨g, 0, none⟩ v0).setCell ⟨g, 1, none⟩ v1).setCell ⟨g, 2, none⟩ v2).setCell ⟨g, 3, none⟩ v3).setCell ⟨g, 4, none⟩ v4).setCell ⟨g, 5, none⟩ v5).setCell ⟨g, 6, none⟩ v6).setCell ⟨g, 7, none⟩ v7).heap[j]? = w.heap[j]? := by
  simp [World.setCell, Array.getElem?_modify, Ne.symm h]
theorem set8_bel {B g : Nat} {a w : World} (h : Below B a w) (hg : B ≤ g) (v0 v1 v2 v3 v4 v5 v6 v7 : Value) : Below B a ((((((((w.setCell ⟨g, 0, none⟩ v0).setCell ⟨g, 1, none⟩ v1).setCell ⟨g, 2, none⟩ v2).setCell ⟨g, 3, none⟩ v3).setCell ⟨g, 4, none⟩ v4).setCell ⟨g, 5, none⟩ v5).setCell ⟨g, 6, none⟩ v6).setCell ⟨g, 7, none⟩ v7) :=
  (((((((h.setCell (p := ⟨g, 0, none⟩) hg v0).setCell (p := ⟨g, 1, none⟩) hg v1).setCell (p := ⟨g, 2, none⟩) hg v2).setCell (p := ⟨g, 3, none⟩) hg v3).setCell (p := ⟨g, 4, none⟩) hg v4).setCell (p := ⟨g, 5, none⟩) hg v5).setCell (p := ⟨g, 6, none⟩) hg v6).setCell (p := ⟨g, 7, none⟩) hg v7
end Go.Proofs.YtbkeejapongmlaaGreatDoor
