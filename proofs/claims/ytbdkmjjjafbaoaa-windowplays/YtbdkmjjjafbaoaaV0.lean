import Derived.Test.YtbdkmjjjafbaoaaVP
import Derived.Laws.ResultCell
import Derived.Laws.Tables
import Derived.Laws.CopyRow
import Derived.Laws.MakeOwn
import Derived.Deep.RegionHeld
namespace Go.Proofs.Ytbdkmjjjafbaoaa
open Go.RowKit
set_option linter.unusedVariables false
set_option maxRecDepth 100000

/-! Windows in memory. -/
structure Drawn (w w' : World) : Prop where
  os : w'.os = w.os
  tape : w'.tape = w.tape
  output : w'.output = w.output
  heap : w'.heap = w.heap
theorem Drawn.refl (w : World) : Drawn w w := ⟨rfl, rfl, rfl, rfl⟩
theorem drawnN (w : World) (n : Nat) : Drawn w (w.drewN n) := ⟨rfl, rfl, rfl, rfl⟩
theorem Drawn.trans {a b c : World} (h : Drawn a b) (k : Drawn b c) : Drawn a c := ⟨k.os.trans h.os, k.tape.trans h.tape, k.output.trans h.output, k.heap.trans h.heap⟩
/-- But for the blocks X nothing has turned; blocks may have come. -/
structure Fx (X : Nat → Prop) (w w' : World) : Prop where
  os : w'.os = w.os
  tape : w'.tape = w.tape
  output : w'.output = w.output
  size : w.heap.size ≤ w'.heap.size
  block : ∀ k, k < w.heap.size → ¬ X k → w'.heap[k]? = w.heap[k]?
section
variable {X Y : Nat → Prop} {w w' w2 : World}
theorem Fx.refl (X : Nat → Prop) (w : World) : Fx X w w := ⟨rfl, rfl, rfl, Nat.le_refl _, fun _ _ _ => rfl⟩
theorem Fx.trans (k : Fx X w w') (h : Fx X w' w2) : Fx X w w2 := ⟨h.os.trans k.os, h.tape.trans k.tape, h.output.trans k.output, Nat.le_trans k.size h.size, fun i hi hX => (h.block i (Nat.lt_of_lt_of_le hi k.size) hX).trans (k.block i hi hX)⟩
theorem Fx.set (h : Fx X w w') {g i : Nat} (hg : X g) (v : Value) : Fx X w (w'.setCell ⟨g, i, none⟩ v) := ⟨h.os, h.tape, h.output, by simp [World.setCell]; exact h.size, fun k hk hX => (Below.heap_setCell _ _ _ _ (by intro e; exact hX (by rw [e]; exact hg))).trans (h.block k hk hX)⟩
theorem Fx.row (h : Fx X w w') {g : Nat} (hg : X g) (ds : Array Value) : Fx X w (w'.setRow g ds) := ⟨h.os, h.tape, h.output, by simp; exact h.size, fun k hk hX => (setRow_other w' g k ds (by intro e; exact hX (by rw [e]; exact hg))).trans (h.block k hk hX)⟩
theorem Fx.drawn (h : Fx X w w') (hd : Drawn w' w2) : Fx X w w2 := ⟨hd.os.trans h.os, hd.tape.trans h.tape, hd.output.trans h.output, by rw [hd.heap]; exact h.size, fun k hk hX => by rw [hd.heap]; exact h.block k hk hX⟩
theorem Fx.alloc (h : Fx X w w') (o : Obj) : Fx X w (w'.alloc o) := ⟨h.os, h.tape, h.output, by rw [World.size_alloc]; have := h.size; omega, fun k hk hX => (Below.heap_alloc _ _ _ (Nat.lt_of_lt_of_le hk h.size)).trans (h.block k hk hX)⟩
theorem Fx.weak (h : Fx X w w') (hY : ∀ k, k < w.heap.size → X k → Y k) : Fx Y w w' := ⟨h.os, h.tape, h.output, h.size, fun k hk hX => h.block k hk fun e => hX (hY k hk e)⟩
theorem Fx.bel (h : Fx X w w') (hX : ∀ k, k < w.heap.size → ¬ X k) : Below w.heap.size w w' := ⟨h.os, h.tape, h.output, h.size, fun k hk => h.block k hk (hX k hk)⟩
theorem Fx.of (X : Nat → Prop) (h : Below w.heap.size w w') : Fx X w w' := ⟨h.os, h.tape, h.output, h.size, fun k hk _ => h.block k hk⟩
/-- What lies below a bound stays, if what turns lies above it. -/
theorem Fx.below {B : Nat} {w0 : World} (hb : Below B w0 w) (h : Fx X w w') (hB : B ≤ w.heap.size) (hX : ∀ k, X k → B ≤ k) : Below B w0 w' :=
  ⟨h.os.trans hb.os, h.tape.trans hb.tape, h.output.trans hb.output, Nat.le_trans hb.size h.size, fun k hk => (h.block k (by omega) (fun e => by have := hX k e; omega)).trans (hb.block k hk)⟩
end
/-- A row of numbers of 64 bits. -/
def cu (xs : List Int) : List Value := xs.map fun x => Value.int .u64 x
theorem cu_length (xs : List Int) : (cu xs).length = xs.length := by simp [cu]
def Rg (w : World) (g : Nat) (R : List Int) : Prop := w.heap[g]? = some (.cells (cu R).toArray 22 (0, 0))
section
variable {w w' : World} {g : Nat} {R : List Int}
theorem Rg.lt (h : Rg w g R) : g < w.heap.size := (Array.getElem?_eq_some_iff.1 h).1
theorem Rg.fz (h : Rg w g R) (i : Nat) : w.frozen? ⟨g, i, none⟩ = false := by unfold Rg at h; simp [World.frozen?, h]
theorem Rg.cell (h : Rg w g R) {i : Nat} (hi : i < R.length) : w.cell? ⟨g, i, none⟩ = some (.int .u64 (R.getD i 0)) := by
  rw [cell_of_row w g i _ 22 (0, 0) h]
  simp [cu, List.getD, hi]
theorem Rg.at (h : Rg w g R) (e : w'.heap[g]? = w.heap[g]?) : Rg w' g R := e.trans h
theorem Rg.set (h : Rg w g R) (i : Nat) (x : Int) : Rg (w.setCell ⟨g, i, none⟩ (.int .u64 x)) g (R.set i x) := by
  unfold Rg at *
  simp [World.setCell, Array.getElem?_modify, h, cu]
theorem Rg.row (h : Rg w g R) (R' : List Int) : Rg (w.setRow g (cu R').toArray) g R' := setRow_heap w g _ _ _ _ h
end
/-- A window's own block. -/
def Wm (w : World) (p : Nat) (F W t : Int) (h : Bool) (g n : Nat) : Prop := w.heap[p]? = some (.cells #[.int .u64 F, .int .u64 W, .int .u64 t, .bool h, .slice (some ⟨g, 0, none⟩) n n] 51 (0, 0))
section
variable {w w' : World} {p : Nat} {F W t : Int} {h : Bool} {g n : Nat}
theorem Wm.c0 (k : Wm w p F W t h g n) : w.cell? ⟨p, 0, none⟩ = some (.int .u64 F) := (cell_of_row _ _ 0 _ _ (0, 0) k).trans rfl
theorem Wm.c1 (k : Wm w p F W t h g n) : w.cell? ⟨p, 1, none⟩ = some (.int .u64 W) := (cell_of_row _ _ 1 _ _ (0, 0) k).trans rfl
theorem Wm.c2 (k : Wm w p F W t h g n) : w.cell? ⟨p, 2, none⟩ = some (.int .u64 t) := (cell_of_row _ _ 2 _ _ (0, 0) k).trans rfl
theorem Wm.c3 (k : Wm w p F W t h g n) : w.cell? ⟨p, 3, none⟩ = some (.bool h) := (cell_of_row _ _ 3 _ _ (0, 0) k).trans rfl
theorem Wm.c4 (k : Wm w p F W t h g n) : w.cell? ⟨p, 4, none⟩ = some (.slice (some ⟨g, 0, none⟩) n n) := (cell_of_row _ _ 4 _ _ (0, 0) k).trans rfl
theorem Wm.fz (k : Wm w p F W t h g n) (i : Nat) : w.frozen? ⟨p, i, none⟩ = false := by unfold Wm at k; simp [World.frozen?, k]
theorem Wm.lt (k : Wm w p F W t h g n) : p < w.heap.size := (Array.getElem?_eq_some_iff.1 k).1
theorem Wm.at (k : Wm w p F W t h g n) (e : w'.heap[p]? = w.heap[p]?) : Wm w' p F W t h g n := e.trans k
theorem Wm.s2 (k : Wm w p F W t h g n) (x : Int) : Wm (w.setCell ⟨p, 2, none⟩ (.int .u64 x)) p F W x h g n := by unfold Wm at *; simp [World.setCell, Array.getElem?_modify, k]
theorem Wm.s3 (k : Wm w p F W t h g n) (x : Bool) : Wm (w.setCell ⟨p, 3, none⟩ (.bool x)) p F W t x g n := by unfold Wm at *; simp [World.setCell, Array.getElem?_modify, k]
end
/-- A window that has taken T. -/
structure Wn (w : World) (p g : Nat) (F : Int) (m : Nat) (T : List Int) : Prop where
  blk : Wm w p F (64 * (m : Int)) (topI T) (decide (T ≠ [])) g (m + 1)
  ring : ∃ R, Rg w g R ∧ Ri m T R
  ne : p ≠ g
  m1 : 1 ≤ m
  m16 : m ≤ 16
  F : u64r F
section
variable {w w' : World} {p g : Nat} {F : Int} {m : Nat} {T : List Int}
theorem Wn.lt (h : Wn w p g F m T) : p < w.heap.size ∧ g < w.heap.size := ⟨h.blk.lt, by obtain ⟨R, h1, _⟩ := h.ring; exact h1.lt⟩
theorem Wn.at (h : Wn w p g F m T) (e : w'.heap[p]? = w.heap[p]?) (e2 : w'.heap[g]? = w.heap[g]?) : Wn w' p g F m T := ⟨h.blk.at e, by obtain ⟨R, h1, h2⟩ := h.ring; exact ⟨R, h1.at e2, h2⟩, h.ne, h.m1, h.m16, h.F⟩
theorem Wn.drawn (h : Wn w p g F m T) (hd : Drawn w w') : Wn w' p g F m T := h.at (by rw [hd.heap]) (by rw [hd.heap])
theorem Wn.fx {X : Nat → Prop} (h : Wn w p g F m T) (hx : Fx X w w') (hp : ¬ X p) (hg : ¬ X g) : Wn w' p g F m T := h.at (hx.block p h.lt.1 hp) (hx.block g h.lt.2 hg)
theorem Wn.on (h : Wn w p g F m T) (hb : Below w.heap.size w w') : Wn w' p g F m T := h.at (hb.block p h.lt.1) (hb.block g h.lt.2)
theorem Wn.ok (h : Wn w p g F m T) : ∀ t ∈ T, u64r t := by obtain ⟨R, _, h2⟩ := h.ring; exact h2.ok
theorem Wn.topr (h : Wn w p g F m T) : u64r (topI T) := by obtain ⟨R, _, h2⟩ := h.ring; exact h2.top
end
/-- clear of a whole row. -/
theorem run_clear {P : Program} {w : World} (dT ty : TypeId) (elem : TypeId) (hu : P.underlying dT = some (.slice elem)) (i : TypeInfo) (z : Value) (hi : P.info? elem = some i) (hz : i.zero = some z) (hz1 : z.cells = #[z]) (hone : z.oneCell' = true)
    (g n cap : Nat) (hn : 0 < n) (cur : Array Value) (t : TypeId) (hg : w.heap[g]? = some (.cells cur t (0, 0))) (hsz : cur.size = n) :
    (Builtin.clear_ #[dT] ty #[.slice (some ⟨g, 0, none⟩) n cap]).run P w = .ok (.tuple #[]) (w.setRow g (List.replicate n z).toArray) := by
  have hzc : (Builtin.zeroCells z.cells n).toList = List.replicate n z := by
    rw [hz1]
    simp only [Builtin.zeroCells]
    apply List.ext_getElem
    · simp
    · intro j h1 h2
      simp [Nat.mod_one]
  have hst := run_storeCells_from (P := P) g t (List.replicate n z) 0 cur w hg (by simp [hsz]) (by intro v hv; rw [List.eq_of_mem_replicate hv]; exact hone)
  simp only [List.take_zero, List.nil_append] at hst
  obtain ⟨k, rfl⟩ : ∃ k, n = k + 1 := ⟨n - 1, by omega⟩
  simp [Builtin.clear_, run_underlying hu, zeroValue, typeInfo, hi, hz, hzc, hst]
end Go.Proofs.Ytbdkmjjjafbaoaa
