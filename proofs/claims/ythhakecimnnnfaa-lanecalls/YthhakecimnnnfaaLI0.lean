import Derived.Test.YthhakecimnnnfaaLH
namespace Go.Proofs.Ythhakecimnnnfaa
set_option maxRecDepth 100000
open Go.RowKit
set_option linter.unusedVariables false

/-- The law's numbers in a variable. -/
def Nm (w : World) (p : Nat) (G B X Y T U : Int) : Prop := w.heap[p]? = some (.cells #[.int .i64 G, .int .i64 B, .int .u64 X, .int .u64 Y, .int .i64 T, .int .i64 U] 38 (0, 0))
section
variable {w w' : World} {p : Nat} {G B X Y T U : Int}
theorem Nm.c0 (h : Nm w p G B X Y T U) : w.cell? ⟨p, 0, none⟩ = some (.int .i64 G) := (cell_of_row w p 0 _ _ (0, 0) h).trans rfl
theorem Nm.c1 (h : Nm w p G B X Y T U) : w.cell? ⟨p, 1, none⟩ = some (.int .i64 B) := (cell_of_row w p 1 _ _ (0, 0) h).trans rfl
theorem Nm.c2 (h : Nm w p G B X Y T U) : w.cell? ⟨p, 2, none⟩ = some (.int .u64 X) := (cell_of_row w p 2 _ _ (0, 0) h).trans rfl
theorem Nm.c3 (h : Nm w p G B X Y T U) : w.cell? ⟨p, 3, none⟩ = some (.int .u64 Y) := (cell_of_row w p 3 _ _ (0, 0) h).trans rfl
theorem Nm.c4 (h : Nm w p G B X Y T U) : w.cell? ⟨p, 4, none⟩ = some (.int .i64 T) := (cell_of_row w p 4 _ _ (0, 0) h).trans rfl
theorem Nm.c5 (h : Nm w p G B X Y T U) : w.cell? ⟨p, 5, none⟩ = some (.int .i64 U) := (cell_of_row w p 5 _ _ (0, 0) h).trans rfl
theorem Nm.lt (h : Nm w p G B X Y T U) : p < w.heap.size := (Array.getElem?_eq_some_iff.1 h).1
theorem Nm.at (h : Nm w p G B X Y T U) (e : w'.heap[p]? = w.heap[p]?) : Nm w' p G B X Y T U := by unfold Nm at *; rw [e]; exact h
theorem Nm.kept (h : Nm w p G B X Y T U) (hb : Below w.heap.size w w') : Nm w' p G B X Y T U := h.at (hb.block p h.lt)
theorem Nm.new (w : World) (G B X Y T U : Int) : Nm (w.alloc (.cells #[.int .i64 G, .int .i64 B, .int .u64 X, .int .u64 Y, .int .i64 T, .int .i64 U] 38)) w.heap.size G B X Y T U := heap_alloc_new w _
end
theorem Rm.same {w w' : World} {g m cap : Nat} {k : List Int} (h : Rm w g m cap k) (e : w'.heap[g]? = w.heap[g]?) : Rm w' g m cap k := ⟨h.bs.same_block fun ad e' _ => by obtain rfl := Option.some.inj e'; exact e, h.ce, h.mx⟩
/-- What stands while the calls are asked. -/
structure Ct (w wc : World) (L pw gg g m cap : Nat) (a : Option Addr) (c : Nat) (k : List Int) (S C N D E s n G B X Y T U : Int) : Prop where
  lw : Lm wc pw (some ⟨g, 0, none⟩) m cap S C N D E s n
  ll : Lm wc gg a m c S C N D E s n
  nn : Nm wc (gg + 1) G B X Y T U
  rm : Rm wc g m cap k
  hk : Bs w a m k
  bel : Below w.heap.size w wc
  l1 : pw < L
  l2 : gg + 1 < L
  l3 : g < L
  l4 : w.heap.size ≤ L
section
variable {w wc w' : World} {L pw gg g m cap : Nat} {a : Option Addr} {c : Nat} {k : List Int} {S C N D E s n G B X Y T U : Int}
theorem Ct.on (h : Ct w wc L pw gg g m cap a c k S C N D E s n G B X Y T U) (hb : Below wc.heap.size wc w') : Ct w w' L pw gg g m cap a c k S C N D E s n G B X Y T U := ⟨h.lw.kept hb, h.ll.kept hb, h.nn.kept hb, h.rm.on hb, h.hk, bel_bel h.bel h.bel.size hb, h.l1, h.l2, h.l3, h.l4⟩
theorem Ct.row (h : Ct w wc L pw gg g m cap a c k S C N D E s n G B X Y T U) {p : Nat} (hp : L ≤ p) (ds : Array Value) : Ct w (wc.setRow p ds) L pw gg g m cap a c k S C N D E s n G B X Y T U := by
  have h1 := h.l1
  have h2 := h.l2
  have h3 := h.l3
  have h4 := h.l4
  exact ⟨h.lw.at (setRow_other _ _ _ _ (by omega)), h.ll.at (setRow_other _ _ _ _ (by omega)), h.nn.at (setRow_other _ _ _ _ (by omega)), h.rm.same (setRow_other _ _ _ _ (by omega)), h.hk, bel_row h.bel (by omega) _, h1, h2, h3, h4⟩
theorem Ct.liw (h : Ct w wc L pw gg g m cap a c k S C N D E s n G B X Y T U) (hi : Li w a m k S C N D E s n) : Li wc (some ⟨g, 0, none⟩) m k S C N D E s n := ⟨h.rm.key h.hk.1, hi.m, hi.S, hi.C, hi.N, hi.D, hi.E, hi.s, hi.n⟩
theorem Ct.lil (h : Ct w wc L pw gg g m cap a c k S C N D E s n G B X Y T U) (hi : Li w a m k S C N D E s n) : Li wc a m k S C N D E s n := ⟨hi.k.below h.bel, hi.m, hi.S, hi.C, hi.N, hi.D, hi.E, hi.s, hi.n⟩
end
theorem same17 (aa ab : Option Addr) (Ma ca cb : Nat) (kR : List Int) (S C N D E s n : Int) (w : World) (ha : Bs w aa Ma kR) (hb : Bs w ab Ma kR) (hm : Ma ≤ maxLen) :
    Calls Try.prog 17 #[.agg #[.slice aa Ma ca, .int .i64 S, .int .i64 C, .int .i64 N, .int .u64 D, .int .u64 E, .int .i64 s, .int .i64 n], .agg #[.slice ab Ma cb, .int .i64 S, .int .i64 C, .int .i64 N, .int .u64 D, .int .u64 E, .int .i64 s, .int .i64 n]] w fun e w' => e = .returned (.bool true) ∧ Below w.heap.size w w' := by
  have h := sameLane_ aa ab Ma ca Ma cb kR kR S C N D E s n S C N D E s n w ha hb hm hm
  rw [show slE kR kR S C N D E s n S C N D E s n = true from by simp [slE]] at h
  exact h
end Go.Proofs.Ythhakecimnnnfaa
