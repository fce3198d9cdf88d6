import Derived.Test.YtnmklleoilicdaaUJ
import Derived.BigQuiet
import Derived.Deep.DrawnRows
namespace Go.Proofs.Ytnmklleoilicdaa
set_option maxRecDepth 100000
open Go.RowKit Go.Shelf Go.Maps
set_option linter.unusedVariables false

/-- The worlds that have but grown since W. -/
def Bw (W wx : World) : Prop := Below W.heap.size W wx
theorem Bw.cell {W wx : World} (h : Bw W wx) {p : Addr} {v : Value} (hc : W.cell? p = some v) : wx.cell? p = some v := (Below.cell h (World.block_lt_of_cell? W p hc)).trans hc
theorem Bw.on {W wx wy : World} (h : Bw W wx) (hb : Below wx.heap.size wx wy) : Bw W wy := bel_bel h (Below.size h) hb
theorem Bw.drew (W : World) : Bw W { W with drawn := W.drawn + 1 } := below_drew W
/-- A region that draws its order and whose callees make memory, walked once. -/
theorem wp_quietC {P : Program} {id : Nat} {Q : Exit → Act → World → Prop} {a : Act} {w : World} {l : List Oper} (C : World → Prop) (hm : P.follows .mixedOrders = true) (hB : Region.lexB .any l.toArray = true) (hC : C { w with drawn := w.drawn + 1 })
    (h : wpQuiet P l.toArray C (fun a' => ∀ w', C w' → Q .normal a' w') l a) : (Code.region id l.toArray true).wp P Q a w := wp_region_quiet (C := C) hm hB hC (by simpa using h)
theorem r_less {W wx : World} {a b : Option Addr} {n m : Nat} (c d : Nat) {xs ys : List Int} (q : Bool) (B : Bw W wx) (h1 : Bs W a n xs) (h2 : Bs W b m ys) (h01 : 0 < n) (h02 : 0 < m) (hn : n ≤ 1000000000) (hm : m ≤ 1000000000) (hq : lx xs ys = q) :
    Calls Try.prog 43 #[.slice a n c, .slice b m d] wx fun e w' => e = .returned (.bool q) ∧ Bw W w' := by
  obtain ⟨e1, _, h3⟩ := h1.below B
  obtain ⟨e2, _, h4⟩ := h2.below B
  rcases h3 with h3 | ⟨b1, o1, rfl, k1⟩
  · omega
  rcases h4 with h4 | ⟨b2, o2, rfl, k2⟩
  · omega
  refine (refLess_some b1 o1 c b2 o2 d n m xs ys wx e1 e2 hn hm k1 k2).mono ?_
  rintro e w1 ⟨rfl, nq, rfl⟩
  subst hq
  exact ⟨rfl, B.on (drawnN wx nq).below⟩
end Go.Proofs.Ytnmklleoilicdaa
