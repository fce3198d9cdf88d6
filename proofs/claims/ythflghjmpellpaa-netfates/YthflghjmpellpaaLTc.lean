import Derived.Test.YthflghjmpellpaaLTb
namespace Go.Proofs.Ythflghjmpellpaa
open Go.RowKit
set_option linter.unusedVariables false
set_option maxRecDepth 100000

/-- One more flight behind the book, its bytes made anew. -/
def Aq (w5 w7 : World) (bv bv' : Value) (ds : List FD) (no to : Int) (d : List Int) (n2 : Nat) : Prop := ∃ a2 c2 b6 w6 wA, Below w5.heap.size w5 w6 ∧ w6.ownsRow b6 5 1 (.slice a2 n2 c2) n2 (cells d) ∧ w5.heap.size ≤ b6 ∧ Below w6.heap.size w6 wA ∧
  w7.ownsRow 0 34 3 bv' (ds ++ [(⟨⟨no, to, d⟩, a2, c2⟩ : FD)]).length (fds (ds ++ [(⟨⟨no, to, d⟩, a2, c2⟩ : FD)])) ∧ wA.grownBy w7 bv.ownBlock ∧ (bv'.ownBlock = bv.ownBlock ∨ bv'.ownBlock = some wA.heap.size)
section
variable {w0 w wa w5 w7 wB w8 : World} {p j : Nat} {bv hv bv' hv' : Value} {K : Nat → Prop} {ds : List FD} {H : List Bool} {no to : Int} {d : List Int} {n2 : Nat}
theorem Aq.hown (h : Aq w5 w7 bv bv' ds no to d n2) (hf : Fs w5 K bv hv ds H) : w7.ownsRow 0 4 1 hv H.length (H.map Value.bool) := by
  obtain ⟨a2, c2, b6, w6, wA, g6, o6, h6, gA, o7, g7, l7⟩ := h
  refine row_same hf.hown fun k e => ?_
  have hk := (hf.hown.lt k e).2
  have s6 := g6.size
  have sA := gA.size
  exact (g7.block k (by omega) fun q => hf.bh q.symm e).trans ((gA.block k (by omega)).trans (g6.block k hk))
theorem Aq.other (h : Aq w5 w7 bv bv' ds no to d n2) {k : Nat} (hk : k < w5.heap.size) (e : bv.ownBlock ≠ some k) : w7.heap[k]? = w5.heap[k]? := by
  obtain ⟨a2, c2, b6, w6, wA, g6, o6, h6, gA, o7, g7, l7⟩ := h
  have s6 := g6.size
  have sA := gA.size
  exact (g7.block k (by omega) fun q => e q.symm).trans ((gA.block k (by omega)).trans (g6.block k hk))
theorem Fa.addA (h : Fa w0 wa p bv hv j K ds H) (hs : Sq w0 wa w5 p K ds H ⟨no, to, d⟩) (hno : no = (ds.length : Int) + 1) (hd : Okb d ∧ d.length ≤ 4096) (hdn : d.length = n2) (hA : Aq w5 w7 bv bv' ds no to d n2)
    (gB : Below w7.heap.size w7 wB) (o8 : w8.ownsRow 0 4 1 hv' (H ++ [true]).length ((H ++ [true]).map Value.bool)) (g8 : wB.grownBy w8 hv.ownBlock) (l8 : hv'.ownBlock = hv.ownBlock ∨ hv'.ownBlock = some wB.heap.size) :
    ∃ K' ds', Fa w0 w8 p bv' hv' (j + 1) K' ds' (H ++ [true]) := by
  obtain ⟨a2, c2, b6, w6, wA, g6, o6, h6, gA, o7, g7, l7⟩ := hA
  exact ⟨_, _, h.add (fun _ => hs) hno hd hdn g6 o6 h6 gA o7 g7 l7 gB o8 g8 l8⟩
end
end Go.Proofs.Ythflghjmpellpaa
