import Derived.Test.YtheafbbihejdmabME
namespace Go.Proofs.Ytheafbbihejdmab
set_option maxRecDepth 100000
open Go.RowKit Go.Shelf
set_option linter.unusedVariables false

/-- A model's cells when it is new. -/
def mz : Array Value := Array.replicate 33 (.slice none 0 0)
theorem mz_built : Try.prog.built 31 [] = some mz := by kernel_rfl
theorem wpList_mz {ops : Array Oper} {rest : List Oper} {o : Oper} {a : Act} {w : World} {Q : Exit → Act → World → Prop} (hg : o.guard = none) (ho : o.op = .build 31 #[])
    (h : wpList Try.prog ops Q rest (a.put o.dst (.agg mz)) w) : wpList Try.prog ops Q (o :: rest) a w := by
  exact wpList_build hg 31 #[] ho (by simp [mz_built]) (by simpa [mz_built] using h)
theorem sy_new {w0 w : World} {d : Nat} {Q : Nat → Prop} (D : Dev w d (st0 32) Q) (lo : ∀ b, Q b → w0.heap.size ≤ b) (B : Below w0.heap.size w0 w) : Sy w0 (w.alloc (.cells mz 31)) d (st0 32) Q w.heap.size := by
  have BA : Below w.heap.size w (w.alloc (.cells mz 31)) := (Below.refl _ _).alloc (Nat.le_refl _) _
  refine ⟨D.below BA, ⟨mz, none, 0, [], ⟨heap_alloc_new w _, by simp [mz], fun i hi => ⟨.slice none 0 0, by unfold mz; rw [Array.getElem?_replicate, if_pos (by omega)], .inl ⟨rfl, rfl⟩⟩, by simp [mz], World.ownsRow_nil _ _ _ _, fun x hx => by simp at hx, rfl, ⟨B.size, fun hq => by have := D.lt _ hq; omega⟩, fun q hq => by simp [Value.ownBlock] at hq⟩⟩, lo, bel_bel B B.size BA, rfl⟩
theorem IsOps.cells {w wx : World} {a : Option Addr} {n j : Nat} {O : Nat → Ov} (h : IsOps w a n O) (hj : j < n) (hb : Below w.heap.size w wx) : ∃ b off, a = some ⟨b, off, none⟩ ∧ wx.cell? ⟨b, off + j * 6, none⟩ = some (.int .i64 (O j).K) ∧ wx.cell? ⟨b, off + j * 6 + 1, none⟩ = some (.int .i64 (O j).I) ∧ wx.cell? ⟨b, off + j * 6 + 2, none⟩ = some (.bool (O j).sc) ∧ wx.cell? ⟨b, off + j * 6 + 3, none⟩ = some (.slice (O j).Da (O j).Dn (O j).Dc) ∧ wx.cell? ⟨b, off + j * 6 + 4, none⟩ = some (.slice (O j).Fa (O j).Fn (O j).Fc) ∧ wx.cell? ⟨b, off + j * 6 + 5, none⟩ = some (.slice (O j).Ka (O j).Kn (O j).Kc) := by
  rcases h with h0 | ⟨b, off, e, hc⟩
  · omega
  · obtain ⟨⟨c0, c1, c2, c3, c4, c5⟩, _⟩ := hc j hj
    have hl := World.block_lt_of_cell? w _ c0
    exact ⟨b, off, e, (hb.cell (p := ⟨b, off + j * 6, none⟩) hl).trans c0, (hb.cell (p := ⟨b, off + j * 6 + 1, none⟩) hl).trans c1, (hb.cell (p := ⟨b, off + j * 6 + 2, none⟩) hl).trans c2, (hb.cell (p := ⟨b, off + j * 6 + 3, none⟩) hl).trans c3, (hb.cell (p := ⟨b, off + j * 6 + 4, none⟩) hl).trans c4, (hb.cell (p := ⟨b, off + j * 6 + 5, none⟩) hl).trans c5⟩
theorem IsOps.ok {w : World} {a : Option Addr} {n j : Nat} {O : Nat → Ov} (h : IsOps w a n O) (hj : j < n) : (O j).Ok w := by
  rcases h with h0 | ⟨b, off, e, hc⟩
  · omega
  · exact (hc j hj).2
end Go.Proofs.Ytheafbbihejdmab
