import Derived.Test.YthflghjmpellpaaLT5
namespace Go.Proofs.Ythflghjmpellpaa
open Go.RowKit
set_option linter.unusedVariables false
set_option maxRecDepth 100000

section
variable {w0 w w' : World} {K X : Nat → Prop} {p : Nat} {L : List Fl} {g : Int} {bv hv bv' hv' : Value} {ds : List FD} {H : List Bool} {d : FD}
/-- What turns lies beside the net. -/
theorem Hk.turn (h : Hk w0 w K p L g) (hf : Fx X w w') (hX : ∀ k, X k → K k ∧ w0.heap.size ≤ k) : Hk w0 w' (fun k => K k ∨ (w.heap.size ≤ k ∧ k < w'.heap.size)) p L g := by
  obtain ⟨F, h1, h2⟩ := h.net
  exact ⟨⟨F, h1.fx hf (fun k e q => (h2 k e).2 (hX k q).1), fun k e => ⟨(h2 k e).1, fun q => q.elim (h2 k e).2 (fun q => by have := h1.lt k e; omega)⟩⟩, fun k e => e.elim (fun e => Nat.lt_of_lt_of_le (h.kl k e) hf.size) (fun e => e.2), hf.below h.bel h.bel.size fun k e => (hX k e).2⟩
/-- One more in the book, and here. -/
theorem Fs.add (h : Fs w K bv hv ds H) (hf : Fx (fun k => bv.ownBlock = some k ∨ hv.ownBlock = some k) w w')
    (hb : w'.ownsRow 0 34 3 bv' (ds ++ [d]).length (fds (ds ++ [d]))) (hh : w'.ownsRow 0 4 1 hv' (H ++ [true]).length ((H ++ [true]).map Value.bool))
    (hd : w'.ownsRow 0 5 1 (fv d) d.f.d.length (cells d.f.d)) (hdn : ∀ k, (fv d).ownBlock = some k → w.heap.size ≤ k)
    (hb2 : ∀ k, bv'.ownBlock = some k → bv.ownBlock = some k ∨ w.heap.size ≤ k) (hh2 : ∀ k, hv'.ownBlock = some k → hv.ownBlock = some k ∨ w.heap.size ≤ k)
    (hby : Okb d.f.d ∧ d.f.d.length ≤ 4096) (hno : d.f.no = ds.length + 1) : Fs w' (fun k => K k ∨ (w.heap.size ≤ k ∧ k < w'.heap.size)) bv' hv' (ds ++ [d]) (H ++ [true]) := by
  refine ⟨hb, hh, ?_, ?_, ?_, ?_, ?_, ?_, ?_, ?_⟩
  · intro y hy
    rcases List.mem_append.1 hy with hy | hy
    · refine row_same (h.down y hy) fun k e => hf.block k ((h.down y hy).lt k e).2 fun q => ?_
      have := h.bd hy e
      exact q.elim this.1 this.2
    · rw [List.mem_singleton.1 hy]; exact hd
  · unfold Apart
    rw [List.pairwise_append]
    refine ⟨h.apart, List.pairwise_singleton _ _, fun x hx y hy k e1 e2 => ?_⟩
    rw [List.mem_singleton.1 hy] at e2
    have h1 := hdn k e2
    have h2 := ((h.down x hx).lt k e1).2
    omega
  · intro k e
    rcases hb2 k e with q | q
    · exact .inl (h.kb k q)
    · exact .inr ⟨q, (hb.lt k e).2⟩
  · intro k e
    rcases hh2 k e with q | q
    · exact .inl (h.kh k q)
    · exact .inr ⟨q, (hh.lt k e).2⟩
  · intro y hy k e
    rcases List.mem_append.1 hy with hy | hy
    · exact .inl (h.kd y hy k e)
    · rw [List.mem_singleton.1 hy] at e
      exact .inr ⟨hdn k e, (hd.lt k e).2⟩
  · intro y hy
    rcases List.mem_append.1 hy with hy | hy
    · exact h.byt y hy
    · rw [List.mem_singleton.1 hy]; exact hby
  · rw [List.length_append, List.length_append, h.len]; rfl
  · rw [List.map_append]
    exact nos_app _ 0 _ h.nos (by rw [hno, List.length_map]; omega)
/-- One that is here no more. -/
theorem Fs.off (h : Fs w K bv hv ds H) {i : Nat} (hf : Fx (fun k => hv.ownBlock = some k) w w') (hh : w'.ownsRow 0 4 1 hv (H.set i false).length ((H.set i false).map Value.bool)) : Fs w' K bv hv ds (H.set i false) :=
  ⟨row_same h.bown fun k e => hf.block k (h.bown.lt k e).2 (h.bh e), hh, fun y hy => row_same (h.down y hy) fun k e => hf.block k ((h.down y hy).lt k e).2 (h.bd hy e).2, h.apart, h.kb, h.kh, h.kd, h.byt, by rw [List.length_set]; exact h.len, h.nos⟩
end
end Go.Proofs.Ythflghjmpellpaa
