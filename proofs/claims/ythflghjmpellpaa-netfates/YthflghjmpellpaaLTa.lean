import Derived.Test.YthflghjmpellpaaLT9
namespace Go.Proofs.Ythflghjmpellpaa
open Go.RowKit
set_option linter.unusedVariables false
set_option maxRecDepth 100000

/-- What holds at the head of the loop. -/
structure Fa (w0 w : World) (p : Nat) (bv hv : Value) (j : Nat) (K : Nat → Prop) (ds : List FD) (H : List Bool) : Prop where
  hk : Hk w0 w K p (her (ds.map (·.f)) H) (ds.length : Int)
  fs : Fs w K bv hv ds H
  lo : ∀ k, K k → w0.heap.size ≤ k
  len : ds.length ≤ j
section
variable {w0 w w' : World} {p j : Nat} {bv hv : Value} {K K' : Nat → Prop} {ds : List FD} {H : List Bool}
theorem Fa.more (h : Fa w0 w p bv hv j K ds H) : Fa w0 w p bv hv (j + 1) K ds H := ⟨h.hk, h.fs, h.lo, Nat.le_succ_of_le h.len⟩
/-- New memory changes nothing of it. -/
theorem Fa.on (h : Fa w0 w p bv hv j K ds H) (hb : Below w.heap.size w w') : Fa w0 w' p bv hv j (fun k => K k ∨ (w.heap.size ≤ k ∧ k < w'.heap.size)) ds H :=
  ⟨h.hk.on hb, (h.fs.kx (h.hk.kx hb)).wide fun k e => .inl e, fun k e => e.elim (h.lo k) (fun e => Nat.le_trans h.hk.bel.size e.1), h.len⟩
/-- The book with the net that a call has left. -/
theorem Fa.net (h : Fa w0 w p bv hv j K ds H) {L : List Fl} {g : Int} (hk : Hk w0 w' K p L g) (hx : Kx K w w') (hL : L = her (ds.map (·.f)) H) (hg : g = (ds.length : Int)) : Fa w0 w' p bv hv j K ds H := by
  subst hL hg
  exact ⟨hk, h.fs.kx hx, h.lo, h.len⟩
/-- One that is here no more. -/
theorem Fa.gone (h : Fa w0 w p bv hv j K ds H) {w2 : World} {g : Int} {i : Nat} (hi : i < ds.length) (hk : Hk w0 w' K p (outL (her (ds.map (·.f)) H) ((i : Int) + 1)) g) (hx : Kx K w w') (hg : g = (ds.length : Int))
    (hf : Fx (fun k => hv.ownBlock = some k) w' w2) (hh : w2.ownsRow 0 4 1 hv (H.set i false).length ((H.set i false).map Value.bool)) : Fa w0 w2 p bv hv (j + 1) (fun k => K k ∨ (w'.heap.size ≤ k ∧ k < w2.heap.size)) ds (H.set i false) := by
  subst hg
  have h1 := (h.fs.kx hx).off hf hh
  have h2 := hk.turn hf fun k e => ⟨h.fs.kh k e, h.lo k (h.fs.kh k e)⟩
  have he := her_out (ds.map (·.f)) H 0 i h.fs.nos (by rw [List.length_map]; exact h.fs.len) (by rw [List.length_map]; exact hi)
  rw [show (0 : Int) + 1 + i = (i : Int) + 1 from by omega] at he
  rw [he] at h2
  exact ⟨h2, h1.wide fun k e => .inl e, fun k e => e.elim (h.lo k) (fun e => Nat.le_trans hk.bel.size e.1), Nat.le_succ_of_le h.len⟩
/-- A flip. -/
theorem Fa.flips (h : Fa w0 w p bv hv j K ds H) {w2 : World} {g : Int} {i t : Nat} {v : Int} (hi : i < ds.length) (hk : Hk w0 w' K p (flipL (her (ds.map (·.f)) H) ((i : Int) + 1) t v) g) (hx : Kx K w w') (hg : g = (ds.length : Int))
    (hf : Fx (fun k => (fv ds[i]).ownBlock = some k) w' w2) (hd : w2.ownsRow 0 5 1 (fv ds[i]) (flD ds[i] t v).f.d.length (cells (flD ds[i] t v).f.d)) : Fa w0 w2 p bv hv (j + 1) (fun k => K k ∨ (w'.heap.size ≤ k ∧ k < w2.heap.size)) (ds.set i (flD ds[i] t v)) H := by
  subst hg
  have h1 := (h.fs.kx hx).flip hi hf hd
  have h2 := hk.turn hf fun k e => ⟨h.fs.kd _ (List.getElem_mem hi) k e, h.lo k (h.fs.kd _ (List.getElem_mem hi) k e)⟩
  have he := her_flip (ds.map (·.f)) H 0 i t v h.fs.nos (by rw [List.length_map]; exact hi)
  rw [show (0 : Int) + 1 + i = (i : Int) + 1 from by omega] at he
  rw [he, ← Fs.flip_map hi] at h2
  exact ⟨by rw [List.length_set]; exact h2, h1.wide fun k e => .inl e, fun k e => e.elim (h.lo k) (fun e => Nat.le_trans hk.bel.size e.1), by rw [List.length_set]; exact Nat.le_succ_of_le h.len⟩
theorem own_zero {b e sz n : Nat} {v : Value} {xs : List Value} (h : w.ownsRow b e sz v n xs) : w.ownsRow 0 e sz v n xs := by
  obtain ⟨h1, h2⟩ := h
  refine ⟨h1, ?_⟩
  rcases h2 with h2 | ⟨g, cap, cur, e1, hb, hr⟩
  · exact .inl h2
  · exact .inr ⟨g, cap, cur, e1, Nat.zero_le _, hr⟩
/-- One more in the book: its bytes, its row, its mark. -/
theorem Fa.add (h : Fa w0 w p bv hv j K ds H) {w6 wA w7 wB w8 : World} {d : List Int} {no to : Int} {a2 : Option Addr} {n2 c2 b6 : Nat} {bv' hv' : Value}
    (hk : Hk w0 w K p (her (ds.map (·.f)) H) (ds.length : Int) → Hk w0 w' K p (her (ds.map (·.f)) H ++ [⟨no, to, d⟩]) ((ds.length : Int) + 1) ∧ Kx K w w')
    (hno : no = (ds.length : Int) + 1) (hd : Okb d ∧ d.length ≤ 4096) (hdn : d.length = n2)
    (g6 : Below w'.heap.size w' w6) (o6 : w6.ownsRow b6 5 1 (.slice a2 n2 c2) n2 (cells d)) (h6 : w'.heap.size ≤ b6)
    (gA : Below w6.heap.size w6 wA)
    (o7 : w7.ownsRow 0 34 3 bv' (ds ++ [(⟨⟨no, to, d⟩, a2, c2⟩ : FD)]).length (fds (ds ++ [(⟨⟨no, to, d⟩, a2, c2⟩ : FD)]))) (g7 : wA.grownBy w7 bv.ownBlock) (l7 : bv'.ownBlock = bv.ownBlock ∨ bv'.ownBlock = some wA.heap.size)
    (gB : Below w7.heap.size w7 wB)
    (o8 : w8.ownsRow 0 4 1 hv' (H ++ [true]).length ((H ++ [true]).map Value.bool)) (g8 : wB.grownBy w8 hv.ownBlock) (l8 : hv'.ownBlock = hv.ownBlock ∨ hv'.ownBlock = some wB.heap.size) :
    Fa w0 w8 p bv' hv' (j + 1) (fun k => K k ∨ (w'.heap.size ≤ k ∧ k < w8.heap.size)) (ds ++ [⟨⟨no, to, d⟩, a2, c2⟩]) (H ++ [true]) := by
  obtain ⟨hk1, hx⟩ := hk h.hk
  have hfs := h.fs.kx hx
  have s6 := g6.size
  have sA := gA.size
  have s7 := g7.size
  have sB := gB.size
  have s8 := g8.size
  have hblk : ∀ k, k < w'.heap.size → bv.ownBlock ≠ some k → hv.ownBlock ≠ some k → w8.heap[k]? = w'.heap[k]? := fun k hk e1 e2 =>
    (((g8.block k (by omega) (fun e => e2 e.symm)).trans (gB.block k (by omega))).trans (g7.block k (by omega) (fun e => e1 e.symm))).trans ((gA.block k (by omega)).trans (g6.block k hk))
  have hf : Fx (fun k => bv.ownBlock = some k ∨ hv.ownBlock = some k) w' w8 :=
    ⟨(((g8.os.trans gB.os).trans g7.os).trans gA.os).trans g6.os, (((g8.tape.trans gB.tape).trans g7.tape).trans gA.tape).trans g6.tape, (((g8.output.trans gB.output).trans g7.output).trans gA.output).trans g6.output, by omega, fun k hk hX => hblk k hk (fun e => hX (.inl e)) (fun e => hX (.inr e))⟩
  have hb8 : w8.ownsRow 0 34 3 bv' (ds ++ [(⟨⟨no, to, d⟩, a2, c2⟩ : FD)]).length (fds (ds ++ [(⟨⟨no, to, d⟩, a2, c2⟩ : FD)])) := row_same o7 fun k e => by
    have hk7 := (o7.lt k e).2
    refine (g8.block k (by omega) fun e2 => ?_).trans (gB.block k hk7)
    obtain ⟨_, t1⟩ := row_type o7 e
    obtain ⟨_, t2⟩ := row_type hfs.hown e2.symm
    have hkw := (hfs.hown.lt k e2.symm).2
    have e3 : w7.heap[k]? = w'.heap[k]? := (g7.block k (by omega) fun q => hfs.bh q.symm e2.symm).trans ((gA.block k (by omega)).trans (g6.block k hkw))
    rw [e3, t2] at t1
    simp at t1
  have hd8 : w8.ownsRow 0 5 1 (fv (⟨⟨no, to, d⟩, a2, c2⟩ : FD)) d.length (cells d) := by
    have o6' : w6.ownsRow 0 5 1 (.slice a2 d.length c2) d.length (cells d) := by rw [hdn]; exact own_zero o6
    refine row_same o6' fun k e => ?_
    have hk6 := (o6'.lt k e).2
    have hge : w'.heap.size ≤ k := by
      have e : (Value.slice a2 d.length c2).ownBlock = some k := e
      rw [hdn] at e
      have := (o6.lt k e).1
      omega
    have eA : wA.heap[k]? = w6.heap[k]? := gA.block k hk6
    have e7 : w7.heap[k]? = wA.heap[k]? := g7.block k (by omega) fun q => by have := (hfs.bown.lt k q.symm).2; omega
    have eB : wB.heap[k]? = w7.heap[k]? := gB.block k (by omega)
    have e8 : w8.heap[k]? = wB.heap[k]? := g8.block k (by omega) fun q => by have := (hfs.hown.lt k q.symm).2; omega
    exact e8.trans (eB.trans (e7.trans eA))
  have h1 := hfs.add (d := ⟨⟨no, to, d⟩, a2, c2⟩) hf hb8 o8 hd8 (fun k e => by
      have := (o6.lt k (by simpa [fv, hdn] using e)).1
      omega) (fun k e => by
      rcases l7 with q | q
      · exact .inl (q.symm.trans e)
      · rw [q] at e; cases e; right; omega) (fun k e => by
      rcases l8 with q | q
      · exact .inl (q.symm.trans e)
      · rw [q] at e; cases e; right; omega) hd hno
  have h2 := hk1.turn hf fun k e => e.elim (fun e => ⟨h.fs.kb k e, h.lo k (h.fs.kb k e)⟩) (fun e => ⟨h.fs.kh k e, h.lo k (h.fs.kh k e)⟩)
  have he := her_app (ds.map (·.f)) H ⟨no, to, d⟩ (by rw [List.length_map]; exact h.fs.len)
  refine ⟨?_, h1, fun k e => e.elim (h.lo k) (fun e => Nat.le_trans hk1.bel.size e.1), by rw [List.length_append, List.length_singleton]; have := h.len; omega⟩
  rw [List.map_append, List.length_append, List.length_singleton]
  show Hk w0 w8 _ p (her (ds.map (·.f) ++ [⟨no, to, d⟩]) (H ++ [true])) ((ds.length + 1 : Nat) : Int)
  rw [he]
  exact h2
end
end Go.Proofs.Ythflghjmpellpaa
