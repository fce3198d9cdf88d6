import Derived.Test.YtacjhbhmhgekhaaNH
import Derived.Test.YtacjhbhmhgekhaaNK
import Derived.Deep.CutRange
namespace Go.Proofs.Ytacjhbhmhgekhaa
open Go.RowKit
set_option linter.unusedVariables false
set_option maxRecDepth 100000

/-! A pair: the program's net and the document's. -/
def Pb (w : World) (q p r : Nat) (rv : Value) (lg : Bool) : Prop := w.heap[q]? = some (.cells #[.pointer (some ⟨p, 0, none⟩), .pointer (some ⟨r, 0, none⟩), rv, .bool lg] 35 (0, 0))
section
variable {w w' : World} {q p r : Nat} {rv : Value} {lg : Bool}
theorem Pb.c0 (k : Pb w q p r rv lg) : w.cell? ⟨q, 0, none⟩ = some (.pointer (some ⟨p, 0, none⟩)) := (cell_of_row _ _ 0 _ _ (0, 0) k).trans rfl
theorem Pb.c1 (k : Pb w q p r rv lg) : w.cell? ⟨q, 1, none⟩ = some (.pointer (some ⟨r, 0, none⟩)) := (cell_of_row _ _ 1 _ _ (0, 0) k).trans rfl
theorem Pb.c2 (k : Pb w q p r rv lg) : w.cell? ⟨q, 2, none⟩ = some rv := (cell_of_row _ _ 2 _ _ (0, 0) k).trans rfl
theorem Pb.c3 (k : Pb w q p r rv lg) : w.cell? ⟨q, 3, none⟩ = some (.bool lg) := (cell_of_row _ _ 3 _ _ (0, 0) k).trans rfl
theorem Pb.fz (k : Pb w q p r rv lg) (i : Nat) : w.frozen? ⟨q, i, none⟩ = false := by unfold Pb at k; simp [World.frozen?, k]
theorem Pb.lt (k : Pb w q p r rv lg) : q < w.heap.size := (Array.getElem?_eq_some_iff.1 k).1
theorem Pb.at (k : Pb w q p r rv lg) (e : w'.heap[q]? = w.heap[q]?) : Pb w' q p r rv lg := e.trans k
theorem Pb.s2 (k : Pb w q p r rv lg) (x : Value) : Pb (w.setCell ⟨q, 2, none⟩ x) q p r x lg := by unfold Pb at *; simp [World.setCell, Array.getElem?_modify, k]
theorem Pb.s3 (k : Pb w q p r rv lg) (x : Bool) : Pb (w.setCell ⟨q, 3, none⟩ (.bool x)) q p r rv x := by unfold Pb at *; simp [World.setCell, Array.getElem?_modify, k]
end
/-- A pair at one state; X: what it reaches. -/
structure Pp (w : World) (X : Nat → Prop) (q p r : Nat) (rv : Value) (zs : List Int) (lg : Bool) (L : List Fl) (g : Int) : Prop where
  blk : Pb w q p r rv lg
  room : w.ownsRow 0 5 1 rv zs.length (cells zs)
  ok : Okb zs
  fg : ∃ F G, Net w F p L g ∧ RNet w G r L g ∧ (∀ k, F k → ¬ G k ∧ k ≠ q ∧ rv.ownBlock ≠ some k) ∧ (∀ k, G k → k ≠ q ∧ rv.ownBlock ≠ some k) ∧ ∀ k, F k ∨ G k → X k
  xq : X q
  xr : ∀ k, rv.ownBlock = some k → X k
  lt : ∀ k, X k → k < w.heap.size
section
variable {w w' : World} {X Y : Nat → Prop} {q p r : Nat} {rv : Value} {zs : List Int} {lg : Bool} {L : List Fl} {g : Int}
theorem Pp.fx (h : Pp w X q p r rv zs lg L g) (hf : Fx Y w w') (hd : ∀ k, X k → ¬ Y k) : Pp w' X q p r rv zs lg L g := by
  obtain ⟨F, G, h1, h2, h3, h4, h5⟩ := h.fg
  exact ⟨h.blk.at (hf.block q h.blk.lt (hd q h.xq)), row_same h.room fun k e => hf.block k (h.lt k (h.xr k e)) (hd k (h.xr k e)), h.ok, ⟨F, G, h1.fx hf (fun k e => hd k (h5 k (.inl e))), h2.fx hf (fun k e => hd k (h5 k (.inr e))), h3, h4, h5⟩, h.xq, h.xr, fun k e => Nat.lt_of_lt_of_le (h.lt k e) hf.size⟩
theorem Pp.on (h : Pp w X q p r rv zs lg L g) (hb : Below w.heap.size w w') : Pp w' X q p r rv zs lg L g := h.fx (Y := fun _ => False) (Fx.of _ hb) (fun _ _ e => e)
theorem Pp.wide (h : Pp w X q p r rv zs lg L g) (hX : ∀ k, X k → Y k) (hl : ∀ k, Y k → k < w.heap.size) : Pp w Y q p r rv zs lg L g := by
  obtain ⟨F, G, h1, h2, h3, h4, h5⟩ := h.fg
  exact ⟨h.blk, h.room, h.ok, ⟨F, G, h1, h2, h3, h4, fun k e => hX k (h5 k e)⟩, hX _ h.xq, fun k e => hX k (h.xr k e), hl⟩
theorem Pp.gr (h : Pp w' X q p r rv zs lg L g) (hX : ∀ k, X k → k < w.heap.size) (hs : w.heap.size ≤ w'.heap.size) : Pp w' (Gr X w w') q p r rv zs lg L g :=
  h.wide (fun k e => ⟨.inl e, Nat.lt_of_lt_of_le (hX k e) hs⟩) fun k e => e.2
theorem Pp.nok (h : Pp w X q p r rv zs lg L g) : NOk L g := by
  obtain ⟨F, G, h1, _⟩ := h.fg
  exact h1.ok
theorem Pp.ne (h : Pp w X q p r rv zs lg L g) : rv.ownBlock ≠ some q := fun e => by
  obtain ⟨cur, hc⟩ := row_type h.room e
  rw [h.blk] at hc
  injection hc with hc
  injection hc with _ hc
  exact absurd hc (by decide)
/-- A flag turned. -/
theorem Pp.long (h : Pp w X q p r rv zs lg L g) (x : Bool) : Pp (w.setCell ⟨q, 3, none⟩ (.bool x)) X q p r rv zs x L g := by
  obtain ⟨F, G, h1, h2, h3, h4, h5⟩ := h.fg
  have hf : Fx (fun k => k = q) w (w.setCell ⟨q, 3, none⟩ (.bool x)) := (Fx.refl (fun k => k = q) w).set (g := q) rfl _
  exact ⟨h.blk.s3 x, row_same h.room fun k e => hf.block k (h.lt k (h.xr k e)) (fun q' => h.ne (by rw [← q']; exact e)), h.ok, ⟨F, G, h1.fx hf (fun k e => (h3 k e).2.1), h2.fx hf (fun k e => (h4 k e).1), h3, h4, h5⟩, h.xq, h.xr, fun k e => Nat.lt_of_lt_of_le (h.lt k e) hf.size⟩
/-- A new room. -/
theorem Pp.make (h : Pp w X q p r rv zs lg L g) {m : Nat} (hm : m ≤ 100000) : Pp ((w.setCell ⟨q, 2, none⟩ (.slice (some ⟨w.heap.size, 0, none⟩) m m)).alloc (.cells (cells (List.replicate m 0)).toArray 5)) (Gr X w ((w.setCell ⟨q, 2, none⟩ (.slice (some ⟨w.heap.size, 0, none⟩) m m)).alloc (.cells (cells (List.replicate m 0)).toArray 5))) q p r (.slice (some ⟨w.heap.size, 0, none⟩) m m) (List.replicate m 0) lg L g ∧ Fx X w ((w.setCell ⟨q, 2, none⟩ (.slice (some ⟨w.heap.size, 0, none⟩) m m)).alloc (.cells (cells (List.replicate m 0)).toArray 5)) := by
  obtain ⟨F, G, h1, h2, h3, h4, h5⟩ := h.fg
  have hql := h.blk.lt
  have hs0 : (w.setCell ⟨q, 2, none⟩ (.slice (some ⟨w.heap.size, 0, none⟩) m m)).heap.size = w.heap.size := by simp [World.setCell]
  have hf : Fx (fun k => k = q) w ((w.setCell ⟨q, 2, none⟩ (.slice (some ⟨w.heap.size, 0, none⟩) m m)).alloc (.cells (cells (List.replicate m 0)).toArray 5)) := ((Fx.refl (fun k => k = q) w).set (X := fun k => k = q) (g := q) rfl _).alloc _
  have hb : Pb ((w.setCell ⟨q, 2, none⟩ (.slice (some ⟨w.heap.size, 0, none⟩) m m)).alloc (.cells (cells (List.replicate m 0)).toArray 5)) q p r (.slice (some ⟨w.heap.size, 0, none⟩) m m) lg := (h.blk.s2 _).at (Below.heap_alloc _ _ _ (by rw [hs0]; exact hql))
  have hrow : ((w.setCell ⟨q, 2, none⟩ (.slice (some ⟨w.heap.size, 0, none⟩) m m)).alloc (.cells (cells (List.replicate m 0)).toArray 5)).ownsRow 0 5 1 (.slice (some ⟨w.heap.size, 0, none⟩) m m) (List.replicate m (0 : Int)).length (cells (List.replicate m 0)) := by
    refine ⟨by rw [cells_length]; simp, .inr ⟨w.heap.size, m, (cells (List.replicate m 0)).toArray, by simp, Nat.zero_le _, ?_, by simp, by unfold maxLen; omega, by simp [cells_length], List.take_of_length_le (by rw [cells_length]; simp)⟩⟩
    have := heap_alloc_new (w.setCell ⟨q, 2, none⟩ (.slice (some ⟨w.heap.size, 0, none⟩) m m)) (.cells (cells (List.replicate m 0)).toArray 5)
    rw [hs0] at this
    exact this
  have hsz : w.heap.size < ((w.setCell ⟨q, 2, none⟩ (.slice (some ⟨w.heap.size, 0, none⟩) m m)).alloc (.cells (cells (List.replicate m 0)).toArray 5)).heap.size := by simp [World.setCell]
  refine ⟨⟨hb, hrow, fun z hz => by rw [List.eq_of_mem_replicate hz]; omega, ⟨F, G, h1.fx hf (fun k e => (h3 k e).2.1), h2.fx hf (fun k e => (h4 k e).1), fun k e => ⟨(h3 k e).1, (h3 k e).2.1, fun q' => ?_⟩, fun k e => ⟨(h4 k e).1, fun q' => ?_⟩, fun k e => ⟨.inl (h5 k e), Nat.lt_of_lt_of_le (h.lt k (h5 k e)) hf.size⟩⟩, ⟨.inl h.xq, Nat.lt_of_lt_of_le hql hf.size⟩, fun k e => ?_, fun k e => e.2⟩, hf.weak fun k _ e => by rw [e]; exact h.xq⟩
  · have : some w.heap.size = some k := q'
    have := Option.some.inj this
    have := h.lt k (h5 k (.inl e))
    omega
  · have : some w.heap.size = some k := q'
    have := Option.some.inj this
    have := h.lt k (h5 k (.inr e))
    omega
  · have : some w.heap.size = some k := e
    have := Option.some.inj this
    exact ⟨.inr (by omega), by omega⟩
end
/-- The room as it is written: of w1 only its block has turned. -/
structure Rm (w1 wr : World) (b m cap : Nat) (zs : List Int) : Prop where
  row : wr.ownsRow 0 5 1 (.slice (some ⟨b, 0, none⟩) m cap) m (cells zs)
  len : zs.length = m
  ok : Okb zs
  fx : Fx (fun k => k = b) w1 wr
section
variable {w1 wr : World} {b m cap : Nat} {zs : List Int}
theorem Rm.set (h : Rm w1 wr b m cap zs) {i : Nat} {x : Int} (hx : 0 ≤ x ∧ x ≤ 255) : Rm w1 (wr.setCell ⟨b, i, none⟩ (.int .u8 x)) b m cap (zs.set i x) :=
  ⟨by have := (h.row.stored i (.int .u8 x)).1; rw [show cells (zs.set i x) = (cells zs).set i (.int .u8 x) from by simp [cells, List.map_set]]; exact this, by rw [List.length_set]; exact h.len, okb_set h.ok _ _ hx, h.fx.set (X := fun k => k = b) rfl _⟩
theorem Rm.drew (h : Rm w1 wr b m cap zs) : Rm w1 wr.drew b m cap zs := ⟨h.row, h.len, h.ok, h.fx.drawn (drawnN wr 1)⟩
theorem Rm.cell (h : Rm w1 wr b m cap zs) {i : Nat} (hi : i < m) : wr.cell? ⟨b, i, none⟩ = some (.int .u8 (zs.getD i 0)) := by
  rw [h.row.cellAt i (by omega), cells_get zs i (by rw [h.len]; exact hi)]
theorem Rm.fz (h : Rm w1 wr b m cap zs) (i : Nat) : wr.frozen? ⟨b, i, none⟩ = false := h.row.frozenAt i
theorem Rm.vs (h : Rm w1 wr b m cap zs) : Vs wr (fun k => k = b) (some ⟨b, 0, none⟩) m cap zs := by
  obtain ⟨a, c, e, hv⟩ := Vs.own h.row h.ok
  obtain ⟨rfl, rfl⟩ : some ⟨b, 0, none⟩ = a ∧ cap = c := by simpa using e
  exact hv.wide fun k _ e => (by have : some b = some k := e; exact (Option.some.inj this).symm)
end
theorem Pp.rm {w1 wr : World} {X : Nat → Prop} {q p r b m cap : Nat} {zs zs' : List Int} {lg : Bool} {L : List Fl} {g : Int} (h : Pp w1 X q p r (.slice (some ⟨b, 0, none⟩) m cap) zs lg L g) (hr : Rm w1 wr b m cap zs') : Pp wr X q p r (.slice (some ⟨b, 0, none⟩) m cap) zs' lg L g := by
  obtain ⟨F, G, h1, h2, h3, h4, h5⟩ := h.fg
  exact ⟨h.blk.at (hr.fx.block q h.blk.lt (fun e => h.ne (by rw [e]; rfl))), by rw [hr.len]; exact hr.row, hr.ok, ⟨F, G, h1.fx hr.fx (fun k e q' => (h3 k e).2.2 (by rw [q']; rfl)), h2.fx hr.fx (fun k e q' => (h4 k e).2 (by rw [q']; rfl)), h3, h4, h5⟩, h.xq, h.xr, fun k e => Nat.lt_of_lt_of_le (h.lt k e) hr.fx.size⟩
end Go.Proofs.Ytacjhbhmhgekhaa
