import Derived.Test.YthjfgdldclhbhaaMJ
namespace Go.Proofs.Ythjfgdldclhbhaa
set_option maxRecDepth 100000
open Go.RowKit Go.Shelf
set_option linter.unusedVariables false

/-- The cells of the document's device. -/
def rcs (s : St) (gl : Nat) (pv fv : Value) : Array Value := #[.int .i64 s.n, .slice (some ⟨gl, 0, none⟩) s.n s.n, pv, .bool s.on, fv, .int .i64 s.c, .int .i64 s.k]
/-- The document's device; its blocks are of N. -/
structure Rk (w : World) (e : Nat) (s : St) (N : Nat → Prop) (gl : Nat) (cur : Array Value) (pa : Option Addr) (pc : Nat) (I : List It) (fa : Option Addr) (fc : Nat) (fs : List (Int × Int)) : Prop where
  blk : w.heap[e]? = some (.cells (rcs s gl (.slice pa I.length pc) (.slice fa fs.length fc)) 87 (0, 0))
  lb : w.heap[gl]? = some (.cells cur 25 (0, 0))
  sz : cur.size = s.n
  lasts : ∀ i, i < s.n → ∃ v, cur[i]? = some v ∧ Slt w N v (s.S i)
  own : w.ownsRow 0 94 2 (.slice pa I.length pc) I.length (pcs I)
  it : ∀ x ∈ I, x.S < s.n ∧ Bs w (some ⟨x.g, 0, none⟩) 512 x.Z ∧ (∃ cur, w.heap[x.g]? = some (.cells cur 5 (0, 0))) ∧ N x.g ∧ 512 ≤ x.c ∧ x.c ≤ maxLen
  ip : s.P = I.map fun x => (x.S, x.Z)
  ownF : w.ownsRow 0 71 2 (.slice fa fs.length fc) fs.length (fcs fs)
  fl : fs.length ≤ 140737488355328
  fk : ∀ f ∈ fs, f.2 = 1 ∨ f.2 = 2
  fF : s.F = lookF fs
  ne : N e
  nl : N gl
  np : ∀ q, (Value.slice pa I.length pc).ownBlock = some q → N q
  nf : ∀ q, (Value.slice fa fs.length fc).ownBlock = some q → N q
  n1 : 32 ≤ s.n
  n2 : s.n ≤ 8192
def Rd (w : World) (e : Nat) (s : St) (N : Nat → Prop) : Prop := ∃ gl cur pa pc I fa fc fs, Rk w e s N gl cur pa pc I fa fc fs
section
variable {w w' : World} {e : Nat} {s s' : St} {N R : Nat → Prop} {gl : Nat} {cur : Array Value} {pa : Option Addr} {pc : Nat} {I : List It} {fa : Option Addr} {fc : Nat} {fs : List (Int × Int)}
theorem Rk.keep (h : Rk w e s N gl cur pa pc I fa fc fs) (k : ∀ b, N b → b < w.heap.size → w'.heap[b]? = w.heap[b]?) (hn : ∀ b, N b → b < w.heap.size → R b) : Rk w' e s R gl cur pa pc I fa fc fs := by
  have hle := (Array.getElem?_eq_some_iff.1 h.blk).1
  have hll := (Array.getElem?_eq_some_iff.1 h.lb).1
  refine ⟨(k e h.ne hle).trans h.blk, (k gl h.nl hll).trans h.lb, h.sz, fun i hi => ?_, own_at' h.own (fun q hq => ?_), fun x hx => ?_, h.ip, own_at' h.ownF (fun q hq => ?_), h.fl, h.fk, h.fF, hn e h.ne hle, hn gl h.nl hll, fun q hq => ?_, fun q hq => ?_, h.n1, h.n2⟩
  · obtain ⟨v, h1, h2⟩ := h.lasts i hi
    exact ⟨v, h1, h2.at k hn⟩
  · obtain ⟨c, hc⟩ := own_ty h.own hq
    exact k q (h.np q hq) (Array.getElem?_eq_some_iff.1 hc).1
  · obtain ⟨h0, h1, ⟨c, h2⟩, h3, h4⟩ := h.it x hx
    have hlx := (Array.getElem?_eq_some_iff.1 h2).1
    exact ⟨h0, h1.at (k _ h3 hlx), ⟨c, (k _ h3 hlx).trans h2⟩, hn _ h3 hlx, h4⟩
  · obtain ⟨c, hc⟩ := own_ty h.ownF hq
    exact k q (h.nf q hq) (Array.getElem?_eq_some_iff.1 hc).1
  · obtain ⟨c, hc⟩ := own_ty h.own hq
    exact hn q (h.np q hq) (Array.getElem?_eq_some_iff.1 hc).1
  · obtain ⟨c, hc⟩ := own_ty h.ownF hq
    exact hn q (h.nf q hq) (Array.getElem?_eq_some_iff.1 hc).1
theorem Rk.below (h : Rk w e s N gl cur pa pc I fa fc fs) (hb : Below w.heap.size w w') : Rk w' e s N gl cur pa pc I fa fc fs := h.keep (fun b _ hl => hb.block b hl) (fun _ h _ => h)
theorem Rk.lt (h : Rk w e s N gl cur pa pc I fa fc fs) : e < w.heap.size := (Array.getElem?_eq_some_iff.1 h.blk).1
theorem Rk.cell (h : Rk w e s N gl cur pa pc I fa fc fs) {i : Nat} {v : Value} (hc : (rcs s gl (.slice pa I.length pc) (.slice fa fs.length fc))[i]? = some v) : w.cell? ⟨e, i, none⟩ = some v := (cell_of_row _ _ i _ _ (0, 0) h.blk).trans hc
theorem Rk.c0 (h : Rk w e s N gl cur pa pc I fa fc fs) : w.cell? ⟨e, 0, none⟩ = some (.int .i64 s.n) := h.cell rfl
theorem Rk.c1 (h : Rk w e s N gl cur pa pc I fa fc fs) : w.cell? ⟨e, 1, none⟩ = some (.slice (some ⟨gl, 0, none⟩) s.n s.n) := h.cell rfl
theorem Rk.c2 (h : Rk w e s N gl cur pa pc I fa fc fs) : w.cell? ⟨e, 2, none⟩ = some (.slice pa I.length pc) := h.cell rfl
theorem Rk.c3 (h : Rk w e s N gl cur pa pc I fa fc fs) : w.cell? ⟨e, 3, none⟩ = some (.bool s.on) := h.cell rfl
theorem Rk.c4 (h : Rk w e s N gl cur pa pc I fa fc fs) : w.cell? ⟨e, 4, none⟩ = some (.slice fa fs.length fc) := h.cell rfl
theorem Rk.c5 (h : Rk w e s N gl cur pa pc I fa fc fs) : w.cell? ⟨e, 5, none⟩ = some (.int .i64 s.c) := h.cell rfl
theorem Rk.c6 (h : Rk w e s N gl cur pa pc I fa fc fs) : w.cell? ⟨e, 6, none⟩ = some (.int .i64 s.k) := h.cell rfl
theorem Rk.fz (h : Rk w e s N gl cur pa pc I fa fc fs) (i : Nat) : w.frozen? ⟨e, i, none⟩ = false := by have := h.blk; simp [World.frozen?, this]
theorem Rk.neq (h : Rk w e s N gl cur pa pc I fa fc fs) {b : Nat} {c : Array Value} {t : TypeId} (hb : w.heap[b]? = some (.cells c t (0, 0))) (ht : t ≠ 87) : b ≠ e := fun q => by
  have := h.blk
  rw [← q, hb] at this
  simp at this
  exact ht this.2
/-- Its own block alone has turned. -/
theorem Rk.turn (h : Rk w e s N gl cur pa pc I fa fc fs) (hb : w'.heap[e]? = some (.cells (rcs s' gl (.slice pa I.length pc) (.slice fa fs.length fc)) 87 (0, 0))) (ho : ∀ b, b ≠ e → w'.heap[b]? = w.heap[b]?) (hn : s'.n = s.n) (hS : s'.S = s.S) (hP : s'.P = s.P) (hF : s'.F = s.F) : Rk w' e s' N gl cur pa pc I fa fc fs := by
  refine ⟨hb, (ho gl (h.neq h.lb (by decide))).trans h.lb, by rw [hn]; exact h.sz, fun i hi => ?_, own_at' h.own (fun q hq => ?_), fun x hx => ?_, by rw [hP]; exact h.ip, own_at' h.ownF (fun q hq => ?_), h.fl, h.fk, by rw [hF]; exact h.fF, h.ne, h.nl, h.np, h.nf, by rw [hn]; exact h.n1, by rw [hn]; exact h.n2⟩
  · obtain ⟨v, h1, h2⟩ := h.lasts i (by rw [← hn]; exact hi)
    refine ⟨v, h1, ?_⟩
    rw [hS]
    rcases h2 with hv | ⟨q, c, h1, h2, ⟨cu, h3⟩, h4⟩
    · exact .inl hv
    · have := ho q (h.neq h3 (by decide))
      exact .inr ⟨q, c, h1, h2.at this, ⟨cu, this.trans h3⟩, h4⟩
  · obtain ⟨c, hc⟩ := own_ty h.own hq
    exact ho q (h.neq hc (by decide))
  · obtain ⟨h0, h1, ⟨c, h2⟩, h3⟩ := h.it x hx
    have := ho _ (h.neq h2 (by decide))
    exact ⟨by rw [hn]; exact h0, h1.at this, ⟨c, this.trans h2⟩, h3⟩
  · obtain ⟨c, hc⟩ := own_ty h.ownF hq
    exact ho q (h.neq hc (by decide))
theorem Rk.set (h : Rk w e s N gl cur pa pc I fa fc fs) (i : Nat) (u : Value) : (w.setCell ⟨e, i, none⟩ u).heap[e]? = some (.cells ((rcs s gl (.slice pa I.length pc) (.slice fa fs.length fc)).setIfInBounds i u) 87 (0, 0)) := by
  have := h.blk
  simp [World.setCell, Array.getElem?_modify, this]
theorem Rk.s3 (h : Rk w e s N gl cur pa pc I fa fc fs) (b : Bool) : Rk (w.setCell ⟨e, 3, none⟩ (.bool b)) e { s with on := b } N gl cur pa pc I fa fc fs :=
  h.turn (s' := { s with on := b }) (h.set 3 (.bool b)) (fun q hq => Below.heap_setCell _ _ _ _ hq) rfl rfl rfl rfl
theorem Rk.s5 (h : Rk w e s N gl cur pa pc I fa fc fs) (c : Nat) : Rk (w.setCell ⟨e, 5, none⟩ (.int .i64 c)) e { s with c := c } N gl cur pa pc I fa fc fs :=
  h.turn (s' := { s with c := c }) (h.set 5 (.int .i64 c)) (fun q hq => Below.heap_setCell _ _ _ _ hq) rfl rfl rfl rfl
theorem Rk.s6 (h : Rk w e s N gl cur pa pc I fa fc fs) (k : Nat) : Rk (w.setCell ⟨e, 6, none⟩ (.int .i64 k)) e { s with k := k } N gl cur pa pc I fa fc fs :=
  h.turn (s' := { s with k := k }) (h.set 6 (.int .i64 k)) (fun q hq => Below.heap_setCell _ _ _ _ hq) rfl rfl rfl rfl
/-- The faults' cells. -/
theorem Rk.fcell (h : Rk w e s N gl cur pa pc I fa fc fs) {j : Nat} (hj : j < fs.length) : ∃ gf, fa = some ⟨gf, 0, none⟩ ∧ fs.length ≤ fc ∧ fc ≤ maxLen ∧ w.cell? ⟨gf, j * 2, none⟩ = some (.int .i64 (fs.getD j (0, 0)).1) ∧ w.cell? ⟨gf, j * 2 + 1, none⟩ = some (.int .i64 (fs.getD j (0, 0)).2) := by
  obtain ⟨g, cap, q, h1, h2, _, _, hc⟩ := own2_cell h.ownF (by omega)
  simp at q
  obtain ⟨rfl, rfl⟩ := q
  exact ⟨g, rfl, h1, h2, hc _ _ (fcs_get fs j hj).1, hc _ _ (fcs_get fs j hj).2⟩
end
theorem lookF_hit : ∀ (fs : List (Int × Int)) (j : Nat) (x : Int), j < fs.length → (∀ k, k < j → (fs.getD k (0, 0)).1 ≠ x) → (fs.getD j (0, 0)).1 = x → lookF fs x = (fs.getD j (0, 0)).2
  | [], j, x, h, _, _ => by simp at h
  | f :: l, 0, x, _, _, h => by
    show (if f.1 = x then f.2 else lookF l x) = f.2
    have h' : f.1 = x := h
    rw [if_pos h']
  | f :: l, j + 1, x, hl, hk, h => by
    have h0 : ¬ f.1 = x := hk 0 (by omega)
    show (if f.1 = x then f.2 else lookF l x) = _
    rw [if_neg h0]
    exact lookF_hit l j x (by simpa using hl) (fun k hk' => hk (k + 1) (by omega)) h
theorem lookF_no : ∀ (fs : List (Int × Int)) (x : Int), (∀ k, k < fs.length → (fs.getD k (0, 0)).1 ≠ x) → lookF fs x = 0
  | [], x, _ => rfl
  | f :: l, x, h => by
    show (if f.1 = x then f.2 else lookF l x) = 0
    have h0 : ¬ f.1 = x := h 0 (by simp)
    rw [if_neg h0]
    exact lookF_no l x (fun k hk => h (k + 1) (by simpa using hk))
end Go.Proofs.Ythjfgdldclhbhaa
