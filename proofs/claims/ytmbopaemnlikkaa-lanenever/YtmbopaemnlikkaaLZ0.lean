import Derived.Test.YtmbopaemnlikkaaLU0
namespace Go.Proofs.Ytmbopaemnlikkaa
set_option maxRecDepth 100000
open Go.RowKit
set_option linter.unusedVariables false

def cn (xs : List Int) : List Value := xs.map fun x => Value.int .i64 x
/-- A row of one's own since w. -/
def Ug (w wr : World) (v : Value) (xs : List Int) : Prop := wr.ownsRow w.heap.size 3 1 v xs.length (cn xs)
theorem Ug.lt {w wr : World} {v : Value} {xs : List Int} (h : Ug w wr v xs) {x : Nat} (e : v.ownBlock = some x) : w.heap.size ≤ x ∧ x < wr.heap.size := World.ownsRow.lt h x e
theorem Ug.on {w wr w2 : World} {v : Value} {xs : List Int} (h : Ug w wr v xs) (hb : Below wr.heap.size wr w2) : Ug w w2 v xs := World.ownsRow.kept h (row := none) ⟨hb.os, hb.tape, hb.output, hb.size, fun k hk _ => hb.block k hk⟩ (by cases e : v.ownBlock with | none => exact .inl rfl | some x => exact .inr (by simp))
theorem Ug.row {w wr : World} {v : Value} {xs : List Int} (h : Ug w wr v xs) {g : Nat} (hg : v.ownBlock ≠ some g) (ds : Array Value) : Ug w (wr.setRow g ds) v xs := by
  have b := bel_row (B := 0) (Below.refl 0 wr) (Nat.zero_le g) ds
  exact World.ownsRow.kept h (row := some g) ⟨b.os, b.tape, b.output, b.size, fun k hk e => setRow_other _ _ _ _ (by intro h; exact e (by rw [h]))⟩ (.inr hg)
theorem ug_nil (w wr : World) : Ug w wr (.slice none 0 0) [] := World.ownsRow_nil _ _ _ _
/-- A row as it is read. -/
theorem Ug.form {w wr : World} {v : Value} {xs : List Int} (h : Ug w wr v xs) : ∃ a c, v = .slice a xs.length c ∧ (xs.length = 0 ∨ ∃ b, a = some ⟨b, 0, none⟩ ∧ ∀ i, i < xs.length → wr.cell? ⟨b, i, none⟩ = some (.int .i64 (xs.getD i 0))) := by
  have h0 : wr.ownsRow w.heap.size 3 1 v xs.length (cn xs) := h
  rcases h0.2 with ⟨rfl, hn⟩ | ⟨g, cap, cur, rfl, hg, hc, h1, h2, h3, h4⟩
  · exact ⟨none, 0, by rw [hn], .inl hn⟩
  · refine ⟨some ⟨g, 0, none⟩, cap, rfl, .inr ⟨g, rfl, fun i hi => ?_⟩⟩
    rw [World.ownsRow.cellAt h0 i (by omega)]
    simp [cn, List.getD, hi]
theorem infoG : (Try.prog.info? 3).map (fun i => (i.zero, i.size, i.bytes)) = some (some (.int .i64 0), 1, 8) := by kernel_rfl
theorem one_srcG (w : World) (X : Value) (t : TypeId) : ∀ (j : Nat) (u : Value), [X][j]? = some u → (w.alloc (.cells #[X] t)).cell? ((⟨w.heap.size, 0, none⟩ : Addr).add j) = some u := by
  intro j u hj
  match j, hj with
  | 0, hj =>
    obtain rfl : X = u := by simpa using hj
    have := cell_of_row (w.alloc (.cells #[X] t)) w.heap.size 0 #[X] t (0, 0) (heap_alloc_new w _)
    rw [Addr.add_lit]
    exact this.trans rfl
/-- append of one number behind the list that holds it was made. -/
theorem wpList_appG {w0 wr : World} {ops : Array Oper} {rest : List Oper} {o : Oper} {act : Act} {Q : Exit → Act → World → Prop} (hgd : o.guard = none) (s x : Operand)
    (ho : o.op = .call { callee := .builtin .append, args := #[s, x], argTypes := #[42, 42] })
    (v : Value) (xs : List Int) (X : Int) (hs : act.eval s = v) (hown : Ug w0 wr v xs) (hx : act.eval x = .slice (some ⟨wr.heap.size, 0, none⟩) 1 1) (hn : xs.length ≤ 100000) (hb : w0.heap.size ≤ wr.heap.size)
    (h : ∀ v' w', Ug w0 w' v' (xs ++ [X]) → wr.grownBy w' v.ownBlock → wr.heap.size ≤ w'.heap.size → (∀ y, v'.ownBlock = some y → v.ownBlock = some y ∨ wr.heap.size ≤ y) → wpList Try.prog ops Q rest (act.put o.dst v') w') : wpList Try.prog ops Q (o :: rest) act (wr.alloc (.cells #[.int .i64 X] 3)) := by
  obtain ⟨i, hi, hz0, hz1, hz2⟩ := info_parts infoG
  refine wpList_append_lies _ hgd s x 42 ho w0.heap.size 3 i (.int .i64 0) 1 8 Try.underlying42 hi hz0 hz1 hz2 rfl (by decide) v xs.length (cn xs) hs (World.ownsRow.alloc hown _) ⟨wr.heap.size, 0, none⟩ 1 1 [.int .i64 X] hx rfl (one_srcG wr _ _) (by simp [Value.oneCell']) (by omega) (by unfold maxLen; omega) (by omega) (by simp; omega) (wr.heap.size + 1) (by simp) ?_
  intro g cap w' h1 h2 h3 h4
  have hz : (wr.alloc (.cells #[.int .i64 X] 3)).heap.size = wr.heap.size + 1 := by simp
  refine h _ w' (by show World.ownsRow _ _ _ _ _ _ _; rw [List.length_append]; simp only [cn, List.map_append] at h1 ⊢; exact h1) ⟨h2.os, h2.tape, h2.output, by have := h2.size; omega, fun k hk e => (h2.block k (by omega) e).trans (Below.heap_alloc _ _ _ hk)⟩ (by have := h2.size; omega) ?_
  intro y hy
  obtain rfl : g = y := by simpa [Value.ownBlock] using hy
  rcases h3 with h5 | h5
  · exact .inl h5
  · exact .inr (by omega)
/-- The book of what was used: two rows in a struct. -/
structure Bu (w wr : World) (pu : Nat) (v1 v2 : Value) (P : List (Int × Int)) : Prop where
  blk : wr.heap[pu]? = some (.cells #[v1, v2] 46 (0, 0))
  gs : Ug w wr v1 (P.map fun p => p.1)
  cs : Uo w wr v2 (P.map fun p => p.2)
  n1 : v1.ownBlock ≠ some pu
  n2 : v2.ownBlock ≠ some pu
  n3 : ∀ y, v1.ownBlock = some y → v2.ownBlock ≠ some y
  ge : w.heap.size ≤ pu
theorem Bu.c0 {w wr : World} {pu : Nat} {v1 v2 : Value} {P : List (Int × Int)} (h : Bu w wr pu v1 v2 P) : wr.cell? ⟨pu, 0, none⟩ = some v1 := (cell_of_row wr pu 0 _ _ (0, 0) h.blk).trans rfl
theorem Bu.c1 {w wr : World} {pu : Nat} {v1 v2 : Value} {P : List (Int × Int)} (h : Bu w wr pu v1 v2 P) : wr.cell? ⟨pu, 1, none⟩ = some v2 := (cell_of_row wr pu 1 _ _ (0, 0) h.blk).trans rfl
theorem Bu.fz {w wr : World} {pu : Nat} {v1 v2 : Value} {P : List (Int × Int)} (h : Bu w wr pu v1 v2 P) (i : Nat) : wr.frozen? ⟨pu, i, none⟩ = false := by have h0 := h.blk; simp [World.frozen?, h0]
theorem Bu.lt {w wr : World} {pu : Nat} {v1 v2 : Value} {P : List (Int × Int)} (h : Bu w wr pu v1 v2 P) : pu < wr.heap.size := (Array.getElem?_eq_some_iff.1 h.blk).1
theorem Bu.on {w wr w2 : World} {pu : Nat} {v1 v2 : Value} {P : List (Int × Int)} (h : Bu w wr pu v1 v2 P) (hb : Below wr.heap.size wr w2) : Bu w w2 pu v1 v2 P := ⟨(hb.block pu h.lt).trans h.blk, h.gs.on hb, h.cs.on hb, h.n1, h.n2, h.n3, h.ge⟩
end Go.Proofs.Ytmbopaemnlikkaa
