import Derived.Test.YtblcpdffiafgnaaGreatDoorXV
namespace Go.Proofs.YtblcpdffiafgnaaGreatDoor
set_option linter.unusedSimpArgs false
set_option maxRecDepth 100000
open Go.RowKit Go.Shelf
set_option linter.unusedVariables false

theorem box12 {w w' : World} {b : Nat} {t : TypeId} {v : Value} (h : Boxed w b t v) (e : w'.heap[b]? = w.heap[b]?) : Boxed w' b t v := e.trans h
/-- Open's loop, between two rounds. -/
structure Oi (w : World) (Q : Nat → Prop) (g B9 S : Nat) (v : Value) (st : List Int) (pre : List Yx) (W : World) : Prop where
  b0 : Boxed W w.heap.size 36 (.pointer none)
  b1 : Boxed W (w.heap.size + 1) 27 (.slice none 0 0)
  b2 : Boxed W (w.heap.size + 1 + 1) 37 (.slice none 0 0)
  b3 : Boxed W (w.heap.size + 1 + 1 + 1) 47 (.int .i64 0)
  own : W.ownsRow (g + 1) 5 1 v st.length (cells st)
  el : ∀ x ∈ pre, x.e = 0 ∧ W.ownsRow S 5 1 x.v x.tx.length (cells x.tx) ∧ By x.tx
  out : ∃ vt, Boxed W B9 37 vt ∧ W.ownsRow S 27 1 vt pre.length (pre.map (·.v))
  fr : Fr Q w W
  sz : S ≤ W.heap.size
section
variable {w X Y : World} {Q : Nat → Prop} {g B9 S : Nat} {v : Value} {st : List Int} {pre : List Yx}
theorem Oi.non {row : Option Nat} (h : Oi w Q g B9 S v st pre X) (hS : w.heap.size ≤ S) (hg : X.grownBy Y row) (hr : ∀ r, row = some r → S ≤ r ∧ ∃ o : Obj, X.heap[r]? = some o ∧ o.isCells = false) : Oi w Q g B9 S v st pre Y := by
  obtain ⟨vt, o1, o2⟩ := h.out
  exact ⟨boxed_non h.b0 hg hr, boxed_non h.b1 hg hr, boxed_non h.b2 hg hr, boxed_non h.b3 hg hr, own_non h.own hg hr, fun x hx => ⟨(h.el x hx).1, own_non (h.el x hx).2.1 hg hr, (h.el x hx).2.2⟩, ⟨vt, boxed_non o1 hg hr, own_non o2 hg hr⟩, fr_own h.fr hg (fun r e => Nat.le_trans hS (hr r e).1), Nat.le_trans h.sz hg.size⟩
theorem Oi.fr' (h : Oi w Q g B9 S v st pre X) (hq : ∀ b, Q b → b < w.heap.size) (hg : w.heap.size + 1 + 1 + 1 < g) (h9 : g < B9) (hS : g < S) (hf : Fr (Qg Q g) X Y) : Oi w Q g B9 S v st pre Y := by
  have nr : ∀ b, w.heap.size ≤ b → b ≠ g → ¬ Qg Q g b := fun b h1 h2 q => q.elim (fun k => by have := hq b k; omega) h2
  have lt : ∀ {b : Nat} {o : Obj}, X.heap[b]? = some o → b < X.heap.size := fun h => (Array.getElem?_eq_some_iff.1 h).1
  have bx : ∀ {b : Nat} {t : TypeId} {u : Value}, Boxed X b t u → w.heap.size ≤ b → b ≠ g → Boxed Y b t u := fun hb h1 h2 => box12 hb (hf.same _ hb.lt (nr _ h1 h2))
  have ow : ∀ {C n sz : Nat} {t : TypeId} {u : Value} {xs : List Value}, X.ownsRow C t sz u n xs → g < C → Y.ownsRow C t sz u n xs := fun ho hc => own_at' ho (fun b e => hf.same b (ho.lt b e).2 (nr b (by have := (ho.lt b e).1; omega) (by have := (ho.lt b e).1; omega)))
  obtain ⟨vt, o1, o2⟩ := h.out
  refine ⟨bx h.b0 (Nat.le_refl _) (by omega), bx h.b1 (by omega) (by omega), bx h.b2 (by omega) (by omega), bx h.b3 (by omega) (by omega), ow h.own (by omega), fun x hx => ⟨(h.el x hx).1, ow (h.el x hx).2.1 hS, (h.el x hx).2.2⟩, ⟨vt, bx o1 (by omega) (by omega), ow o2 hS⟩, ?_, Nat.le_trans h.sz hf.size⟩
  exact ⟨hf.os.trans h.fr.os, hf.tape.trans h.fr.tape, hf.output.trans h.fr.output, Nat.le_trans h.fr.size hf.size, fun b hb hn => (hf.same b (Nat.lt_of_lt_of_le hb h.fr.size) (fun q => q.elim hn (fun e => by omega))).trans (h.fr.same b hb hn)⟩
/-- Open's loop, left. -/
structure Ox (w : World) (Q : Nat → Prop) (S : Nat) (pre : List Yx) (W : World) : Prop where
  b0 : Boxed W w.heap.size 36 (.pointer none)
  b1 : Boxed W (w.heap.size + 1) 27 (.slice none 0 0)
  b2 : Boxed W (w.heap.size + 1 + 1) 37 (.slice none 0 0)
  e : ∃ ys x, pre = ys ++ [x] ∧ x.e ≠ 0 ∧ Boxed W (w.heap.size + 1 + 1 + 1) 47 (.int .i64 x.e)
  fr : Fr Q w W
theorem Ox.non {row : Option Nat} (h : Ox w Q S pre X) (hS : w.heap.size ≤ S) (hg : X.grownBy Y row) (hr : ∀ r, row = some r → S ≤ r ∧ ∃ o : Obj, X.heap[r]? = some o ∧ o.isCells = false) : Ox w Q S pre Y := by
  obtain ⟨ys, x, h1, h2, h3⟩ := h.e
  exact ⟨boxed_non h.b0 hg hr, boxed_non h.b1 hg hr, boxed_non h.b2 hg hr, ⟨ys, x, h1, h2, boxed_non h3 hg hr⟩, fr_own h.fr hg (fun r e => Nat.le_trans hS (hr r e).1)⟩
theorem Px12.non {x : Yx} {row : Option Nat} (h : Px12 S pre x X) (hg : X.grownBy Y row) (hr : ∀ r, row = some r → S ≤ r ∧ ∃ o : Obj, X.heap[r]? = some o ∧ o.isCells = false) : Px12 S pre x Y :=
  ⟨h.1, fun he => ⟨own_non (h.2.1 he).1 hg hr, (h.2.1 he).2⟩, h.2.2⟩
theorem put_non {W : World} {S l : Nat} {o' : Obj} (hl : S ≤ l) (ho : ∃ o, W.heap[l]? = some o ∧ o.isCells = false) : ∀ r, some l = some r → S ≤ r ∧ ∃ o : Obj, W.heap[r]? = some o ∧ o.isCells = false := fun r e => by
  obtain rfl := Option.some.inj e
  exact ⟨hl, ho⟩
end
theorem infoR : (Tryz.prog.info? 27).map (fun i => (i.zero, i.size, i.bytes)) = some (some (.slice none 0 0), 1, 24) := by kernel_rfl
end Go.Proofs.YtblcpdffiafgnaaGreatDoor
