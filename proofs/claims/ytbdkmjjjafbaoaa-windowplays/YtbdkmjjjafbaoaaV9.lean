import Derived.Test.YtbdkmjjjafbaoaaV8
import Derived.Test.YtbdkmjjjafbaoaaLR
import Derived.Deep.AppendLies
namespace Go.Proofs.Ytbdkmjjjafbaoaa
open Go.RowKit
set_option linter.unusedVariables false
set_option maxRecDepth 100000

/-! A row of one's own of numbers of 64 bits, beside a window. -/
/-- A row of one's own since w. -/
def Uo (w wr : World) (v : Value) (xs : List Int) : Prop := wr.ownsRow w.heap.size 22 1 v xs.length (cu xs)
theorem Uo.lt {w wr : World} {v : Value} {xs : List Int} (h : Uo w wr v xs) {x : Nat} (e : v.ownBlock = some x) : w.heap.size ≤ x ∧ x < wr.heap.size := World.ownsRow.lt h x e
theorem Uo.fx {X : Nat → Prop} {w wr w2 : World} {v : Value} {xs : List Int} (h : Uo w wr v xs) (hf : Fx X wr w2) (hX : ∀ x, v.ownBlock = some x → ¬ X x) : Uo w w2 v xs := by
  have h0 : wr.ownsRow w.heap.size 22 1 v xs.length (cu xs) := h
  refine ⟨h0.1, ?_⟩
  rcases h0.2 with hn | ⟨g, cap, cur, rfl, hg, hc, h1⟩
  · exact .inl hn
  · exact .inr ⟨g, cap, cur, rfl, hg, (hf.block g (h.lt rfl).2 (hX g rfl)).trans hc, h1⟩
theorem uo_nil (w wr : World) : Uo w wr (.slice none 0 0) [] := World.ownsRow_nil _ _ _ _
/-- A row as it is read. -/
theorem Uo.form {w wr : World} {v : Value} {xs : List Int} (h : Uo w wr v xs) : ∃ a c, v = .slice a xs.length c ∧ (xs.length = 0 ∨ ∃ b, a = some ⟨b, 0, none⟩ ∧ ∀ i, i < xs.length → wr.cell? ⟨b, i, none⟩ = some (.int .u64 (xs.getD i 0))) := by
  have h0 : wr.ownsRow w.heap.size 22 1 v xs.length (cu xs) := h
  rcases h0.2 with ⟨rfl, hn⟩ | ⟨g, cap, cur, rfl, hg, hc, h1, h2, h3, h4⟩
  · exact ⟨none, 0, by rw [hn], .inl hn⟩
  · refine ⟨some ⟨g, 0, none⟩, cap, rfl, .inr ⟨g, rfl, fun i hi => ?_⟩⟩
    rw [World.ownsRow.cellAt h0 i (by omega)]
    simp [cu, List.getD, hi]
theorem one_srcU (w : World) (X : Value) (t : TypeId) : ∀ (j : Nat) (u : Value), [X][j]? = some u → (w.alloc (.cells #[X] t)).cell? ((⟨w.heap.size, 0, none⟩ : Addr).add j) = some u := by
  intro j u hj
  match j, hj with
  | 0, hj =>
    obtain rfl : X = u := by simpa using hj
    have := cell_of_row (w.alloc (.cells #[X] t)) w.heap.size 0 #[X] t (0, 0) (heap_alloc_new w _)
    rw [Addr.add_lit]
    exact this.trans rfl
/-- append of one number behind the list that holds it was made. -/
theorem wpList_appU {w0 wr : World} {ops : Array Oper} {rest : List Oper} {o : Oper} {act : Act} {Q : Exit → Act → World → Prop} (hgd : o.guard = none) (s x : Operand)
    (ho : o.op = .call { callee := .builtin .append, args := #[s, x], argTypes := #[42, 42] })
    (v : Value) (xs : List Int) (X : Int) (hs : act.eval s = v) (hown : Uo w0 wr v xs) (hx : act.eval x = .slice (some ⟨wr.heap.size, 0, none⟩) 1 1) (hn : xs.length ≤ 100000) (hb : w0.heap.size ≤ wr.heap.size)
    (h : ∀ v' w', Uo w0 w' v' (xs ++ [X]) → wr.grownBy w' v.ownBlock → wr.heap.size ≤ w'.heap.size → (∀ y, v'.ownBlock = some y → v.ownBlock = some y ∨ wr.heap.size ≤ y) → wpList Try.prog ops Q rest (act.put o.dst v') w') : wpList Try.prog ops Q (o :: rest) act (wr.alloc (.cells #[.int .u64 X] 22)) := by
  obtain ⟨i, hi, hz0, hz1, hz2⟩ := info_parts info22
  refine wpList_append_lies _ hgd s x 42 ho w0.heap.size 22 i (.int .u64 0) 1 8 Try.underlying42 hi hz0 hz1 hz2 rfl (by decide) v xs.length (cu xs) hs (World.ownsRow.alloc hown _) ⟨wr.heap.size, 0, none⟩ 1 1 [.int .u64 X] hx rfl (one_srcU wr _ _) (by simp [Value.oneCell']) (by omega) (by unfold maxLen; omega) (by omega) (by simp; omega) (wr.heap.size + 1) (by simp) ?_
  intro g cap w' h1 h2 h3 h4
  have hz : (wr.alloc (.cells #[.int .u64 X] 22)).heap.size = wr.heap.size + 1 := by simp
  refine h _ w' (by show World.ownsRow _ _ _ _ _ _ _; rw [List.length_append]; simp only [cu, List.map_append] at h1 ⊢; exact h1) ⟨h2.os, h2.tape, h2.output, by have := h2.size; omega, fun k hk e => (h2.block k (by omega) e).trans (Below.heap_alloc _ _ _ hk)⟩ (by have := h2.size; omega) ?_
  intro y hy
  obtain rfl : g = y := by simpa [Value.ownBlock] using hy
  rcases h3 with h5 | h5
  · exact .inl h5
  · exact .inr (by omega)
/-- A window beside a row of one's own. -/
structure Oq (w wr : World) (p g : Nat) (F : Int) (m : Nat) (T : List Int) (v : Value) (xs : List Int) : Prop where
  hw : Hw w wr p g F m T
  row : Uo w wr v xs
  n1 : v.ownBlock ≠ some p
  n2 : v.ownBlock ≠ some g
section
variable {w wr w2 : World} {p g : Nat} {F : Int} {m : Nat} {T xs : List Int} {v v' : Value}
theorem Oq.drawn (h : Oq w wr p g F m T v xs) (nq : Nat) : Oq w (wr.drewN nq) p g F m T v xs := ⟨h.hw.drawn nq, h.row.fx (X := fun _ => False) ((Fx.refl _ _).drawn (drawnN _ _)) (fun _ _ e => e), h.n1, h.n2⟩
theorem Oq.takes (h : Oq w wr p g F m T v xs) {c : Int} (hc : u64r c) {q : Bool} (hq : tkB F (64 * (m : Int)) T c = q) :
    Calls Try.prog 14 #[.pointer (some ⟨p, 0, none⟩), .int .u64 c] wr fun e w' => e = .returned (.bool q) ∧ Oq w w' p g F m T v xs := by
  subst hq
  refine (takes_ p g F m T c wr h.hw.wn hc).mono ?_
  rintro e w1 ⟨rfl, nq, rfl⟩
  exact ⟨rfl, h.drawn nq⟩
theorem Oq.mark (h : Oq w wr p g F m T v xs) {c : Int} (hc : u64r c) {q : Bool} (hq : tkB F (64 * (m : Int)) T c = q) {T' : List Int} (hT : mkT F (64 * (m : Int)) T c = T') :
    Calls Try.prog 17 #[.pointer (some ⟨p, 0, none⟩), .int .u64 c] wr fun e w' => e = .returned (.bool q) ∧ Oq w w' p g F m T' v xs := by
  subst hq
  subst hT
  refine (mark_ p g F m T c wr h.hw.wn hc).mono ?_
  rintro e w1 ⟨rfl, h1, h2⟩
  exact ⟨rfl, h.hw.mark h1 h2, h.row.fx h2 (fun x e q => by rcases q with rfl | rfl; exact h.n1 e; exact h.n2 e), h.n1, h.n2⟩
theorem Oq.top (h : Oq w wr p g F m T v xs) {t : Int} (ht : topI T = t) {q : Bool} (hq : decide (T ≠ []) = q) :
    Calls Try.prog 13 #[.pointer (some ⟨p, 0, none⟩)] wr fun e w' => e = .returned (.tuple #[.int .u64 t, .bool q]) ∧ Oq w w' p g F m T v xs := by
  subst ht
  subst hq
  refine (top_ p _ _ _ _ _ _ wr h.hw.wn.blk).mono ?_
  rintro e w1 ⟨rfl, nq, rfl⟩
  exact ⟨rfl, h.drawn nq⟩
theorem Oq.app (h : Oq w wr p g F m T v xs) {X : Int} (hu : Uo w w2 v' (xs ++ [X])) (hg : wr.grownBy w2 v.ownBlock) (hy : ∀ y, v'.ownBlock = some y → v.ownBlock = some y ∨ wr.heap.size ≤ y) : Oq w w2 p g F m T v' (xs ++ [X]) := by
  have hl := h.hw.wn.lt
  have hf : Fx (fun k => v.ownBlock = some k) wr w2 := ⟨hg.os, hg.tape, hg.output, hg.size, fun k hk hX => hg.block k hk (fun e => hX e.symm)⟩
  refine ⟨h.hw.fx hf h.n1 h.n2 (fun k e => (h.row.lt e).1), hu, fun e => ?_, fun e => ?_⟩
  · rcases hy _ e with q | q
    · exact h.n1 q
    · omega
  · rcases hy _ e with q | q
    · exact h.n2 q
    · omega
theorem Oq.of (h : Hw w wr p g F m T) : Oq w wr p g F m T (.slice none 0 0) [] := ⟨h, uo_nil w wr, by simp [Value.ownBlock], by simp [Value.ownBlock]⟩
end
theorem tk_stay {F W : Int} {T : List Int} {c x : Int} (h : tkB F W T c = false) : tkB F W (mkT F W T x) c = false := by
  unfold mkT
  split
  · rw [tk_false] at h ⊢
    exact fun q => h ⟨q.1, fun t ht => q.2 t (List.mem_append_left _ ht)⟩
  · exact h
end Go.Proofs.Ytbdkmjjjafbaoaa
