import Derived.Test.YtacjhbhmhgekhaaLP0
import Derived.Deep.AppendLies
namespace Go.Proofs.Ytacjhbhmhgekhaa
open Go.RowKit
set_option linter.unusedVariables false
set_option maxRecDepth 100000

theorem one_srcU (w : World) (X : Value) (t : TypeId) : ∀ (j : Nat) (u : Value), [X][j]? = some u → (w.alloc (.cells #[X] t)).cell? ((⟨w.heap.size, 0, none⟩ : Addr).add j) = some u := by
  intro j u hj
  match j, hj with
  | 0, hj =>
    obtain rfl : X = u := by simpa using hj
    have := cell_of_row (w.alloc (.cells #[X] t)) w.heap.size 0 #[X] t (0, 0) (heap_alloc_new w _)
    rw [Addr.add_lit]
    exact this.trans rfl
/-! Many pairs in a row of one's own. -/
def cpt (qs : List Nat) : List Value := qs.map fun q => Value.pointer (some ⟨q, 0, none⟩)
def Uq (w wr : World) (v : Value) (qs : List Nat) : Prop := wr.ownsRow w.heap.size 24 1 v qs.length (cpt qs)
theorem Uq.lt {w wr : World} {v : Value} {qs : List Nat} (h : Uq w wr v qs) {x : Nat} (e : v.ownBlock = some x) : w.heap.size ≤ x ∧ x < wr.heap.size := World.ownsRow.lt h x e
theorem Uq.fx {X : Nat → Prop} {w wr w2 : World} {v : Value} {qs : List Nat} (h : Uq w wr v qs) (hf : Fx X wr w2) (hX : ∀ x, v.ownBlock = some x → ¬ X x) : Uq w w2 v qs := by
  have h0 : wr.ownsRow w.heap.size 24 1 v qs.length (cpt qs) := h
  refine ⟨h0.1, ?_⟩
  rcases h0.2 with hn | ⟨g, cap, cur, rfl, hg, hc, h1⟩
  · exact .inl hn
  · exact .inr ⟨g, cap, cur, rfl, hg, (hf.block g (h.lt rfl).2 (hX g rfl)).trans hc, h1⟩
theorem uq_nil (w wr : World) : Uq w wr (.slice none 0 0) [] := World.ownsRow_nil _ _ _ _
theorem Uq.form {w wr : World} {v : Value} {qs : List Nat} (h : Uq w wr v qs) : ∃ a c, v = .slice a qs.length c ∧ (qs.length = 0 ∨ ∃ b, a = some ⟨b, 0, none⟩ ∧ ∀ i, i < qs.length → wr.cell? ⟨b, i, none⟩ = some (.pointer (some ⟨qs.getD i 0, 0, none⟩))) := by
  have h0 : wr.ownsRow w.heap.size 24 1 v qs.length (cpt qs) := h
  rcases h0.2 with ⟨rfl, hn⟩ | ⟨g, cap, cur, rfl, hg, hc, h1, h2, h3, h4⟩
  · exact ⟨none, 0, by rw [hn], .inl hn⟩
  · refine ⟨some ⟨g, 0, none⟩, cap, rfl, .inr ⟨g, rfl, fun i hi => ?_⟩⟩
    rw [World.ownsRow.cellAt h0 i (by omega)]
    simp [cpt, List.getD, hi]
theorem infoP : (Try.prog.info? 24).map (fun i => (i.zero, i.size, i.bytes)) = some (some (.pointer none), 1, 8) := by kernel_rfl
theorem wpList_appQ {w0 wr : World} {ops : Array Oper} {rest : List Oper} {o : Oper} {act : Act} {Q : Exit → Act → World → Prop} (hgd : o.guard = none) (s x : Operand)
    (ho : o.op = .call { callee := .builtin .append, args := #[s, x], argTypes := #[44, 44] })
    (v : Value) (qs : List Nat) (X : Nat) (hs : act.eval s = v) (hown : Uq w0 wr v qs) (hx : act.eval x = .slice (some ⟨wr.heap.size, 0, none⟩) 1 1) (hn : qs.length ≤ 100000) (hb : w0.heap.size ≤ wr.heap.size)
    (h : ∀ v' w', Uq w0 w' v' (qs ++ [X]) → wr.grownBy w' v.ownBlock → wr.heap.size ≤ w'.heap.size → (∀ y, v'.ownBlock = some y → v.ownBlock = some y ∨ wr.heap.size ≤ y) → wpList Try.prog ops Q rest (act.put o.dst v') w') : wpList Try.prog ops Q (o :: rest) act (wr.alloc (.cells #[.pointer (some ⟨X, 0, none⟩)] 24)) := by
  obtain ⟨i, hi, hz0, hz1, hz2⟩ := info_parts infoP
  refine wpList_append_lies _ hgd s x 44 ho w0.heap.size 24 i (.pointer none) 1 8 Try.underlying44 hi hz0 hz1 hz2 rfl (by decide) v qs.length (cpt qs) hs (World.ownsRow.alloc hown _) ⟨wr.heap.size, 0, none⟩ 1 1 [.pointer (some ⟨X, 0, none⟩)] hx rfl (one_srcU wr _ _) (by simp [Value.oneCell']) (by omega) (by unfold maxLen; omega) (by omega) (by simp; omega) (wr.heap.size + 1) (by simp) ?_
  intro g cap w' h1 h2 h3 h4
  have hz : (wr.alloc (.cells #[.pointer (some ⟨X, 0, none⟩)] 24)).heap.size = wr.heap.size + 1 := by simp
  refine h _ w' (by show World.ownsRow _ _ _ _ _ _ _; rw [List.length_append]; simp only [cpt, List.map_append] at h1 ⊢; exact h1) ⟨h2.os, h2.tape, h2.output, by have := h2.size; omega, fun k hk e => (h2.block k (by omega) e).trans (Below.heap_alloc _ _ _ hk)⟩ (by have := h2.size; omega) ?_
  intro y hy
  obtain rfl : g = y := by simpa [Value.ownBlock] using hy
  rcases h3 with h5 | h5
  · exact .inl h5
  · exact .inr (by omega)
structure Mn (w0 w : World) (v : Value) (qs : List Nat) (N : Int) : Prop where
  row : Uq w0 w v qs
  bel : Below w0.heap.size w0 w
  ex : ∃ Xs : Nat → Nat → Prop, (∀ i, i < qs.length → Pq w0 w (Xs i) (qs.getD i 0) N) ∧ (∀ i j, i < qs.length → j < qs.length → i ≠ j → ∀ k, Xs i k → ¬ Xs j k) ∧ ∀ i, i < qs.length → ∀ k, Xs i k → v.ownBlock ≠ some k
section
variable {w0 w w' : World} {v v' : Value} {qs : List Nat} {N : Int}
theorem Mn.nil (hb : Below w0.heap.size w0 w) : Mn w0 w (.slice none 0 0) [] N := ⟨uq_nil _ _, hb, fun _ _ => False, fun i hi => by simp at hi, fun i j hi => by simp at hi, fun i hi => by simp at hi⟩
theorem Mn.on (h : Mn w0 w v qs N) (hb : Below w.heap.size w w') : Mn w0 w' v qs N := by
  obtain ⟨Xs, h1, h2, h3⟩ := h.ex
  exact ⟨h.row.fx (X := fun _ => False) (Fx.of _ hb) (fun _ _ e => e), bel_bel h.bel h.bel.size hb, Xs, fun i hi => (h1 i hi).fx (Y := fun _ => False) (Fx.of _ hb) (fun _ _ e => e) (fun _ e => e.elim), h2, h3⟩
theorem Mn.drawn (h : Mn w0 w v qs N) (nq : Nat) : Mn w0 (w.drewN nq) v qs N := h.on (bel_drawn (Below.refl _ _) nq)
theorem Mn.app {wb : World} {X : Nat → Prop} {q : Nat} (hm : Mn w0 wb v qs N) (hbb : Below wb.heap.size wb w) (hq : Pq w0 w X q N) (hB : ∀ k, X k → wb.heap.size ≤ k) (hu : Uq w0 w' v' (qs ++ [q])) (hg : w.grownBy w' v.ownBlock) (hy : ∀ y, v'.ownBlock = some y → v.ownBlock = some y ∨ w.heap.size ≤ y) : Mn w0 w' v' (qs ++ [q]) N := by
  have h := hm.on hbb
  have hvX : ∀ k, X k → v.ownBlock ≠ some k := fun k a b => by have h1 := (hm.row.lt b).2; have h2 := hB k a; omega
  obtain ⟨Xs, h1, h2, h3⟩ := hm.ex
  have h1w : ∀ i, i < qs.length → Pq w0 w (Xs i) (qs.getD i 0) N := fun i hi => (h1 i hi).fx (Y := fun _ => False) (Fx.of _ hbb) (fun _ _ e => e) (fun _ e => e.elim)
  have hf : Fx (fun k => v.ownBlock = some k) w w' := ⟨hg.os, hg.tape, hg.output, hg.size, fun k hk hX => hg.block k hk (fun e => hX e.symm)⟩
  have hlo : ∀ k, v.ownBlock = some k → w0.heap.size ≤ k := fun k e => (h.row.lt e).1
  refine ⟨hu, hf.below h.bel h.bel.size hlo, fun i => if i < qs.length then Xs i else X, fun i hi => ?_, fun i j hi hj hij k => ?_, fun i hi k => ?_⟩
  · by_cases e : i < qs.length
    · rw [show (qs ++ [q]).getD i 0 = qs.getD i 0 from by simp [List.getD, List.getElem?_append_left e]]
      simp only [e, if_true]
      exact (h1w i e).fx hf (fun k a b => h3 i e k a b) hlo
    · have ei : i = qs.length := by simp at hi; omega
      rw [show (qs ++ [q]).getD i 0 = q from by rw [ei]; simp [List.getD]]
      simp only [e, if_false]
      exact hq.fx hf (fun k a b => hvX k a b) hlo
  · simp at hi hj
    by_cases e : i < qs.length
    · by_cases e2 : j < qs.length
      · simp only [e, e2, if_true]; exact h2 i j e e2 hij k
      · simp only [e, e2, if_true, if_false]
        intro a b
        have := ((h1 i e).lt k a)
        have := hB k b
        omega
    · by_cases e2 : j < qs.length
      · simp only [e, e2, if_true, if_false]
        intro a b
        have := ((h1 j e2).lt k b)
        have := hB k a
        omega
      · omega
  · simp at hi
    by_cases e : i < qs.length
    · simp only [e, if_true]
      intro a b
      rcases hy k b with z | z
      · exact h3 i e k a z
      · have := ((h1w i e).lt k a); omega
    · simp only [e, if_false]
      intro a b
      rcases hy k b with z | z
      · exact hvX k a z
      · have := (hq.lt k a); omega
theorem Mn.step {M : Int} (h : Mn w0 w v qs N) (hM : N ≤ M) {i : Nat} (hi : i < qs.length) {w1 : World} (Xs : Nat → Nat → Prop) (h1 : ∀ i, i < qs.length → Pq w0 w (Xs i) (qs.getD i 0) N) (h2 : ∀ i j, i < qs.length → j < qs.length → i ≠ j → ∀ k, Xs i k → ¬ Xs j k) (h3 : ∀ i, i < qs.length → ∀ k, Xs i k → v.ownBlock ≠ some k) (hs : Pstep w0 w w1 (Xs i) (qs.getD i 0) M) : Mn w0 w1 v qs M := by
  obtain ⟨h4, h5⟩ := hs
  have h6 : ∀ k, Gr (Xs i) w w1 k → Xs i k ∨ w.heap.size ≤ k := fun k e => e.1
  obtain ⟨X', hX'⟩ : ∃ z, Gr (Xs i) w w1 = z := ⟨_, rfl⟩
  rw [hX'] at h4 h6
  have hlo : ∀ k, Xs i k → w0.heap.size ≤ k := fun k e => ((h1 i hi).lo k e)
  refine ⟨h.row.fx h5 (fun x e a => h3 i hi x a e), h5.below h.bel h.bel.size hlo, fun j => if j = i then X' else Xs j, fun j hj => ?_, fun j j2 hj hj2 hne k => ?_, fun j hj k => ?_⟩
  · by_cases e : j = i
    · simp only [e, if_true]; exact h4
    · simp only [e, if_false]
      exact ((h1 j hj).fx h5 (fun k a b => h2 j i hj hi e k a b) hlo).more (by omega)
  · by_cases e : j = i
    · by_cases e2 : j2 = i
      · omega
      · simp only [e, e2, if_true, if_false]
        intro a b
        rcases h6 k a with z | z
        · exact h2 i j2 hi hj2 (Ne.symm e2) k z b
        · have := ((h1 j2 hj2).lt k b); omega
    · by_cases e2 : j2 = i
      · simp only [e, e2, if_true, if_false]
        intro a b
        rcases h6 k b with z | z
        · exact h2 j i hj hi e k a z
        · have := ((h1 j hj).lt k a); omega
      · simp only [e, e2, if_false]; exact h2 j j2 hj hj2 hne k
  · by_cases e : j = i
    · simp only [e, if_true]
      intro a b
      rcases h6 k a with z | z
      · exact h3 i hi k z b
      · have := (h.row.lt b).2; omega
    · simp only [e, if_false]; exact h3 j hj k
theorem Mn.plays (h : Mn w0 w v qs N) (hN : N ≤ 900000000) {i : Nat} (hi : i < qs.length) {y : Wop} (hy : y.ok) (hd : Vs w (fun k => k < w0.heap.size) y.a y.n y.c y.d) :
    Calls Try.prog 11 #[.pointer (some ⟨qs.getD i 0, 0, none⟩), y.v] w fun e w' => e = .returned (.bool true) ∧ Mn w0 w' v qs (N + 1100) := by
  obtain ⟨Xs, h1, h2, h3⟩ := h.ex
  refine ((h1 i hi).plays hN hy hd).mono ?_
  rintro e w1 ⟨rfl, hs⟩
  exact ⟨rfl, h.step (by omega) hi Xs h1 h2 h3 hs⟩
theorem Mn.under (h : Mn w0 w v qs N) {i : Nat} (hi : i < qs.length) :
    Calls Try.prog 12 #[.pointer (some ⟨qs.getD i 0, 0, none⟩)] w fun e w' => e = .returned (.bool true) ∧ Mn w0 w' v qs N := by
  obtain ⟨Xs, h1, h2, h3⟩ := h.ex
  refine (h1 i hi).under.mono ?_
  rintro e w1 ⟨rfl, hs⟩
  exact ⟨rfl, h.step (Int.le_refl _) hi Xs h1 h2 h3 hs⟩
end
end Go.Proofs.Ytacjhbhmhgekhaa
