import Derived.Test.YtbdkmjjjafbaoaaRD
import Derived.Deep.RegionWith
import Derived.Deep.CutRange
import Derived.Deep.AppendLies
namespace Go.Proofs.Ytbdkmjjjafbaoaa
open Go.RowKit
set_option linter.unusedVariables false
set_option maxRecDepth 100000

/-! Many pairs in a row of one's own. -/
def cpt (qs : List Nat) : List Value := qs.map fun q => Value.pointer (some ⟨q, 0, none⟩)
def Uq (w wr : World) (v : Value) (qs : List Nat) : Prop := wr.ownsRow w.heap.size 25 1 v qs.length (cpt qs)
theorem Uq.lt {w wr : World} {v : Value} {qs : List Nat} (h : Uq w wr v qs) {x : Nat} (e : v.ownBlock = some x) : w.heap.size ≤ x ∧ x < wr.heap.size := World.ownsRow.lt h x e
theorem Uq.fx {X : Nat → Prop} {w wr w2 : World} {v : Value} {qs : List Nat} (h : Uq w wr v qs) (hf : Fx X wr w2) (hX : ∀ x, v.ownBlock = some x → ¬ X x) : Uq w w2 v qs := by
  have h0 : wr.ownsRow w.heap.size 25 1 v qs.length (cpt qs) := h
  refine ⟨h0.1, ?_⟩
  rcases h0.2 with hn | ⟨g, cap, cur, rfl, hg, hc, h1⟩
  · exact .inl hn
  · exact .inr ⟨g, cap, cur, rfl, hg, (hf.block g (h.lt rfl).2 (hX g rfl)).trans hc, h1⟩
theorem uq_nil (w wr : World) : Uq w wr (.slice none 0 0) [] := World.ownsRow_nil _ _ _ _
theorem Uq.form {w wr : World} {v : Value} {qs : List Nat} (h : Uq w wr v qs) : ∃ a c, v = .slice a qs.length c ∧ (qs.length = 0 ∨ ∃ b, a = some ⟨b, 0, none⟩ ∧ ∀ i, i < qs.length → wr.cell? ⟨b, i, none⟩ = some (.pointer (some ⟨qs.getD i 0, 0, none⟩))) := by
  have h0 : wr.ownsRow w.heap.size 25 1 v qs.length (cpt qs) := h
  rcases h0.2 with ⟨rfl, hn⟩ | ⟨g, cap, cur, rfl, hg, hc, h1, h2, h3, h4⟩
  · exact ⟨none, 0, by rw [hn], .inl hn⟩
  · refine ⟨some ⟨g, 0, none⟩, cap, rfl, .inr ⟨g, rfl, fun i hi => ?_⟩⟩
    rw [World.ownsRow.cellAt h0 i (by omega)]
    simp [cpt, List.getD, hi]
theorem infoP : (Try.prog.info? 25).map (fun i => (i.zero, i.size, i.bytes)) = some (some (.pointer none), 1, 8) := by kernel_rfl
theorem wpList_appQ {w0 wr : World} {ops : Array Oper} {rest : List Oper} {o : Oper} {act : Act} {Q : Exit → Act → World → Prop} (hgd : o.guard = none) (s x : Operand)
    (ho : o.op = .call { callee := .builtin .append, args := #[s, x], argTypes := #[43, 43] })
    (v : Value) (qs : List Nat) (X : Nat) (hs : act.eval s = v) (hown : Uq w0 wr v qs) (hx : act.eval x = .slice (some ⟨wr.heap.size, 0, none⟩) 1 1) (hn : qs.length ≤ 100000) (hb : w0.heap.size ≤ wr.heap.size)
    (h : ∀ v' w', Uq w0 w' v' (qs ++ [X]) → wr.grownBy w' v.ownBlock → wr.heap.size ≤ w'.heap.size → (∀ y, v'.ownBlock = some y → v.ownBlock = some y ∨ wr.heap.size ≤ y) → wpList Try.prog ops Q rest (act.put o.dst v') w') : wpList Try.prog ops Q (o :: rest) act (wr.alloc (.cells #[.pointer (some ⟨X, 0, none⟩)] 25)) := by
  obtain ⟨i, hi, hz0, hz1, hz2⟩ := info_parts infoP
  refine wpList_append_lies _ hgd s x 43 ho w0.heap.size 25 i (.pointer none) 1 8 Try.underlying43 hi hz0 hz1 hz2 rfl (by decide) v qs.length (cpt qs) hs (World.ownsRow.alloc hown _) ⟨wr.heap.size, 0, none⟩ 1 1 [.pointer (some ⟨X, 0, none⟩)] hx rfl (one_srcU wr _ _) (by simp [Value.oneCell']) (by omega) (by unfold maxLen; omega) (by omega) (by simp; omega) (wr.heap.size + 1) (by simp) ?_
  intro g cap w' h1 h2 h3 h4
  have hz : (wr.alloc (.cells #[.pointer (some ⟨X, 0, none⟩)] 25)).heap.size = wr.heap.size + 1 := by simp
  refine h _ w' (by show World.ownsRow _ _ _ _ _ _ _; rw [List.length_append]; simp only [cpt, List.map_append] at h1 ⊢; exact h1) ⟨h2.os, h2.tape, h2.output, by have := h2.size; omega, fun k hk e => (h2.block k (by omega) e).trans (Below.heap_alloc _ _ _ hk)⟩ (by have := h2.size; omega) ?_
  intro y hy
  obtain rfl : g = y := by simpa [Value.ownBlock] using hy
  rcases h3 with h5 | h5
  · exact .inl h5
  · exact .inr (by omega)
structure Mn (w0 w : World) (v : Value) (qs : List Nat) (F : Int) (m : Nat) (N : Nat) : Prop where
  row : Uq w0 w v qs
  bel : Below w0.heap.size w0 w
  ex : ∃ Xs : Nat → Nat → Prop, (∀ i, i < qs.length → Pz w0 w (Xs i) (qs.getD i 0) F m true N) ∧ (∀ i j, i < qs.length → j < qs.length → i ≠ j → ∀ k, Xs i k → ¬ Xs j k) ∧ ∀ i, i < qs.length → ∀ k, Xs i k → v.ownBlock ≠ some k
section
variable {w0 w w' : World} {v v' : Value} {qs : List Nat} {F : Int} {m : Nat} {N : Nat}
theorem Mn.nil (hb : Below w0.heap.size w0 w) : Mn w0 w (.slice none 0 0) [] F m N := ⟨uq_nil _ _, hb, fun _ _ => False, fun i hi => by simp at hi, fun i j hi => by simp at hi, fun i hi => by simp at hi⟩
theorem Mn.on (h : Mn w0 w v qs F m N) (hb : Below w.heap.size w w') : Mn w0 w' v qs F m N := by
  obtain ⟨Xs, h1, h2, h3⟩ := h.ex
  exact ⟨h.row.fx (X := fun _ => False) (Fx.of _ hb) (fun _ _ e => e), bel_bel h.bel h.bel.size hb, Xs, fun i hi => (h1 i hi).fx (Y := fun _ => False) (Fx.of _ hb) (fun _ _ e => e) (fun _ e => e.elim), h2, h3⟩
theorem Mn.drawn (h : Mn w0 w v qs F m N) (nq : Nat) : Mn w0 (w.drewN nq) v qs F m N := h.on (bel_drawn (Below.refl _ _) nq)
theorem Mn.app {wb : World} {X : Nat → Prop} {q : Nat} (hm : Mn w0 wb v qs F m N) (hbb : Below wb.heap.size wb w) (hq : Pz w0 w X q F m true N) (hB : ∀ k, X k → wb.heap.size ≤ k) (hu : Uq w0 w' v' (qs ++ [q])) (hg : w.grownBy w' v.ownBlock) (hy : ∀ y, v'.ownBlock = some y → v.ownBlock = some y ∨ w.heap.size ≤ y) : Mn w0 w' v' (qs ++ [q]) F m N := by
  have h := hm.on hbb
  have hvX : ∀ k, X k → v.ownBlock ≠ some k := fun k a b => by have h1 := (hm.row.lt b).2; have h2 := hB k a; omega
  obtain ⟨Xs, h1, h2, h3⟩ := hm.ex
  have h1w : ∀ i, i < qs.length → Pz w0 w (Xs i) (qs.getD i 0) F m true N := fun i hi => (h1 i hi).fx (Y := fun _ => False) (Fx.of _ hbb) (fun _ _ e => e) (fun _ e => e.elim)
  have hf : Fx (fun k => v.ownBlock = some k) w w' := ⟨hg.os, hg.tape, hg.output, hg.size, fun k hk hX => hg.block k hk (fun e => hX e.symm)⟩
  have hlo : ∀ k, v.ownBlock = some k → w0.heap.size ≤ k := fun k e => (h.row.lt e).1
  refine ⟨hu, hf.below h.bel h.bel.size hlo, fun i => if i < qs.length then Xs i else X, fun i hi => ?_, fun i j hi hj hij k => ?_, fun i hi k => ?_⟩
  · by_cases e : i < qs.length
    · rw [show (qs ++ [q]).getD i 0 = qs.getD i 0 from by simp [List.getD, List.getElem?_append_left e]]
      simp only [e, if_true]
      exact (h1w i e).fx hf (fun k a b => h3 i e k a b) hlo
    · have ei : i = qs.length := by simp at hi; omega
      rw [show (qs ++ [q]).getD i 0 = q from by rw [ei]; simp [List.getD]]
      simp only [e, if_false]
      exact hq.fx hf (fun k a b => hvX k a b) hlo
  · simp at hi hj
    by_cases e : i < qs.length
    · by_cases e2 : j < qs.length
      · simp only [e, e2, if_true]; exact h2 i j e e2 hij k
      · simp only [e, e2, if_true, if_false]
        intro a b
        have := ((h1 i e).lo k a).2
        have := hB k b
        omega
    · by_cases e2 : j < qs.length
      · simp only [e, e2, if_true, if_false]
        intro a b
        have := ((h1 j e2).lo k b).2
        have := hB k a
        omega
      · omega
  · simp at hi
    by_cases e : i < qs.length
    · simp only [e, if_true]
      intro a b
      rcases hy k b with z | z
      · exact h3 i e k a z
      · have := ((h1w i e).lo k a).2; omega
    · simp only [e, if_false]
      intro a b
      rcases hy k b with z | z
      · exact hvX k a z
      · have := (hq.lo k a).2; omega
theorem Mn.plays (h : Mn w0 w v qs F m N) (hN : N ≤ 99999) {i : Nat} (hi : i < qs.length) (kd : Int) {c : Int} (hc : u64r c) :
    Calls Try.prog 11 #[.pointer (some ⟨qs.getD i 0, 0, none⟩), .int .i64 kd, .int .u64 c] w fun e w' => e = .returned (.bool true) ∧ Mn w0 w' v qs F m (N + 1) := by
  obtain ⟨Xs, h1, h2, h3⟩ := h.ex
  refine ((h1 i hi).plays hN kd hc).mono ?_
  rintro e w1 ⟨rfl, X', h4, h5, h6⟩
  have hlo : ∀ k, Xs i k → w0.heap.size ≤ k := fun k e => ((h1 i hi).lo k e).1
  refine ⟨rfl, h.row.fx h5 (fun x e a => h3 i hi x a e), h5.below h.bel h.bel.size hlo, fun j => if j = i then X' else Xs j, fun j hj => ?_, fun j j2 hj hj2 hne k => ?_, fun j hj k => ?_⟩
  · by_cases e : j = i
    · simp only [e, if_true]; exact h4
    · simp only [e, if_false]
      exact ((h1 j hj).fx h5 (fun k a b => h2 j i hj hi e k a b) hlo).more (by omega)
  · by_cases e : j = i
    · by_cases e2 : j2 = i
      · omega
      · simp only [e, e2, if_true, if_false]
        intro a b
        rcases h6 k a with z | z
        · exact h2 i j2 hi hj2 (Ne.symm e2) k z b
        · have := ((h1 j2 hj2).lo k b).2; omega
    · by_cases e2 : j2 = i
      · simp only [e, e2, if_true, if_false]
        intro a b
        rcases h6 k b with z | z
        · exact h2 j i hj hi e k a z
        · have := ((h1 j hj).lo k a).2; omega
      · simp only [e, e2, if_false]; exact h2 j j2 hj hj2 hne k
  · by_cases e : j = i
    · simp only [e, if_true]
      intro a b
      rcases h6 k a with z | z
      · exact h3 i hi k z b
      · have := (h.row.lt b).2; omega
    · simp only [e, if_false]; exact h3 j hj k
end
end Go.Proofs.Ytbdkmjjjafbaoaa
