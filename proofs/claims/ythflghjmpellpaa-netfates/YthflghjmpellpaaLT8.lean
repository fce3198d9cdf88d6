import Derived.Test.YthflghjmpellpaaLT7
namespace Go.Proofs.Ythflghjmpellpaa
open Go.RowKit
set_option linter.unusedVariables false
set_option maxRecDepth 100000

/-- A cell of a row of one's own is written. -/
theorem row_set {w : World} {B e n i g c : Nat} {xs : List Value} (h : w.ownsRow B e 1 (.slice (some ⟨g, 0, none⟩) n c) n xs) (hi : i < n) (x : Value) : (w.setCell ⟨g, i, none⟩ x).ownsRow B e 1 (.slice (some ⟨g, 0, none⟩) n c) n (xs.set i x) := by
  obtain ⟨h1, h2⟩ := h
  rcases h2 with ⟨h2, _⟩ | ⟨g', cap, cur, e1, hb, hg, hnc, hcm, hs, ht⟩
  · simp at h2
  · simp at e1
    obtain ⟨rfl, rfl⟩ := e1
    refine ⟨by simpa using h1, .inr ⟨g, c, cur.set! i x, rfl, hb, ?_, hnc, hcm, by simpa using hs, ?_⟩⟩
    · simp [World.setCell, Array.getElem?_modify, hg]
    · simp only [Array.set!_eq_setIfInBounds, Array.toList_setIfInBounds]
      rw [List.take_set, ht]
/-- One more bool behind a row of one's own. -/
theorem infoB : (Try.prog.info? 4).map (fun i => (i.zero, i.size, i.bytes)) = some (some (.bool false), 1, 1) := by kernel_rfl
theorem wpList_appH {w : World} {ops : Array Oper} {rest : List Oper} {o : Oper} {act : Act} {Q : Exit → Act → World → Prop} (hgd : o.guard = none) (s x : Operand)
    (ho : o.op = .call { callee := .builtin .append, args := #[s, x], argTypes := #[27, 27] })
    (base : Nat) (v : Value) (H : List Bool) (hs : act.eval s = v) (hown : w.ownsRow base 4 1 v H.length (H.map Value.bool)) (g : Nat) (hx : act.eval x = .slice (some ⟨g, 0, none⟩) 1 1)
    (hg : w.cell? ⟨g, 0, none⟩ = some (.bool true)) (hlen : H.length ≤ 1000000000) (hbase : base ≤ w.heap.size)
    (h : ∀ v' w', w'.ownsRow base 4 1 v' (H ++ [true]).length ((H ++ [true]).map Value.bool) → w.grownBy w' v.ownBlock → (v'.ownBlock = v.ownBlock ∨ v'.ownBlock = some w.heap.size) → wpList Try.prog ops Q rest (act.put o.dst v') w') : wpList Try.prog ops Q (o :: rest) act w := by
  obtain ⟨i, hi, hz0, hz1, hz2⟩ := info_parts infoB
  refine wpList_append_own_at _ hgd s x 27 ho base 4 i _ 1 1 Try.underlying27 hi hz0 hz1 hz2 rfl (by decide) v H.length (H.map Value.bool) hs hown ⟨g, 0, none⟩ 1 1 [.bool true] hx rfl ?c1 ?c2 (by unfold maxLen; omega) (by omega) hbase ?_
  case c1 =>
    intro j u hj
    cases j with
    | zero => simp at hj; subst hj; simpa [Addr.add_lit] using hg
    | succ j => simp at hj
  case c2 =>
    intro u hu
    simp at hu
    subst hu
    rfl
  intro v' w' h1 h2 _ h4
  refine h v' w' ?_ h2 h4
  rw [List.length_append, List.length_singleton, List.map_append]
  exact h1
end Go.Proofs.Ythflghjmpellpaa
