import Derived.Test.YthjfgdldclhbhaaMA
namespace Go.Proofs.Ythjfgdldclhbhaa
set_option maxRecDepth 100000
open Go.RowKit Go.Shelf
set_option linter.unusedVariables false

/-- What stands in one place of the model's lasting sectors. -/
def Slt (w : World) (N : Nat → Prop) (v : Value) (z : List Int) : Prop :=
  (v = .slice none 0 0 ∧ z = zer) ∨ ∃ g c, v = .slice (some ⟨g, 0, none⟩) 512 c ∧ Bs w (some ⟨g, 0, none⟩) 512 z ∧ (∃ cur, w.heap[g]? = some (.cells cur 5 (0, 0))) ∧ N g ∧ 512 ≤ c ∧ c ≤ maxLen
/-- The model: what lasts, what pends; its blocks are of N. -/
structure Mk (w : World) (g : Nat) (S : Nat → List Int) (P : List (Nat × List Int)) (N : Nat → Prop) (cur : Array Value) (pa : Option Addr) (pc : Nat) (I : List It) : Prop where
  blk : w.heap[g]? = some (.cells cur 63 (0, 0))
  sz : cur.size = 33
  lasts : ∀ i, i < 32 → ∃ v, cur[i]? = some v ∧ Slt w N v (S i)
  pends : cur[32]? = some (.slice pa I.length pc)
  own : w.ownsRow 0 94 2 (.slice pa I.length pc) I.length (pcs I)
  it : ∀ x ∈ I, x.S < 32 ∧ Bs w (some ⟨x.g, 0, none⟩) 512 x.Z ∧ (∃ cur, w.heap[x.g]? = some (.cells cur 5 (0, 0))) ∧ N x.g ∧ 512 ≤ x.c ∧ x.c ≤ maxLen
  ip : P = I.map fun x => (x.S, x.Z)
  ng : N g
  np : ∀ q, (Value.slice pa I.length pc).ownBlock = some q → N q
def Md (w : World) (g : Nat) (S : Nat → List Int) (P : List (Nat × List Int)) (N : Nat → Prop) : Prop := ∃ cur pa pc I, Mk w g S P N cur pa pc I
section
variable {w w' : World} {g : Nat} {S : Nat → List Int} {P : List (Nat × List Int)} {N R : Nat → Prop} {cur : Array Value} {pa : Option Addr} {pc : Nat} {I : List It}
theorem Slt.at {v : Value} {z : List Int} (h : Slt w N v z) (e : ∀ b, N b → b < w.heap.size → w'.heap[b]? = w.heap[b]?) (hn : ∀ b, N b → b < w.heap.size → R b) : Slt w' R v z := by
  rcases h with h | ⟨g, c, h1, h2, ⟨cur, h3⟩, h4, h5⟩
  · exact .inl h
  · have hl := (Array.getElem?_eq_some_iff.1 h3).1
    exact .inr ⟨g, c, h1, h2.at (e g h4 hl), ⟨cur, (e g h4 hl).trans h3⟩, hn g h4 hl, h5⟩
theorem Mk.keep (h : Mk w g S P N cur pa pc I) (e : ∀ b, N b → b < w.heap.size → w'.heap[b]? = w.heap[b]?) (hn : ∀ b, N b → b < w.heap.size → R b) : Mk w' g S P R cur pa pc I := by
  have hl := (Array.getElem?_eq_some_iff.1 h.blk).1
  refine ⟨(e g h.ng hl).trans h.blk, h.sz, fun i hi => ?_, h.pends, own_at' h.own (fun q hq => ?_), fun x hx => ?_, h.ip, hn g h.ng hl, fun q hq => ?_⟩
  · obtain ⟨v, h1, h2⟩ := h.lasts i hi
    exact ⟨v, h1, h2.at e hn⟩
  · obtain ⟨c, hc⟩ := own_ty h.own hq
    exact e q (h.np q hq) (Array.getElem?_eq_some_iff.1 hc).1
  · obtain ⟨h0, h1, ⟨c, h2⟩, h3, h4⟩ := h.it x hx
    have hlx := (Array.getElem?_eq_some_iff.1 h2).1
    exact ⟨h0, h1.at (e _ h3 hlx), ⟨c, (e _ h3 hlx).trans h2⟩, hn _ h3 hlx, h4⟩
  · obtain ⟨c, hc⟩ := own_ty h.own hq
    exact hn q (h.np q hq) (Array.getElem?_eq_some_iff.1 hc).1
theorem Mk.below (h : Mk w g S P N cur pa pc I) (hb : Below w.heap.size w w') : Mk w' g S P N cur pa pc I := h.keep (fun b _ hl => hb.block b hl) (fun _ h _ => h)
theorem Mk.cell (h : Mk w g S P N cur pa pc I) {i : Nat} {v : Value} (hc : cur[i]? = some v) : w.cell? ⟨g, i, none⟩ = some v := (cell_of_row _ _ i _ _ (0, 0) h.blk).trans hc
theorem Mk.c32 (h : Mk w g S P N cur pa pc I) : w.cell? ⟨g, 32, none⟩ = some (.slice pa I.length pc) := h.cell h.pends
theorem Mk.fz (h : Mk w g S P N cur pa pc I) (i : Nat) : w.frozen? ⟨g, i, none⟩ = false := by have := h.blk; simp [World.frozen?, this]
theorem Mk.lt (h : Mk w g S P N cur pa pc I) : g < w.heap.size := (Array.getElem?_eq_some_iff.1 h.blk).1
theorem Mk.cellI (h : Mk w g S P N cur pa pc I) {j : Nat} {x : It} (hx : I[j]? = some x) : ∃ gp, pa = some ⟨gp, 0, none⟩ ∧ I.length ≤ pc ∧ pc ≤ maxLen ∧ w.cell? ⟨gp, j * 2, none⟩ = some (.int .i64 x.S) ∧ w.cell? ⟨gp, j * 2 + 1, none⟩ = some (.slice (some ⟨x.g, 0, none⟩) 512 x.c) := by
  have hj : j < I.length := (List.getElem?_eq_some_iff.1 hx).1
  obtain ⟨g, cap, e, h1, h2, _, _, hc⟩ := own2_cell h.own (by omega)
  simp at e
  obtain ⟨rfl, rfl⟩ := e
  exact ⟨g, rfl, by omega, h2, hc _ _ (pcs_get I j x hx).1, hc _ _ (pcs_get I j x hx).2⟩
/-- One of its own cells has turned. -/
theorem Mk.ne (h : Mk w g S P N cur pa pc I) {b : Nat} {c : Array Value} {t : TypeId} (hb : w.heap[b]? = some (.cells c t (0, 0))) (ht : t ≠ 63) : b ≠ g := fun e => by
  have := h.blk
  rw [← e, hb] at this
  simp at this
  exact ht this.2
theorem Mk.others (h : Mk w g S P N cur pa pc I) (i : Nat) (u : Value) {b : Nat} {c : Array Value} {t : TypeId} (hb : w.heap[b]? = some (.cells c t (0, 0))) (ht : t ≠ 63) : (w.setCell ⟨g, i, none⟩ u).heap[b]? = w.heap[b]? := Below.heap_setCell _ _ _ _ (h.ne hb ht)
theorem Mk.setL (h : Mk w g S P N cur pa pc I) {i : Nat} (hi : i < 32) {u : Value} {z : List Int} (hu : Slt w N u z) : Mk (w.setCell ⟨g, i, none⟩ u) g (lay1 S (i, z)) P N (cur.setIfInBounds i u) pa pc I := by
  have hst : ∀ {v : Value} {y : List Int}, Slt w N v y → Slt (w.setCell ⟨g, i, none⟩ u) N v y := fun hv => by
    rcases hv with hv | ⟨q, c, h1, h2, ⟨cu, h3⟩, h4⟩
    · exact .inl hv
    · have := h.others i u h3 (by decide)
      exact .inr ⟨q, c, h1, h2.at this, ⟨cu, this.trans h3⟩, h4⟩
  refine ⟨by have := h.blk; simp [World.setCell, Array.getElem?_modify, this], by simpa using h.sz, fun j hj => ?_, ?_, own_at' h.own (fun q hq => ?_), fun x hx => ?_, h.ip, h.ng, h.np⟩
  · by_cases e : j = i
    · subst e
      refine ⟨u, by rw [Array.getElem?_setIfInBounds_self_of_lt (by rw [h.sz]; omega)], ?_⟩
      unfold lay1
      rw [if_pos rfl]
      exact hst hu
    · obtain ⟨v, h1, h2⟩ := h.lasts j hj
      refine ⟨v, by rw [Array.getElem?_setIfInBounds_ne (Ne.symm e)]; exact h1, ?_⟩
      unfold lay1
      rw [if_neg (by exact e)]
      exact hst h2
  · rw [Array.getElem?_setIfInBounds_ne (by omega)]
    exact h.pends
  · obtain ⟨c, hc⟩ := own_ty h.own hq
    exact h.others i u hc (by decide)
  · obtain ⟨h0, h1, ⟨c, h2⟩, h3⟩ := h.it x hx
    have := h.others i u h2 (by decide)
    exact ⟨h0, h1.at this, ⟨c, this.trans h2⟩, h3⟩
theorem Mk.clr (h : Mk w g S P N cur pa pc I) : Mk (w.setCell ⟨g, 32, Option.none⟩ (.slice Option.none 0 0)) g S [] N (cur.setIfInBounds 32 (.slice Option.none 0 0)) Option.none 0 [] := by
  refine ⟨by have := h.blk; simp [World.setCell, Array.getElem?_modify, this], by simpa using h.sz, fun j hj => ?_, by rw [Array.getElem?_setIfInBounds_self_of_lt (by rw [h.sz]; omega)]; rfl, World.ownsRow_nil _ _ _ _, fun x hx => by simp at hx, rfl, h.ng, fun q hq => by simp [Value.ownBlock] at hq⟩
  obtain ⟨v, h1, h2⟩ := h.lasts j hj
  refine ⟨v, by rw [Array.getElem?_setIfInBounds_ne (by omega)]; exact h1, ?_⟩
  rcases h2 with hv | ⟨q, c, h1, h2, ⟨cu, h3⟩, h4⟩
  · exact .inl hv
  · have := h.others 32 (.slice Option.none 0 0) h3 (by decide)
    exact .inr ⟨q, c, h1, h2.at this, ⟨cu, this.trans h3⟩, h4⟩
end
set_option maxHeartbeats 1000000 in
/-- m.lay. -/
theorem mlay_ (g : Nat) (S : Nat → List Int) (P : List (Nat × List Int)) (N : Nat → Prop) (cur : Array Value) (pa : Option Addr) (pc : Nat) (I : List It) (x : It) (w : World) (h : Mk w g S P N cur pa pc I) (hx : x ∈ I) :
    Calls Try.prog 56 #[.pointer (some ⟨g, 0, none⟩), .agg #[.int .i64 x.S, .slice (some ⟨x.g, 0, none⟩) 512 x.c]] w fun e w' => e = .returned (.tuple #[]) ∧ (∃ cur', Mk w' g (lay1 S (x.S, x.Z)) P N cur' pa pc I) ∧ w.grownBy w' (some g) := by
  obtain ⟨h0, h1, h2, h3, h4, h5⟩ := h.it x hx
  have BA : Below w.heap.size w (w.alloc (.cells #[.int .i64 x.S, .slice (some ⟨x.g, 0, none⟩) 512 x.c] 94)) := (Below.refl _ _).alloc (Nat.le_refl _) _
  have M1 := h.below BA
  obtain ⟨v0, hv0, _⟩ := M1.lasts x.S h0
  have c0 := M1.cell hv0
  have f0 := M1.fz x.S
  have HU : Hid (Mk ((w.alloc (.cells #[.int .i64 x.S, .slice (some ⟨x.g, 0, none⟩) 512 x.c] 94)).setCell ⟨g, x.S, none⟩ (.slice (some ⟨x.g, 0, none⟩) 512 x.c)) g (lay1 S (x.S, x.Z)) P N (cur.setIfInBounds x.S (.slice (some ⟨x.g, 0, none⟩) 512 x.c)) pa pc I) := by
    obtain ⟨_, q1, q2, _⟩ := M1.it x hx
    exact M1.setL h0 (.inr ⟨x.g, x.c, rfl, q1, q2, h3, h4, h5⟩)
  have HG : Hid (w.grownBy ((w.alloc (.cells #[.int .i64 x.S, .slice (some ⟨x.g, 0, none⟩) 512 x.c] 94)).setCell ⟨g, x.S, none⟩ (.slice (some ⟨x.g, 0, none⟩) 512 x.c)) (some g)) := grown_set (grown_alloc (grown_refl w _) _) _ _
  have hS : (x.S : Int) < 32 := by omega
  clear h h1 h2 h3 M1 BA hv0
  obtain ⟨xS, xg, xc, xZ⟩ := x
  simp only at *
  go_enter Try.func56, Try.ntmps56
  go_wp2_with fail
  go_region
  all_goals
    have HU2 := HU.out
    have HG2 := HG.out
    clear HU HG
    go_wp2_with fail
    go_end0
    exact ⟨rfl, ⟨_, ⟨HU2.blk, HU2.sz, HU2.lasts, HU2.pends, HU2.own, HU2.it, HU2.ip, HU2.ng, HU2.np⟩⟩, ⟨HG2.os, HG2.tape, HG2.output, HG2.size, HG2.block⟩⟩
end Go.Proofs.Ythjfgdldclhbhaa
