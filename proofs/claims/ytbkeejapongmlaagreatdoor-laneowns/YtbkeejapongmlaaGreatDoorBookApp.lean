import Derived.Test.YtbkeejapongmlaaGreatDoorBookHold
import Derived.Deep.AppendSrc
import Derived.Deep.AppendLies
import Derived.Deep.RegionHeldLaw
namespace Go.Proofs.YtbkeejapongmlaaGreatDoor.Kp
set_option maxRecDepth 100000
open Go.RowKit
set_option linter.unusedVariables false

/-- What an append of one byte makes of a list. -/
structure Grew (w w' : World) (e e' : Ent) (z : Int) : Prop where
  n : e'.n = e.n + 1
  ok : e'.n ≤ 100000 → e'.Ok w'
  sh : ∀ f : Nat → Int, e.Sh w f → f e.n = z → e'.Sh w' f
  how : (e'.a = e.a ∧ e'.c = e.c ∧ ∃ b off, e.a = some ⟨b, off, none⟩ ∧ e.n < e.c ∧ Wk (fun b' i' => b' = b ∧ i' = off + e.n) w w') ∨ (Below w.heap.size w w' ∧ ∀ b x, e'.In b x → b = w.heap.size)

theorem run_append_ent (w : World) (e : Ent) (z : Int) (nb : Nat) (ty : TypeId) (ho : e.Ok w) (hn : e.n ≤ 99999) (hz : w.cell? ⟨nb, 0, none⟩ = some (.int .u8 z)) :
    ∃ e' w', (Builtin.append_ #[22, 22] ty #[e.val, .slice (some ⟨nb, 0, none⟩) 1 1]).run Tryz.prog w = .ok e'.val w' ∧ Grew w w' e e' z := by
  obtain ⟨i, hi, hz0, hz1, hz2⟩ := info_parts info5
  obtain ⟨a, n, c⟩ := e
  obtain ⟨h1, h2, h3, h3', h4⟩ := ho
  simp only at h1 h2 h3 h3' h4 hn
  have hsrc : Src Tryz.prog i.size 22 (.slice (some ⟨nb, 0, none⟩) 1 1) 1 [.int .u8 z] w := by
    refine Src.ofSlice w Tryz.underlying22 ⟨nb, 0, none⟩ 1 1 _ (by rw [hz1]; rfl) ?_ (by intro u hu; simp at hu; subst hu; rfl)
    intro j u hj
    match j, hj with
    | 0, hj => simp at hj; subst hj; simpa [Addr.add] using hz
  by_cases hroom : n + 1 ≤ c
  · rcases h4 with h4 | ⟨b, off, cur, rfl, hb, hs⟩
    · omega
    refine ⟨⟨some ⟨b, off, none⟩, n + 1, c⟩, w.setCells b (off + n * i.size) [.int .u8 z], ?_, ?_⟩
    · refine run_append_room_src w 22 22 ty 5 i Tryz.underlying22 hi b off n c _ 1 _ hsrc hroom ?_ ?_
      · intro j hj
        simp at hj
        subst hj
        rw [hz1, cell_of_row w b _ cur 5 (0, 0) hb]
        simp; omega
      · intro j hj
        simp [World.frozen?, hb]
    · have hset : w.setCells b (off + n * i.size) [.int .u8 z] = w.setCell ⟨b, off + n, none⟩ (.int .u8 z) := by rw [hz1, Nat.mul_one]; rfl
      rw [hset]
      have hwk : Wk (fun b' i' => b' = b ∧ i' = off + n) w (w.setCell ⟨b, off + n, none⟩ (.int .u8 z)) := .set ⟨rfl, rfl⟩ _
      have hbb : (w.setCell ⟨b, off + n, none⟩ (.int .u8 z)).heap[b]? = some (.cells (cur.setIfInBounds (off + n) (.int .u8 z)) 5 (0, 0)) := by simp [World.setCell, Array.getElem?_modify, hb]
      refine ⟨rfl, fun h5 => ⟨hroom, h2, h5, (fun h => by cases h), .inr ⟨b, off, _, rfl, hbb, by simpa using hs⟩⟩, fun f hf hfz => .inr ⟨b, off, rfl, fun j hj => ?_⟩, .inl ⟨rfl, rfl, b, off, rfl, by simp only; omega, hwk⟩⟩
      simp only at hj hfz
      by_cases e : j = n
      · subst e
        rw [cell_of_row _ b _ _ 5 (0, 0) hbb, hfz]
        have : off + j < cur.size := by omega
        simp [this]
      · rcases hf with hf | ⟨b', off', e1, hf⟩
        · simp only at hf; omega
        · simp at e1
          obtain ⟨rfl, rfl⟩ := e1
          exact hwk.cell (by rintro ⟨_, h⟩; omega) (hf j (by simp only; omega))
  · have hlt : c < n + 1 := by omega
    obtain ⟨olds, hol, hold, hsh⟩ : ∃ olds : List Value, olds.length = n ∧ (Builtin.firstCells i.size n (.slice a n c)).run Tryz.prog w.drew = .ok olds.toArray w.drew ∧ ∀ f : Nat → Int, Ent.Sh w ⟨a, n, c⟩ f → ∀ j, j < n → olds[j]? = some (.int .u8 (f j)) := by
      by_cases h0 : n = 0
      · subst h0
        obtain rfl : c = 0 := by omega
        refine ⟨[], rfl, ?_, fun f _ j hj => by omega⟩
        cases a with
        | none => exact run_firstCells_none w.drew i.size 0 0 0
        | some x => exact run_firstCells_some w.drew i.size 0 x 0 0 [] (by simp) (by simp)
      · rcases h4 with h4 | ⟨b, off, cur, rfl, hb, hs⟩
        · omega
        refine ⟨(cur.toList.drop off).take n, by simp; omega, ?_, fun f hf j hj => ?_⟩
        · refine run_firstCells_some w.drew i.size n ⟨b, off, none⟩ n c _ (by rw [hz1]; simp; omega) ?_
          intro j u hu
          rw [List.getElem?_take] at hu
          split at hu
          · rw [Addr.add_lit]
            show w.cell? _ = _
            rw [cell_of_row w b _ cur 5 (0, 0) hb]
            rw [List.getElem?_drop] at hu
            simpa using hu
          · cases hu
        · rcases hf with hf | ⟨b', off', e1, hf⟩
          · simp only at hf; omega
          · simp at e1
            obtain ⟨rfl, rfl⟩ := e1
            have := hf j hj
            rw [cell_of_row w b _ cur 5 (0, 0) hb] at this
            rw [List.getElem?_take, if_pos hj, List.getElem?_drop]
            simpa using this
    have hrun := run_append_grow_src (P := Tryz.prog) w 22 22 ty 5 i (.int .u8 0) Tryz.underlying22 hi hz0 a n c olds hold _ 1 _ hsrc hlt (by omega) (growslice_fits hlt (by rw [hz2]; omega))
    have hge := grownCap_ge w (n + 1) c 5
    have hle := grownCap_le_maxLen w (n + 1) c 5 (by unfold maxLen; omega)
    refine ⟨⟨some ⟨w.heap.size, 0, none⟩, n + 1, grownCap w (n + 1) c 5⟩, _, hrun, ?_⟩
    have hnew : (w.drew.alloc (.cells ((olds ++ [Value.int .u8 z]).toArray ++ Builtin.zeroCells (Value.int .u8 0).cells (grownCap w (n + 1) c 5 - (n + 1))) 5)).heap[w.heap.size]? = some (.cells ((olds ++ [Value.int .u8 z]).toArray ++ Builtin.zeroCells (Value.int .u8 0).cells (grownCap w (n + 1) c 5 - (n + 1))) 5 (0, 0)) := heap_alloc_new w.drew _
    refine ⟨rfl, fun h5 => ⟨hge, hle, h5, (fun h => by cases h), .inr ⟨w.heap.size, 0, _, rfl, hnew, ?_⟩⟩, fun f hf hfz => .inr ⟨w.heap.size, 0, rfl, fun j hj => ?_⟩, .inr ⟨(Below.refl _ w).drew.alloc (Nat.le_refl _) _, ?_⟩⟩
    · rw [Array.size_append, size_zeroCells]
      simp [hol, Value.cells]; omega
    · simp only at hj hfz
      rw [Nat.zero_add, cell_of_row _ w.heap.size j _ 5 (0, 0) hnew]
      rw [Array.getElem?_append_left (by simp [hol]; omega)]
      rw [List.getElem?_toArray]
      by_cases e : j = n
      · subst e; rw [List.getElem?_append_right (by omega)]; simp [hol, hfz]
      · rw [List.getElem?_append_left (by omega)]; exact hsh f hf j (by omega)
    · rintro b x ⟨off, e1, _⟩
      simp at e1
      exact e1.1.symm

theorem step_append_ent {ops : Array Oper} {o : Oper} {a : Act} {w : World} {K : Act → World → Prop} {Q : Exit → Act → World → Prop} {X : Prop} (hgd : o.guard = none) (s x : Operand)
    (hop : o.op = .call { callee := .builtin .append, args := #[s, x], argTypes := #[22, 22] }) (e : Ent) (z : Int) (nb : Nat) (hs : a.eval s = e.val) (hx : a.eval x = .slice (some ⟨nb, 0, none⟩) 1 1)
    (ho : e.Ok w) (hn : e.n ≤ 99999) (hz : w.cell? ⟨nb, 0, none⟩ = some (.int .u8 z))
    (h : ∀ e' w', Grew w w' e e' z → K (a.put o.dst (.slice e'.a e'.n e'.c)) w') : if Region.wanted o (yielded ops a.tmps) = true then Oper.wp Tryz.prog o a w K Q else X := by
  have hw : Region.wanted o (yielded ops a.tmps) = true := by simp [Region.wanted, hgd]
  rw [if_pos hw]
  obtain ⟨e', w', hr, hG⟩ := run_append_ent w e z nb o.type ho hn hz
  unfold Oper.wp execOp
  simp only [hop, resolve, invoke, builtin, Sem.run_bind, Sem.run_pure, Result.andThen_ok, List.map_toArray, List.map_cons, List.map_nil, hs, hx, hr]
  exact h e' w' hG
end Go.Proofs.YtbkeejapongmlaaGreatDoor.Kp
