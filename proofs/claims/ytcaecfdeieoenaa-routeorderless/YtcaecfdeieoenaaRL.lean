import Derived.Test.YtcaecfdeieoenaaRI
import Derived.Test.YtcaecfdeieoenaaRO
namespace Go.Proofs.Ytcaecfdeieoenaa
set_option maxRecDepth 100000
open Go.RowKit Go.Shelf
set_option linter.unusedVariables false
attribute [local go_sem] Oper.semAt_some

/-- What is left when a prefix that came before is dropped. -/
def uqn (l : List Wy) : Nat → List Wy
  | 0 => []
  | i + 1 => match l[i]? with
    | none => uqn l i
    | some x => if (l.take i).any (fun y => x.sm y) then uqn l i else uqn l i ++ [x]
theorem uqn_succ {l : List Wy} {i : Nat} {x : Wy} (h : l[i]? = some x) : uqn l (i + 1) = if (l.take i).any (fun y => x.sm y) then uqn l i else uqn l i ++ [x] := by
  rw [uqn, h]
theorem uqn_mem (l : List Wy) (y : Wy) : ∀ i, y ∈ uqn l i → y ∈ l.take i
  | 0, h => by cases h
  | i + 1, h => by
    cases hx : l[i]? with
    | none =>
      rw [uqn, hx] at h
      have := uqn_mem l y i h
      exact List.mem_of_mem_take (i := i) (by rw [List.take_take, Nat.min_eq_left (by omega)]; exact this)
    | some x =>
      rw [uqn_succ hx] at h
      rw [List.take_add_one, hx, List.mem_append]
      split at h
      · exact .inl (uqn_mem l y i h)
      · rcases List.mem_append.1 h with h | h
        · exact .inl (uqn_mem l y i h)
        · exact .inr h
theorem uqn_pw (l : List Wy) : ∀ i, (uqn l i).Pairwise (fun x y => x.sm y = false)
  | 0 => List.Pairwise.nil
  | i + 1 => by
    cases hx : l[i]? with
    | none =>
      rw [uqn, hx]
      exact uqn_pw l i
    | some x =>
      rw [uqn_succ hx]
      split
      · exact uqn_pw l i
      · rename_i hn
        rw [List.pairwise_append]
        refine ⟨uqn_pw l i, List.pairwise_singleton _ _, fun y hy z hz => ?_⟩
        rw [List.mem_singleton] at hz
        subst hz
        rw [sm_comm]
        refine Bool.eq_false_iff.2 (fun e => hn ?_)
        exact List.any_eq_true.2 ⟨y, uqn_mem l y i hy, e⟩
theorem uqn_len (l : List Wy) : ∀ i, (uqn l i).length ≤ i
  | 0 => Nat.le_refl _
  | i + 1 => by
    have := uqn_len l i
    cases hx : l[i]? with
    | none =>
      rw [uqn, hx]
      simp only
      omega
    | some x =>
      rw [uqn_succ hx]
      split
      · omega
      · rw [List.length_append, List.length_singleton]
        omega
/-- Two ways of a list. -/
def SL2 (q o o' : Nat) (x y : Wy) (w0 w : World) : Prop := SL q o x w0 w ∧ SL q o' y w0 w
theorem SL2.kept {q o o' : Nat} {x y : Wy} {w0 w w' : World} (h : SL2 q o o' x y w0 w) (hb : Below w.heap.size w w') : SL2 q o o' x y w0 w' := ⟨h.1.kept hb, h.2.kept hb⟩
theorem SL2.drew {q o o' : Nat} {x y : Wy} {w0 w : World} (h : SL2 q o o' x y w0 w) : SL2 q o o' x y w0 { w with drawn := w.drawn + 1 } := ⟨h.1.drew, h.2.drew⟩
theorem SL.of {w : World} {a : Option Addr} {m : List Wy} (h : Ws w a m) {w' : World} (hb : Below w.heap.size w w') {j : Nat} {x : Wy} (hx : m[j]? = some x) : ∃ q off, a = some ⟨q, off, none⟩ ∧ SL q (off + j * 5) x w' w' := by
  rcases h.2 with h | ⟨q, off, e, h⟩
  · rw [h] at hx
    simp at hx
  · obtain ⟨c0, c1, c2, c3, c4⟩ := h j x hx
    exact ⟨q, off, e, ⟨(hb.cell (World.block_lt_of_cell? _ _ c0)).trans c0, (hb.cell (World.block_lt_of_cell? _ _ c1)).trans c1, (hb.cell (World.block_lt_of_cell? _ _ c2)).trans c2, (hb.cell (World.block_lt_of_cell? _ _ c3)).trans c3, (hb.cell (World.block_lt_of_cell? _ _ c4)).trans c4⟩, Below.refl _ _⟩
theorem wp_way {w : World} {o : Oper} {act : Act} {K : Act → World → Prop} {Q : Exit → Act → World → Prop} (s x : Operand)
    (ho : o.op = .call { callee := .builtin .append, args := #[s, x], argTypes := #[43, 43] })
    (base : Nat) (v : Value) (l : List Wy) (hs : act.eval s = v) (hown : Wo w base v l) (g : Nat) (y : Wy) (hx : act.eval x = .slice (some ⟨g, 0, none⟩) 1 1)
    (hg : w.heap[g]? = some (.cells #[.int .i64 y.F, .int .u64 y.H, .int .u64 y.L, .int .i64 y.B, .int .i64 y.K] 54 (0, 0))) (hy : y.In) (hlen : l.length ≤ 100000) (hbase : base ≤ w.heap.size)
    (h : ∀ v' w', Wo w' base v' (l ++ [y]) → w.grownBy w' v.ownBlock → K (act.put o.dst v') w') : o.wp Try.prog act w K Q := by
  obtain ⟨i, hi, hz0, hz1, hz2⟩ := info_parts infoW
  refine wp_append_own _ s x 43 ho base 54 i _ 5 40 Try.underlying43 hi hz0 hz1 hz2 rfl (by decide) v l.length (wcs l) hs hown.1 ⟨g, 0, none⟩ 1 1 (wc y) hx rfl ?c1 ?c2 (by unfold maxLen; omega) (by omega) hbase ?_
  case c1 =>
    intro j u hj
    rw [Addr.add_lit, Nat.zero_add, cell_of_row w g j _ _ (0, 0) hg]
    exact (List.getElem?_toArray (xs := wc y) (i := j)).trans hj
  case c2 =>
    intro u hu
    exact wcs_one [y] u (by simpa [wcs] using hu)
  intro v' w' h1 h2 _
  refine h v' w' ⟨?_, fun z hz => ?_⟩ h2
  · rw [List.length_append, List.length_singleton, ← wcs_append]
    simpa [wcs] using h1
  · rcases List.mem_append.1 hz with hz | hz
    · exact hown.2 z hz
    · rw [List.mem_singleton] at hz
      subst hz
      exact hy
theorem own_neW {w : World} {base b : Nat} {v : Value} {l : List Wy} {cs : Array Value} {t : TypeId} (h : Wo w base v l) (hb : w.heap[b]? = some (.cells cs t (0, 0))) (ht : t ≠ 54) : some b ≠ v.ownBlock := fun e => by
  obtain ⟨cur, hc⟩ := own_blk8 h.1 e.symm
  rw [hb] at hc
  simp at hc
  exact ht hc.2
theorem wo_own {W W' : World} {base B : Nat} {s : Value} {l : List Wy} {row : Option Nat} (h : Wo W base s l) (hg : W.grownBy W' row) (hr : ∀ r, row = some r → B ≤ r ∧ ∃ o : Obj, W.heap[r]? = some o ∧ o.isCells = false) : Wo W' base s l := by
  refine ⟨h.1.kept hg ?_, h.2⟩
  cases hs : s.ownBlock with
  | none => exact .inl rfl
  | some g =>
    refine .inr (fun e => ?_)
    obtain ⟨cur, hc⟩ := own_blk8 h.1 hs
    obtain ⟨_, o, ho, hoc⟩ := hr g e.symm
    rw [hc] at ho
    cases ho
    cases hoc
theorem heap_own {W W' : World} {B b : Nat} {cs : Array Value} {t : TypeId} {row : Option Nat} (h : W.heap[b]? = some (.cells cs t (0, 0))) (hg : W.grownBy W' row) (hr : ∀ r, row = some r → B ≤ r ∧ ∃ o : Obj, W.heap[r]? = some o ∧ o.isCells = false) : W'.heap[b]? = some (.cells cs t (0, 0)) := by
  refine (hg.block b (Array.getElem?_eq_some_iff.1 h).1 (fun e => ?_)).trans h
  obtain ⟨_, o, ho, hoc⟩ := hr b e.symm
  rw [h] at ho
  cases ho
  cases hoc
theorem Gs.own {M : Nat → Prop} {W W' : World} {base : Nat} {s : Value} {l : List Wy} (hM : ∀ j, s.ownBlock = some j → M j) (h : Wo W base s l) (g : W.grownBy W' s.ownBlock) : Gs M W W' := ⟨g.size, fun k hk hn => g.block k hk (fun e => hn (hM k e.symm))⟩
theorem Nr.own {W : World} {base k : Nat} {s : Value} {l : List Wy} (h : Wo W base s l) (hs : s.ownBlock = some k) : Nr W k := fun cur fl e => by
  obtain ⟨cur', hc⟩ := own_blk8 h.1 hs
  rw [e] at hc
  simp at hc
theorem Gs.keepsC {M : Nat → Prop} {B : Nat} {X Y : World} (h : Gs M X Y) (hm : ∀ j, M j → j < B ∨ ∃ o : Obj, X.heap[j]? = some o ∧ o.isCells = true) : KeepsFrom B X Y :=
  ⟨h.1, fun k o hk hx hc => (h.2 k (Array.getElem?_eq_some_iff.1 hx).1 (fun hh => by
    rcases hm k hh with h | ⟨o', e, he⟩
    · omega
    · rw [hx] at e
      cases e
      rw [he] at hc
      cases hc)).trans hx⟩
theorem Wo.isc {W : World} {base k : Nat} {s : Value} {l : List Wy} (h : Wo W base s l) (hs : s.ownBlock = some k) : ∃ o : Obj, W.heap[k]? = some o ∧ o.isCells = true := by
  obtain ⟨cur, hc⟩ := own_blk8 h.1 hs
  exact ⟨_, hc, rfl⟩
theorem Wo.set {W : World} {base k : Nat} {s u : Value} {l : List Wy} {t : TypeId} (h : Wo W base s l) (hb : W.heap[k]? = some (.cells #[u] t (0, 0))) (ht : t ≠ 54) (v : Value) : Wo (W.setCell ⟨k, 0, none⟩ v) base s l := by
  refine ⟨h.1.kept (grownBy_setCell' W k v) ?_, h.2⟩
  cases hs : s.ownBlock with
  | none => exact .inl rfl
  | some g => exact .inr (fun e => own_neW h hb ht (by rw [hs]; exact e.symm))
end Go.Proofs.Ytcaecfdeieoenaa
