import Derived.Test.YtcaecfdeieoenaaR4
namespace Go.Proofs.Ytcaecfdeieoenaa
open Go.RowKit
set_option linter.unusedVariables false

theorem infoW : (Try.prog.info? 54).map (fun i => (i.zero, i.size, i.bytes)) = some (some (.agg #[.int .i64 0, .int .u64 0, .int .u64 0, .int .i64 0, .int .i64 0]), 5, 40) := by kernel_rfl
/-- One way more behind a row of one's own. -/
theorem wpList_way {w : World} {ops : Array Oper} {rest : List Oper} {o : Oper} {act : Act} {Q : Exit → Act → World → Prop} (hgd : o.guard = none) (s x : Operand)
    (ho : o.op = .call { callee := .builtin .append, args := #[s, x], argTypes := #[43, 43] })
    (base : Nat) (v : Value) (l : List Wy) (hs : act.eval s = v) (hown : Wo w base v l) (g : Nat) (y : Wy) (hx : act.eval x = .slice (some ⟨g, 0, none⟩) 1 1)
    (hg : w.heap[g]? = some (.cells #[.int .i64 y.F, .int .u64 y.H, .int .u64 y.L, .int .i64 y.B, .int .i64 y.K] 54 (0, 0))) (hy : y.In) (hlen : l.length ≤ 100000) (hbase : base ≤ w.heap.size)
    (h : ∀ v' w', Wo w' base v' (l ++ [y]) → Below base w w' → wpList Try.prog ops Q rest (act.put o.dst v') w') : wpList Try.prog ops Q (o :: rest) act w := by
  obtain ⟨i, hi, hz0, hz1, hz2⟩ := info_parts infoW
  refine wpList_append_own _ hgd s x 43 ho base 54 i _ 5 40 Try.underlying43 hi hz0 hz1 hz2 rfl (by decide) v l.length (wcs l) hs hown.1 ⟨g, 0, none⟩ 1 1 (wc y) hx rfl ?c1 ?c2 (by unfold maxLen; omega) (by omega) hbase ?_
  case c1 =>
    intro j u hj
    rw [Addr.add_lit, Nat.zero_add, cell_of_row w g j _ _ (0, 0) hg]
    exact (List.getElem?_toArray (xs := wc y) (i := j)).trans hj
  case c2 =>
    intro u hu
    exact wcs_one [y] u (by simpa [wcs] using hu)
  intro v' w' h1 h2 _
  refine h v' w' ⟨?_, fun z hz => ?_⟩ ((Below.refl _ _).grown h2 hbase (fun k e => (hown.1.lt k e).1))
  · rw [List.length_append, List.length_singleton, ← wcs_append]
    simpa [wcs] using h1
  · rcases List.mem_append.1 hz with hz | hz
    · exact hown.2 z hz
    · rw [List.mem_singleton] at hz
      subst hz
      exact hy
theorem ins_none {p : Wy} : ∀ {l : List Wy}, (∀ x ∈ l, ¬ p.cm x < 0) → ins p l = l ++ [p]
  | [], _ => rfl
  | x :: r, h => by
    rw [ins, if_neg (h x List.mem_cons_self), ins_none (fun y hy => h y (List.mem_cons_of_mem _ hy))]
    rfl
theorem ins_at {p : Wy} : ∀ {l : List Wy} {t : Nat} {x : Wy}, l[t]? = some x → p.cm x < 0 → (∀ i y, i < t → l[i]? = some y → ¬ p.cm y < 0) → ins p l = l.take t ++ p :: l.drop t
  | [], t, x, hx, _, _ => by simp at hx
  | y :: r, 0, x, hx, hc, _ => by
    obtain rfl : y = x := by simpa using hx
    rw [ins, if_pos hc]
    rfl
  | y :: r, t + 1, x, hx, hc, hn => by
    rw [ins, if_neg (hn 0 y (by omega) rfl), ins_at (l := r) (t := t) (by simpa using hx) hc (fun i z hi hz => hn (i + 1) z (by omega) (by simpa using hz))]
    rfl
theorem take_snoc {l : List Wy} {j : Nat} {x : Wy} (hx : l[j]? = some x) : l.take j ++ [x] = l.take (j + 1) := by
  rw [List.take_add_one, hx]
  rfl
/-- What stands in the new list when so many are gone through. -/
def Lp (p : Wy) (l : List Wy) (j : Nat) (laid : Bool) (row : List Wy) : Prop :=
  (laid = false ∧ row = l.take j ∧ ∀ i y, i < j → l[i]? = some y → ¬ p.cm y < 0) ∨ (laid = true ∧ ∃ t, t ≤ j ∧ row = l.take t ++ p :: (l.take j).drop t ∧ ins p l = l.take t ++ p :: l.drop t)
theorem Lp.len {p : Wy} {l : List Wy} {j : Nat} {b : Bool} {row : List Wy} (h : Lp p l j b row) (hj : j ≤ l.length) : row.length ≤ j + 1 := by
  rcases h with ⟨_, rfl, _⟩ | ⟨_, t, ht, rfl, _⟩
  · rw [List.length_take]; omega
  · rw [List.length_append, List.length_cons, List.length_take, List.length_drop, List.length_take]; omega
theorem Lp.next {p : Wy} {l : List Wy} {j : Nat} {row : List Wy} {x : Wy} (h : Lp p l j true row) (hx : l[j]? = some x) : Lp p l (j + 1) true (row ++ [x]) := by
  rcases h with ⟨h, _⟩ | ⟨_, t, ht, rfl, e⟩
  · cases h
  · refine .inr ⟨rfl, t, by omega, ?_, e⟩
    have hj := (List.getElem?_eq_some_iff.1 hx).1
    rw [← take_snoc hx, List.drop_append_of_le_length (by rw [List.length_take]; omega), List.append_assoc]
    rfl
theorem Lp.pass {p : Wy} {l : List Wy} {j : Nat} {row : List Wy} {x : Wy} (h : Lp p l j false row) (hx : l[j]? = some x) (hc : ¬ p.cm x < 0) : Lp p l (j + 1) false (row ++ [x]) := by
  rcases h with ⟨_, rfl, hn⟩ | ⟨h, _⟩
  · refine .inl ⟨rfl, take_snoc hx, fun i y hi hy => ?_⟩
    rcases Nat.lt_or_ge i j with h | h
    · exact hn i y h hy
    · obtain rfl : i = j := by omega
      rw [hx] at hy
      obtain rfl := Option.some.inj hy
      exact hc
  · cases h
theorem Lp.put {p : Wy} {l : List Wy} {j : Nat} {row : List Wy} {x : Wy} (h : Lp p l j false row) (hx : l[j]? = some x) (hc : p.cm x < 0) : Lp p l j true (row ++ [p]) := by
  rcases h with ⟨_, rfl, hn⟩ | ⟨h, _⟩
  · refine .inr ⟨rfl, j, Nat.le_refl _, ?_, ins_at hx hc hn⟩
    rw [List.drop_eq_nil_of_le (by rw [List.length_take]; omega)]
  · cases h
theorem Lp.done {p : Wy} {l : List Wy} {row : List Wy} {b : Bool} (h : Lp p l l.length b row) : ins p l = if b then row else row ++ [p] := by
  rcases h with ⟨rfl, rfl, hn⟩ | ⟨rfl, t, ht, rfl, e⟩
  · rw [List.take_length]
    exact ins_none (fun x hx => by
      obtain ⟨i, hi, rfl⟩ := List.getElem_of_mem hx
      exact hn i _ hi (List.getElem?_eq_getElem hi))
  · rw [List.take_length] at *
    exact e
end Go.Proofs.Ytcaecfdeieoenaa
