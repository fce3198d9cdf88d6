import Derived.Test.YtacjhbhmhgekhaaNM
namespace Go.Proofs.Ytacjhbhmhgekhaa
open Go.RowKit
set_option linter.unusedVariables false
set_option maxRecDepth 100000

/-! The document's net in memory. -/
theorem wpList_appFs {w : World} {ops : Array Oper} {rest : List Oper} {o : Oper} {act : Act} {Q : Exit → Act → World → Prop} (hgd : o.guard = none) (s x : Operand)
    (ho : o.op = .call { callee := .builtin .append, args := #[s, x], argTypes := #[41, 41] })
    (base : Nat) (v : Value) (ds es : List FD) (hs : act.eval s = v) (hown : w.ownsRow base 49 3 v ds.length (fds ds)) (b off m c : Nat) (hx : act.eval x = .slice (some ⟨b, off, none⟩) m c) (hm : es.length = m) (hcell : ∀ j u, (fds es)[j]? = some u → w.cell? ⟨b, off + j, none⟩ = some u) (hlen : ds.length ≤ 100000000) (hm2 : m ≤ 100000000) (hbase : base ≤ w.heap.size)
    (h : ∀ v' w', w'.ownsRow base 49 3 v' (ds ++ es).length (fds (ds ++ es)) → w.grownBy w' v.ownBlock → (v'.ownBlock = v.ownBlock ∨ v'.ownBlock = some w.heap.size) → wpList Try.prog ops Q rest (act.put o.dst v') w') : wpList Try.prog ops Q (o :: rest) act w := by
  obtain ⟨i, hi, hz0, hz1, hz2⟩ := info_parts infoF
  by_cases h0 : m = 0
  · subst h0
    have hes : es = [] := List.eq_nil_of_length_eq_zero hm
    subst hes
    refine wpList_plain hgd fun _ hK => ?_
    have fin := h v w (by rw [List.append_nil]; exact hown) ⟨rfl, rfl, rfl, Nat.le_refl _, fun _ _ _ => rfl⟩ (.inl rfl)
    rcases hown.2 with ⟨rfl, hd0⟩ | ⟨g, cap, cur, rfl, hb, hg, hnc, hcm, hcs, ht⟩
    · have hr : (Builtin.append_ #[41, 41] o.type #[.slice none 0 0, .slice (some ⟨b, off, none⟩) 0 c]).run Try.prog w = .ok (.slice none 0 0) w := by
        simp [Builtin.append_, run_underlying Try.underlying41, sizeOf, typeInfo, hi, Builtin.lenOf, Builtin.firstCells, loadCells, loadCellsFrom]
      unfold Oper.wp execOp
      simp only [ho, resolve, invoke, builtin, Sem.run_bind, Sem.run_pure, Result.andThen_ok, List.map_toArray, List.map_cons, List.map_nil, hs, hx, hr]
      exact hK _ _ fin
    · have hr : (Builtin.append_ #[41, 41] o.type #[.slice (some ⟨g, 0, none⟩) ds.length cap, .slice (some ⟨b, off, none⟩) 0 c]).run Try.prog w = .ok (.slice (some ⟨g, 0, none⟩) ds.length cap) w := by
        simp [Builtin.append_, run_underlying Try.underlying41, sizeOf, typeInfo, hi, Builtin.lenOf, Builtin.firstCells, hnc, storeCells, loadCells, loadCellsFrom]
      unfold Oper.wp execOp
      simp only [ho, resolve, invoke, builtin, Sem.run_bind, Sem.run_pure, Result.andThen_ok, List.map_toArray, List.map_cons, List.map_nil, hs, hx, hr]
      exact hK _ _ fin
  · refine wpList_append_own_at _ hgd s x 41 ho base 49 i _ 3 40 Try.underlying41 hi hz0 hz1 hz2 rfl (by decide) v ds.length (fds ds) hs hown ⟨b, off, none⟩ m c (fds es) hx (by rw [fds_length, hm]) ?c1 (fds_one es) (by unfold maxLen; omega) (by omega) hbase ?_
    case c1 =>
      intro j u hj
      rw [Addr.add_lit]
      exact hcell j u hj
    intro v' w' h1 h2 _ h4
    refine h v' w' ?_ h2 h4
    rw [List.length_append, fds_app, hm]
    exact h1
def Rb (w : World) (r : Nat) (v : Value) (g : Int) : Prop := w.heap[r]? = some (.cells #[v, .int .i64 g] 70 (0, 0))
section
variable {w w' : World} {r : Nat} {v : Value} {g : Int}
theorem Rb.c0 (k : Rb w r v g) : w.cell? ⟨r, 0, none⟩ = some v := (cell_of_row _ _ 0 _ _ (0, 0) k).trans rfl
theorem Rb.c1 (k : Rb w r v g) : w.cell? ⟨r, 1, none⟩ = some (.int .i64 g) := (cell_of_row _ _ 1 _ _ (0, 0) k).trans rfl
theorem Rb.fz (k : Rb w r v g) (i : Nat) : w.frozen? ⟨r, i, none⟩ = false := by unfold Rb at k; simp [World.frozen?, k]
theorem Rb.lt (k : Rb w r v g) : r < w.heap.size := (Array.getElem?_eq_some_iff.1 k).1
theorem Rb.s0 (k : Rb w r v g) (x : Value) : Rb (w.setCell ⟨r, 0, none⟩ x) r x g := by unfold Rb at *; simp [World.setCell, Array.getElem?_modify, k]
theorem Rb.s1 (k : Rb w r v g) (x : Int) : Rb (w.setCell ⟨r, 1, none⟩ (.int .i64 x)) r v x := by unfold Rb at *; simp [World.setCell, Array.getElem?_modify, k]
end
/-- The document's net: what it reaches lies in F; its flights' bytes in V, which nobody writes. -/
structure Rn (w : World) (F : Nat → Prop) (r : Nat) (v : Value) (ds : List FD) (g : Int) : Prop where
  blk : Rb w r v g
  row : w.ownsRow 0 49 3 v ds.length (fds ds)
  val : ∀ x ∈ ds, Fv w (fun k => F k ∧ k ≠ r ∧ v.ownBlock ≠ some k) x
  fr : F r
  fo : ∀ k, v.ownBlock = some k → F k
  lt : ∀ k, F k → k < w.heap.size
  ok : NOk (ds.map (·.f)) g
section
variable {w w' : World} {F Y : Nat → Prop} {r : Nat} {v : Value} {ds : List FD} {g : Int}
theorem Fv.same {V : Nat → Prop} {x : FD} (h : Fv w V x) (hk : ∀ k, V k → w'.heap[k]? = w.heap[k]?) : Fv w' V x := Vs.step h fun k _ hV _ => hk k hV
theorem Fv.wide {V V' : Nat → Prop} {x : FD} (h : Fv w V x) (hV : ∀ k, k < w.heap.size → V k → V' k) : Fv w V' x := Vs.wide h hV
theorem Rn.same (h : Rn w F r v ds g) (hk : ∀ k, F k → w'.heap[k]? = w.heap[k]?) (hs : w.heap.size ≤ w'.heap.size) : Rn w' F r v ds g :=
  ⟨(hk r h.fr).trans h.blk, row_same h.row fun k e => hk k (h.fo k e), fun x hx => (h.val x hx).same fun k e => hk k e.1, h.fr, h.fo, fun k e => Nat.lt_of_lt_of_le (h.lt k e) hs, h.ok⟩
theorem Rn.fx (h : Rn w F r v ds g) (hf : Fx Y w w') (hd : ∀ k, F k → ¬ Y k) : Rn w' F r v ds g := h.same (fun k e => hf.block k (h.lt k e) (hd k e)) hf.size
theorem Rn.on (h : Rn w F r v ds g) (hb : Below w.heap.size w w') : Rn w' F r v ds g := h.same (fun k e => hb.block k (h.lt k e)) hb.size
theorem Rn.wide (h : Rn w F r v ds g) (hF : ∀ k, F k → Y k) (hl : ∀ k, Y k → k < w.heap.size) : Rn w Y r v ds g := ⟨h.blk, h.row, fun x hx => (h.val x hx).wide fun k _ e => ⟨hF k e.1, e.2⟩, hF _ h.fr, fun k e => hF k (h.fo k e), hl, h.ok⟩
theorem Rn.ne (h : Rn w F r v ds g) : v.ownBlock ≠ some r := fun e => by
  obtain ⟨cur, hc⟩ := row_type h.row e
  rw [h.blk] at hc
  injection hc with hc
  injection hc with _ hc
  exact absurd hc (by decide)
theorem Rn.form (h : Rn w F r v ds g) : ∃ a c, v = .slice a ds.length c ∧ ds.length ≤ c ∧ c ≤ maxLen ∧ (a = none → c = 0) ∧ ((a = none ∧ ds.length = 0) ∨ ∃ b, a = some ⟨b, 0, none⟩ ∧ b < w.heap.size ∧ ∀ j u, (fds ds)[j]? = some u → w.cell? ⟨b, j, none⟩ = some u) := by
  obtain ⟨a, c, e, h1, h2, h3, h4⟩ := own_addr h.row
  refine ⟨a, c, e, h1, h2, h3, ?_⟩
  rcases h4 with h4 | ⟨b, e2, _, h5, h6⟩
  · exact .inl h4
  · exact .inr ⟨b, e2, h5, h6⟩
theorem fds_at {ds : List FD} {b i : Nat} {w : World} (hc : ∀ j u, (fds ds)[j]? = some u → w.cell? ⟨b, j, none⟩ = some u) (hi : i < ds.length) : w.cell? ⟨b, i * 3, none⟩ = some (.int .i64 ds[i].f.no) ∧ w.cell? ⟨b, i * 3 + 1, none⟩ = some (.int .i64 ds[i].f.to) ∧ w.cell? ⟨b, i * 3 + 2, none⟩ = some (fv ds[i]) :=
  ⟨hc _ _ (fds_get ds i hi 0 (by decide)), hc _ _ (fds_get ds i hi 1 (by decide)), hc _ _ (fds_get ds i hi 2 (by decide))⟩
end
end Go.Proofs.Ytacjhbhmhgekhaa
