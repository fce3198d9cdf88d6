import Derived.Test.YtghehfhkiknjhaaUO
import Derived.Deep.Slices
namespace Go.Proofs.Ytghehfhkiknjhaa
set_option maxRecDepth 100000
open Go.RowKit Go.Shelf Go.Maps
set_option linter.unusedVariables false

instance : Inhabited SD := ⟨⟨none, 0, none, 0, default⟩⟩
theorem Sl.parts {w : World} {V : Nat → Prop} {a : Option Addr} {n : Nat} {l : List Sx} (h : Sl w V a n l) : ∃ es : List SD, es.map (·.s) = l ∧ es.length = n ∧ (∀ d ∈ es, SV w V d) ∧ (n = 0 ∨ ∃ b off, a = some ⟨b, off, none⟩ ∧ ∀ j u, (sds es)[j]? = some u → w.cell? ⟨b, off + j, none⟩ = some u) := by
  rcases h.cells with h0 | ⟨b, off, e, hb, hc⟩
  · refine ⟨[], ?_, h0.symm, fun d hd => by simp at hd, .inl h0⟩
    have : l = [] := List.eq_nil_of_length_eq_zero (h.len.trans h0)
    rw [this]; rfl
  · have key : ∀ i, i < n → ∃ d : SD, d.s = l.getD i default ∧ w.cell? ⟨b, off + i * 3, none⟩ = some (.slice d.ka d.s.k.length d.kc) ∧ w.cell? ⟨b, off + i * 3 + 1, none⟩ = some (.slice d.va d.s.v.length d.vc) ∧ w.cell? ⟨b, off + i * 3 + 2, none⟩ = some (.bool d.s.g) ∧ SV w V d := by
      intro i hi
      obtain ⟨ka, kc, va, vc, c0, c1, c2, v1, v2⟩ := hc i hi
      exact ⟨⟨ka, kc, va, vc, l.getD i default⟩, rfl, c0, c1, c2, v1, v2⟩
    obtain ⟨f, hf⟩ := Deep.choose_lt key
    refine ⟨(List.range n).map f, ?_, by simp, fun d hd => ?_, .inr ⟨b, off, e, fun j u hj => ?_⟩⟩
    · apply List.ext_getElem
      · simp [h.len]
      · intro i h1 h2
        simp only [List.getElem_map, List.getElem_range]
        rw [(hf i (by rw [h.len] at h2; exact h2)).1]
        simp [List.getD, h2]
    · obtain ⟨i, hi, rfl⟩ := List.mem_map.1 hd
      exact (hf i (List.mem_range.1 hi)).2.2.2.2
    · have hlt : j < n * 3 := by
        have := (List.getElem?_eq_some_iff.1 hj).1
        rw [sds_length] at this
        simpa using this
      obtain ⟨i, r, hr, rfl⟩ : ∃ i r, r < 3 ∧ j = i * 3 + r := ⟨j / 3, j % 3, by omega, by omega⟩
      have hi : i < n := by omega
      rw [sds_get _ i (by simpa using hi) r hr] at hj
      simp only [List.getElem_map, List.getElem_range] at hj
      obtain ⟨_, c0, c1, c2, _⟩ := hf i hi
      match r, hr with
      | 0, _ => simp [sdc] at hj; subst hj; exact c0
      | 1, _ => simp [sdc] at hj; subst hj; rw [← Nat.add_assoc]; exact c1
      | 2, _ => simp [sdc] at hj; subst hj; rw [← Nat.add_assoc]; exact c2
theorem wpList_appSets {w : World} {V : Nat → Prop} {ops : Array Oper} {rest : List Oper} {o : Oper} {act : Act} {Q : Exit → Act → World → Prop} (hgd : o.guard = none) (s x : Operand)
    (ho : o.op = .call { callee := .builtin .append, args := #[s, x], argTypes := #[22, 22] })
    (base : Nat) (g cap : Nat) (ds : List SD) (hs : act.eval s = .slice (some ⟨g, 0, none⟩) ds.length cap) (hown : w.ownsRow base 37 3 (.slice (some ⟨g, 0, none⟩) ds.length cap) ds.length (sds ds)) (a : Option Addr) (m c : Nat) (l : List Sx) (hx : act.eval x = .slice a m c)
    (hl : Sl w V a m l) (hlen : ds.length ≤ 1000000) (hm : m ≤ 1000000) (hbase : base ≤ w.heap.size)
    (h : ∀ g' cap' w' es, es.map (·.s) = l → (∀ d ∈ es, SV w V d) → w'.ownsRow base 37 3 (.slice (some ⟨g', 0, none⟩) (ds ++ es).length cap') (ds ++ es).length (sds (ds ++ es)) → w.grownBy w' (some g) → wpList Try.prog ops Q rest (act.put o.dst (.slice (some ⟨g', 0, none⟩) (ds ++ es).length cap')) w') : wpList Try.prog ops Q (o :: rest) act w := by
  obtain ⟨i, hi, hz0, hz1, hz2⟩ := info_parts infoS
  obtain ⟨es, he, hel, hsv, hc⟩ := hl.parts
  have fin : ∀ v' w', w'.ownsRow base 37 3 v' (ds.length + m) (sds ds ++ sds es) → w.grownBy w' (some g) → v' ≠ .slice none 0 0 → wpList Try.prog ops Q rest (act.put o.dst v') w' := by
    intro v' w' h1 h2 h3
    have hln : (ds ++ es).length = ds.length + m := by rw [List.length_append, hel]
    rcases h1.2 with ⟨e, _⟩ | ⟨g', cap', cur, e, _⟩
    · exact absurd e h3
    · subst e
      have := h g' cap' w' es he hsv (by rw [hln, sds_app]; exact h1) h2
      rw [hln] at this
      exact this
  rcases hc with h0 | ⟨b, off, rfl, hcell⟩
  · subst h0
    have hes : es = [] := List.eq_nil_of_length_eq_zero hel
    subst hes
    refine wpList_plain hgd fun _ hK => ?_
    have hnc : ds.length ≤ cap := by
      rcases hown.2 with ⟨e, _⟩ | ⟨g', cap', cur, e, _, _, hh, _⟩
      · cases e
      · obtain ⟨_, rfl⟩ : g = g' ∧ cap = cap' := by simpa using e
        exact hh
    have hr : (Builtin.append_ #[22, 22] o.type #[.slice (some ⟨g, 0, none⟩) ds.length cap, .slice a 0 c]).run Try.prog w = .ok (.slice (some ⟨g, 0, none⟩) ds.length cap) w := by
      cases a <;> simp [Builtin.append_, run_underlying Try.underlying22, sizeOf, typeInfo, hi, Builtin.lenOf, Builtin.firstCells, hnc, storeCells, loadCells, loadCellsFrom]
    unfold Oper.wp execOp
    simp only [ho, resolve, invoke, builtin, Sem.run_bind, Sem.run_pure, Result.andThen_ok, List.map_toArray, List.map_cons, List.map_nil, hs, hx, hr]
    refine hK _ _ (fin _ _ ?_ ⟨rfl, rfl, rfl, Nat.le_refl _, fun _ _ _ => rfl⟩ (by simp))
    simpa [sds] using hown
  · refine wpList_append_own_at _ hgd s x 22 ho base 37 i _ 3 56 Try.underlying22 hi hz0 hz1 hz2 rfl (by decide) _ ds.length (sds ds) hs hown ⟨b, off, none⟩ m c (sds es) hx (by rw [sds_length, hel]) ?c1 (sds_one es) (by unfold maxLen; omega) (by omega) hbase ?_
    case c1 =>
      intro j u hj
      rw [Addr.add_lit]
      exact hcell j u hj
    intro v' w' h1 h2 h3 _
    exact fin v' w' h1 h2 (fun e => by have := (h3.1 e).1; cases this)
theorem own_empty {w : World} {base : Nat} (h : base ≤ w.heap.size) : (w.alloc (.cells #[] 37)).ownsRow base 37 3 (.slice (some ⟨w.heap.size, 0, none⟩) 0 0) 0 [] :=
  ⟨rfl, .inr ⟨w.heap.size, 0, #[], rfl, h, heap_alloc_new w _, Nat.le_refl _, Nat.zero_le _, rfl, rfl⟩⟩
end Go.Proofs.Ytghehfhkiknjhaa
