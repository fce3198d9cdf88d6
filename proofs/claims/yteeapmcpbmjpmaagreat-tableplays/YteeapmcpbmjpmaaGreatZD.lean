import Derived.Test.YteeapmcpbmjpmaaGreatZC
import Derived.Test.YteeapmcpbmjpmaaGreatTH
import Derived.Deep.Slices
namespace Go.Proofs.YteeapmcpbmjpmaaGreat
set_option maxRecDepth 100000
open Go.RowKit
set_option linter.unusedVariables false

/-! Rows that are read, appended to rows of one's own. -/
theorem Rl.parts {w : World} {V : Nat → Prop} {a : Option Addr} {n : Nat} {l : Tab} (h : Rl w V a n l) : ∃ es : List RD, es.map (·.s) = l ∧ es.length = n ∧ (∀ d ∈ es, RV2 w V d) ∧ (n = 0 ∨ ∃ b off, a = some ⟨b, off, none⟩ ∧ ∀ j u, (rds es)[j]? = some u → w.cell? ⟨b, off + j, none⟩ = some u) := by
  rcases h.cells with h0 | ⟨b, off, e, hb, hc⟩
  · refine ⟨[], ?_, h0.symm, fun d hd => by simp at hd, .inl h0⟩
    have : l = [] := List.eq_nil_of_length_eq_zero (h.len.trans h0)
    rw [this]; rfl
  · have key : ∀ i, i < n → ∃ d : RD, d.s = l.getD i ([], []) ∧ w.cell? ⟨b, off + i * 2, none⟩ = some (.slice d.ka d.s.1.length d.kc) ∧ w.cell? ⟨b, off + i * 2 + 1, none⟩ = some (.slice d.va d.s.2.length d.vc) ∧ RV2 w V d := by
      intro i hi
      obtain ⟨ka, kc, va, vc, c0, c1, v1, v2⟩ := hc i hi
      exact ⟨⟨ka, kc, va, vc, l.getD i ([], [])⟩, rfl, c0, c1, v1, v2⟩
    haveI : Inhabited RD := ⟨⟨none, 0, none, 0, ([], [])⟩⟩
    obtain ⟨f, hf⟩ := Deep.choose_lt key
    refine ⟨(List.range n).map f, ?_, by simp, fun d hd => ?_, .inr ⟨b, off, e, fun j u hj => ?_⟩⟩
    · apply List.ext_getElem
      · simp [h.len]
      · intro i h1 h2
        simp only [List.getElem_map, List.getElem_range]
        rw [(hf i (by rw [h.len] at h2; exact h2)).1]
        simp [List.getD, h2]
    · obtain ⟨i, hi, rfl⟩ := List.mem_map.1 hd
      exact (hf i (List.mem_range.1 hi)).2.2.2
    · have hlt : j < n * 2 := by
        have := (List.getElem?_eq_some_iff.1 hj).1
        rw [rds_length] at this
        simpa using this
      obtain ⟨i, r, hr, rfl⟩ : ∃ i r, r < 2 ∧ j = i * 2 + r := ⟨j / 2, j % 2, by omega, by omega⟩
      have hi : i < n := by omega
      rw [rds_get _ i (by simpa using hi) r hr] at hj
      simp only [List.getElem_map, List.getElem_range] at hj
      obtain ⟨_, c0, c1, _⟩ := hf i hi
      match r, hr with
      | 0, _ => simp [rdc] at hj; subst hj; exact c0
      | 1, _ => simp [rdc] at hj; subst hj; rw [← Nat.add_assoc]; exact c1
theorem wpList_appRl {w : World} {V : Nat → Prop} {ops : Array Oper} {rest : List Oper} {o : Oper} {act : Act} {Q : Exit → Act → World → Prop} (hgd : o.guard = none) (s x : Operand)
    (ho : o.op = .call { callee := .builtin .append, args := #[s, x], argTypes := #[28, 28] })
    (base : Nat) (v : Value) (ds : List RD) (hs : act.eval s = v) (hown : w.ownsRow base 55 2 v ds.length (rds ds)) (a : Option Addr) (m c : Nat) (l : Tab) (hx : act.eval x = .slice a m c) (hl : Rl w V a m l) (hlen : ds.length ≤ 100000000) (hm : m ≤ 100000000) (hbase : base ≤ w.heap.size)
    (h : ∀ v' w' es, es.map (·.s) = l → (∀ d ∈ es, RV2 w V d) → w'.ownsRow base 55 2 v' (ds ++ es).length (rds (ds ++ es)) → w.grownBy w' v.ownBlock → (v'.ownBlock = v.ownBlock ∨ v'.ownBlock = some w.heap.size) → wpList Tryz.prog ops Q rest (act.put o.dst v') w') : wpList Tryz.prog ops Q (o :: rest) act w := by
  obtain ⟨i, hi, hz0, hz1, hz2⟩ := info_parts infoR
  obtain ⟨es, he, hel, hsv, hc⟩ := hl.parts
  rcases hc with h0 | ⟨b, off, rfl, hcell⟩
  · subst h0
    have hes : es = [] := List.eq_nil_of_length_eq_zero hel
    subst hes
    refine wpList_plain hgd fun _ hK => ?_
    have fin := h v w [] he hsv (by rw [List.append_nil]; exact hown) ⟨rfl, rfl, rfl, Nat.le_refl _, fun _ _ _ => rfl⟩ (.inl rfl)
    rcases hown.2 with ⟨rfl, hd0⟩ | ⟨g, cap, cur, rfl, hb, hg, hnc, hcm, hcs, ht⟩
    · have hr : (Builtin.append_ #[28, 28] o.type #[.slice none 0 0, .slice a 0 c]).run Tryz.prog w = .ok (.slice none 0 0) w := by
        cases a <;> simp [Builtin.append_, run_underlying Tryz.underlying28, sizeOf, typeInfo, hi, Builtin.lenOf, Builtin.firstCells, loadCells, loadCellsFrom]
      unfold Oper.wp execOp
      simp only [ho, resolve, invoke, builtin, Sem.run_bind, Sem.run_pure, Result.andThen_ok, List.map_toArray, List.map_cons, List.map_nil, hs, hx, hr]
      exact hK _ _ fin
    · have hr : (Builtin.append_ #[28, 28] o.type #[.slice (some ⟨g, 0, none⟩) ds.length cap, .slice a 0 c]).run Tryz.prog w = .ok (.slice (some ⟨g, 0, none⟩) ds.length cap) w := by
        cases a <;> simp [Builtin.append_, run_underlying Tryz.underlying28, sizeOf, typeInfo, hi, Builtin.lenOf, Builtin.firstCells, hnc, storeCells, loadCells, loadCellsFrom]
      unfold Oper.wp execOp
      simp only [ho, resolve, invoke, builtin, Sem.run_bind, Sem.run_pure, Result.andThen_ok, List.map_toArray, List.map_cons, List.map_nil, hs, hx, hr]
      exact hK _ _ fin
  · refine wpList_append_own_at _ hgd s x 28 ho base 55 i _ 2 48 Tryz.underlying28 hi hz0 hz1 hz2 rfl (by decide) v ds.length (rds ds) hs hown ⟨b, off, none⟩ m c (rds es) hx (by rw [rds_length, hel]) ?c1 (rds_one es) (by unfold maxLen; omega) (by omega) hbase ?_
    case c1 =>
      intro j u hj
      rw [Addr.add_lit]
      exact hcell j u hj
    intro v' w' h1 h2 _ h4
    refine h v' w' es he hsv ?_ h2 h4
    rw [List.length_append, rds_app, hel]
    exact h1
theorem Rl.take {w : World} {V : Nat → Prop} {a : Option Addr} {n i : Nat} {l : Tab} (h : Rl w V a n l) (hi : i ≤ n) : Rl w V a i (l.take i) := by
  refine ⟨by rw [List.length_take, h.len]; omega, ?_⟩
  rcases h.cells with h0 | ⟨b, off, e, hb, hc⟩
  · exact .inl (by omega)
  · refine .inr ⟨b, off, e, hb, fun j hj => ?_⟩
    have := hc j (by omega)
    rwa [show (l.take i).getD j ([], []) = l.getD j ([], []) from by simp [List.getD, hj]]
theorem Rl.drop {w : World} {V : Nat → Prop} {b off n i : Nat} {l : Tab} (h : Rl w V (some ⟨b, off, none⟩) n l) (hi : i ≤ n) : Rl w V (some ⟨b, off + i * 2, none⟩) (n - i) (l.drop i) := by
  refine ⟨by rw [List.length_drop, h.len], ?_⟩
  rcases h.cells with h0 | ⟨b', off', e, hb, hc⟩
  · exact .inl (by omega)
  · have e2 := Option.some.inj e
    injection e2 with e3 e4
    subst e3 e4
    refine .inr ⟨b, off + i * 2, rfl, hb, fun j hj => ?_⟩
    have := hc (i + j) (by omega)
    rw [show (l.drop i).getD j ([], []) = l.getD (i + j) ([], []) from by simp [List.getD]]
    rw [show off + i * 2 + j * 2 = off + (i + j) * 2 by omega]
    exact this
/-- Rows of one's own, as they are read. -/
theorem Rl.own {w : World} {V : Nat → Prop} {base : Nat} {v : Value} {ds : List RD} (h : w.ownsRow base 55 2 v ds.length (rds ds)) (hr : ∀ d ∈ ds, RV2 w V d) (hV : ∀ x, v.ownBlock = some x → V x) : ∃ a c, v = .slice a ds.length c ∧ Rl w V a ds.length (ds.map (·.s)) := by
  rcases id h.2 with ⟨rfl, hn⟩ | ⟨g, cap, cur, rfl, hb, hg, hnc, hcm, hcs, ht⟩
  · exact ⟨none, 0, by rw [hn], by simp, .inl hn⟩
  · refine ⟨some ⟨g, 0, none⟩, cap, rfl, by simp, .inr ⟨g, 0, rfl, hV g rfl, fun i hi => ?_⟩⟩
    have hd : ds[i] ∈ ds := List.getElem_mem hi
    have e : (ds.map (·.s)).getD i ([], []) = ds[i].s := by simp [List.getD, hi]
    rw [e]
    have hcl : ∀ r (hr : r < 2), w.cell? ⟨g, i * 2 + r, none⟩ = (rds ds)[i * 2 + r]? := fun r hr => by
      rw [cell_of_row w g _ _ _ (0, 0) hg]
      have := congrArg (·[i * 2 + r]?) ht
      simp only [List.getElem?_take] at this
      rw [if_pos (by omega)] at this
      simpa using this
    have c0 := hcl 0 (by omega)
    have c1 := hcl 1 (by omega)
    rw [rds_get ds i hi 0 (by omega)] at c0
    rw [rds_get ds i hi 1 (by omega)] at c1
    refine ⟨ds[i].ka, ds[i].kc, ds[i].va, ds[i].vc, ?_, ?_, (hr _ hd).1, (hr _ hd).2⟩
    · rw [Nat.zero_add]; exact c0.trans (by simp [rdc])
    · rw [Nat.zero_add]; exact c1.trans (by simp [rdc])
end Go.Proofs.YteeapmcpbmjpmaaGreat
