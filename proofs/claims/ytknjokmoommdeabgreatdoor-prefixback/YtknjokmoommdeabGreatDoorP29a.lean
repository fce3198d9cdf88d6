import Derived.Test.YtknjokmoommdeabGreatDoorP28
import Derived.Test.YtknjokmoommdeabGreatDoorP23
namespace Go.Proofs.YtknjokmoommdeabGreatDoor
set_option maxRecDepth 100000
open Go.RowKit
set_option linter.unusedVariables false

theorem va_InI {F H L : Int} (h : va F H L = true) : InI F := by
  have := of_decide_eq_true (show decide _ = true from h)
  unfold InI
  omega
theorem vp_InI {F H L B : Int} (h : vp F H L B = true) : InI F ∧ InI B := by
  obtain ⟨h1, h2, h3, _⟩ := vp_in h
  refine ⟨va_InI h1, ?_⟩
  have := nb_le F
  unfold InI
  omega
theorem gk_in {l : List Int} (hb : ∀ z ∈ l, 0 ≤ z ∧ z ≤ 255) (h : gk l = true) : vp (qF l) (qH l) (qL l) (qB l) = true ∧ InI (qF l) ∧ InU (qH l) ∧ InU (qL l) ∧ InI (qB l) := by
  obtain ⟨e1, e2, e3, e4, _⟩ := q7_good h
  rw [e1, e2, e3, e4]
  unfold gk at h
  rw [Bool.and_eq_true] at h
  obtain ⟨i1, i2⟩ := vp_InI h.2
  have hg : gm l ≤ 16 := by unfold gm; have := nb_le (g0 l); omega
  have hd := of_decide_eq_true h.1
  obtain ⟨j1, j2⟩ := aval_in (S := gs7 l) (m := gm l) (fun z hz => hb z (List.mem_of_mem_drop (List.mem_of_mem_take hz))) (by unfold gs7; rw [List.length_take, List.length_drop]; omega) hg
  exact ⟨h.2, i1, j1, j2, i2⟩
theorem gk_put {l : List Int} (hb : ∀ z ∈ l, 0 ≤ z ∧ z ≤ 255) (h : gk l = true) : ∃ k : Nat, qN l = k ∧ k ≤ l.length ∧ k ≤ 18 ∧ 0 < k ∧ pp (qF l) (qH l) (qL l) (qB l) = l.take k ∧ qE l = 0 := by
  obtain ⟨e1, e2⟩ := pp_gk hb h
  obtain ⟨_, _, _, _, e5, e6⟩ := q7_good h
  have hg : gm l ≤ 16 := by unfold gm; have := nb_le (g0 l); omega
  exact ⟨2 + gm l, e5, e2, by omega, by omega, e1, e6⟩
theorem pk_in {l : List Nat} (h : pk l = true) : InI (rF l) ∧ InU (rH l) ∧ InU (rL l) ∧ InI (rB l) ∧ tp (rF l) (rH l) (rL l) (rB l) = l ∧ rE l = 0 := by
  have e := tp_pk h
  obtain ⟨hH, hL⟩ := r_in h
  have hv : vp (rF l) (rH l) (rL l) (rB l) = true := tp_vp (by rw [e]; exact pk_ne h)
  obtain ⟨i1, i2⟩ := vp_InI hv
  exact ⟨i1, hH, hL, i2, e, (r_good h).2.2.2.2.symm⟩
theorem tp_len7 {F H L B : Int} (hv : vp F H L B = true) (hH : InU H) (hL : InU L) : (tp F H L B).length ≤ 100 := by
  obtain ⟨h1, h2, h3, _⟩ := vp_in hv
  have hn := nb_le F
  have hs := (ta_shape h1 hH hL).1
  have hd := dgs_length B.toNat 1 (by omega) (by omega)
  unfold tp
  rw [hv, if_pos rfl]
  simp only [List.length_append, List.length_cons]
  omega
theorem cells_app7 (a b : List Int) : cells a ++ cells b = cells (a ++ b) := by simp [cells]
/-- append of bytes that came in, nil or not, to a row of one's own. -/
theorem wpList_app7 {w : World} {ops : Array Oper} {rest : List Oper} {o : Oper} {act : Act} {Q : Exit → Act → World → Prop} (hgd : o.guard = none) (s x : Operand)
    (ho : o.op = .call { callee := .builtin .append, args := #[s, x], argTypes := #[41, 41] })
    (base : Nat) (v : Value) (n : Nat) (X : List Int) (hs : act.eval s = v) (hown : w.ownsRow base 5 1 v n (cells X)) (hn0 : 0 < n)
    (a : Option Addr) (m c : Nat) (zs : List Int) (hx : act.eval x = .slice a m c) (hb : Bs w a m zs) (hnm : n + m ≤ 140737488355328) (hbase : base ≤ w.heap.size)
    (h : ∀ v' w', w'.ownsRow base 5 1 v' (n + m) (cells (X ++ zs)) → w.grownBy w' v.ownBlock → wpList Tryz.prog ops Q rest (act.put o.dst v') w') : wpList Tryz.prog ops Q (o :: rest) act w := by
  obtain ⟨i5, hi, hz0, hz1, hz2⟩ := info_parts info5
  have hb1 := hb.1
  cases a with
  | some ad =>
    refine wpList_append_own _ hgd s x 41 ho base 5 i5 (.int .u8 0) 1 1 Tryz.underlying41 hi hz0 hz1 hz2 rfl (by decide) v n _ hs hown ad m c (cells zs) hx (by rw [cells_len7, Nat.mul_one, hb1]) (fun j u hj => ?_) (cells_one7 zs) (by unfold maxLen; omega) (by omega) hbase (fun v' w' h1 h2 _ => h v' w' (by rw [← cells_app7]; exact h1) h2)
    have hj' : j < zs.length := by
      have := (List.getElem?_eq_some_iff.1 hj).1
      rwa [cells_len7] at this
    rcases hb.2.2 with h0 | ⟨b, off, e, hc⟩
    · omega
    · obtain rfl := Option.some.inj e
      rw [Addr.add_lit, hc j (by omega), ← hj]
      simp [cells, List.getD, hj']
  | none =>
    have hm0 : m = 0 := by
      rcases hb.2.2 with h0 | ⟨b, off, e, _⟩
      · exact h0
      · cases e
    subst hm0
    have hz : zs = [] := List.eq_nil_of_length_eq_zero hb1
    subst hz
    obtain ⟨g, cap, rfl, hnc, hcm, hbg, hh, _⟩ := own_head hown hn0
    refine wpList_plain hgd fun _ hK => ?_
    have hr : (Builtin.append_ #[41, 41] o.type #[.slice (some ⟨g, 0, none⟩) n cap, .slice none 0 c]).run Tryz.prog w = .ok (.slice (some ⟨g, 0, none⟩) n cap) w := by
      simp [Builtin.append_, run_underlying Tryz.underlying41, sizeOf, typeInfo, hi, Builtin.lenOf, Builtin.firstCells, hnc, storeCells]
    unfold Oper.wp execOp
    simp only [ho, resolve, invoke, builtin, Sem.run_bind, Sem.run_pure, Result.andThen_ok, List.map_toArray, List.map_cons, List.map_nil, hs, hx, hr]
    refine hK _ _ (h _ _ (by rw [List.append_nil]; exact hown) ⟨rfl, rfl, rfl, Nat.le_refl _, fun _ _ _ => rfl⟩)
end Go.Proofs.YtknjokmoommdeabGreatDoor
