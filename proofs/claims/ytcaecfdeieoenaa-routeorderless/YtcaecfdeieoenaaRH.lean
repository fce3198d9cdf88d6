import Derived.Test.YtcaecfdeieoenaaRG
namespace Go.Proofs.Ytcaecfdeieoenaa
set_option maxRecDepth 100000
open Go.RowKit
set_option linter.unusedVariables false

/-- A block that is the law's own: a row of tables, or the world. -/
def Lb (w : World) (b : Nat) : Prop := ∃ cur t, w.heap[b]? = some (.cells cur t (0, 0)) ∧ (t = 40 ∨ t = 41 ∨ t = 38)
/-- What is asked besides: a table bears that such blocks turn. -/
def Ofw (Tr : World → Value → List Wy → Prop) : Prop := ∀ (w w' : World) (v : Value) (l : List Wy), Tr w v l → w.heap.size ≤ w'.heap.size → (∀ b, b < w.heap.size → ¬ Lb w b → w'.heap[b]? = w.heap[b]?) → Tr w' v l
theorem Wo.off {w w' : World} {base : Nat} {v : Value} {l : List Wy} (h : Wo w base v l) (sm : ∀ b, b < w.heap.size → ¬ Lb w b → w'.heap[b]? = w.heap[b]?) : Wo w' base v l := by
  refine ⟨⟨h.1.1, ?_⟩, h.2⟩
  rcases h.1.2 with h | ⟨g, cap, cur, h1, h2, h3, h4⟩
  · exact .inl h
  · refine .inr ⟨g, cap, cur, h1, h2, (sm g (Array.getElem?_eq_some_iff.1 h3).1 ?_).trans h3, h4⟩
    rintro ⟨cur', t, h5, h6⟩
    rw [h3] at h5
    simp at h5
    obtain ⟨_, rfl⟩ := h5
    rcases h6 with h | h | h <;> exact absurd h (by decide)
theorem Rt.off {w w' : World} {v : Value} {l : List Wy} (h : Rt w v l) (sm : ∀ b, b < w.heap.size → ¬ Lb w b → w'.heap[b]? = w.heap[b]?) : Rt w' v l := by
  obtain ⟨k, s, e, h1, h2⟩ := h
  refine ⟨k, s, e, (sm k (Array.getElem?_eq_some_iff.1 h1).1 ?_).trans h1, h2.off sm⟩
  rintro ⟨cur', t, h5, h6⟩
  rw [h1] at h5
  simp at h5
  obtain ⟨_, rfl⟩ := h5
  rcases h6 with h | h | h <;> exact absurd h (by decide)
/-- The tables that were made, and the lists. -/
abbrev En := Value × Value × List Wy
structure Pl (Tr : World → Value → List Wy → Prop) (w0 w : World) (k : Nat) (E : List En) : Prop where
  own : ∃ vt vr, w.heap[k]? = some (.cells #[vt, vr] 38 (0, 0)) ∧ w.ownsRow w0.heap.size 40 1 vt E.length (E.map (·.1)) ∧ w.ownsRow w0.heap.size 41 1 vr E.length (E.map (·.2.1))
  kl : w0.heap.size ≤ k
  tr : ∀ e ∈ E, Tr w e.1 e.2.2 ∧ Rt w e.2.1 e.2.2
  fr : Below w0.heap.size w0 w
theorem Pl.kept {Tr : World → Value → List Wy → Prop} (R : Rte Tr) {w0 w w' : World} {k : Nat} {E : List En} (h : Pl Tr w0 w k E) (hb : Below w.heap.size w w') : Pl Tr w0 w' k E := by
  obtain ⟨vt, vr, h1, h2, h3⟩ := h.own
  exact ⟨⟨vt, vr, (hb.block k (Array.getElem?_eq_some_iff.1 h1).1).trans h1, h2.kept (grown_of_below hb) (by cases vt.ownBlock <;> simp), h3.kept (grown_of_below hb) (by cases vr.ownBlock <;> simp)⟩, h.kl, fun e he => ⟨R.kept (h.tr e he).1 hb, (h.tr e he).2.kept hb⟩, bel_bel h.fr h.fr.size hb⟩
theorem infoT : (Try.prog.info? 40).map (fun i => (i.zero, i.size, i.bytes)) = some (some (.pointer none), 1, 8) := by kernel_rfl
theorem infoR : (Try.prog.info? 41).map (fun i => (i.zero, i.size, i.bytes)) = some (some (.pointer none), 1, 8) := by kernel_rfl
set_option maxHeartbeats 4000000 in
theorem made_none (k : Nat) (e : Int) (w : World) :
    Calls Try.prog 24 #[.pointer (some ⟨k, 0, none⟩), .pointer none, .pointer none, .int .i64 e, .int .i64 e] w fun en w' => en = .returned (.bool true) ∧ w' = w := by
  go_enter Try.func24, Try.ntmps24
  go_wp2_with fail
  go_ret
  exact ⟨rfl, rfl⟩
theorem own_blk8 {w : World} {base n size g : Nat} {t : TypeId} {v : Value} {xs : List Value} (h : w.ownsRow base t size v n xs) (hv : v.ownBlock = some g) : ∃ cur, w.heap[g]? = some (.cells cur t (0, 0)) := by
  rcases h.2 with ⟨rfl, _⟩ | ⟨g', cap, cur, rfl, _, hg, _⟩
  · simp [Value.ownBlock] at hv
  · simp [Value.ownBlock] at hv
    subst hv
    exact ⟨cur, hg⟩
/-- One table more behind a row of one's own. -/
theorem wpList_pT {w : World} {ops : Array Oper} {rest : List Oper} {o : Oper} {act : Act} {Q : Exit → Act → World → Prop} (hgd : o.guard = none) (s x : Operand)
    (ho : o.op = .call { callee := .builtin .append, args := #[s, x], argTypes := #[35, 35] })
    (base n : Nat) (v : Value) (xs : List Value) (hs : act.eval s = v) (hown : w.ownsRow base 40 1 v n xs) (g : Nat) (p : Addr) (hx : act.eval x = .slice (some ⟨g, 0, none⟩) 1 1)
    (hg : w.heap[g]? = some (.cells #[.pointer (some p)] 40 (0, 0))) (hn : n ≤ 1000) (hbase : base ≤ w.heap.size)
    (h : ∀ a' c' w', w'.ownsRow base 40 1 (.slice a' (n + 1) c') (n + 1) (xs ++ [.pointer (some p)]) → w.grownBy w' v.ownBlock → wpList Try.prog ops Q rest (act.put o.dst (.slice a' (n + 1) c')) w') : wpList Try.prog ops Q (o :: rest) act w := by
  obtain ⟨i, hi, hz0, hz1, hz2⟩ := info_parts infoT
  refine wpList_append_own _ hgd s x 35 ho base 40 i _ 1 8 Try.underlying35 hi hz0 hz1 hz2 rfl (by decide) v n xs hs hown ⟨g, 0, none⟩ 1 1 [.pointer (some p)] hx rfl ?c1 ?c2 (by unfold maxLen; omega) (by omega) hbase ?_
  case c1 =>
    intro j u hj
    rw [Addr.add_lit, Nat.zero_add, cell_of_row w g j _ _ (0, 0) hg]
    exact (List.getElem?_toArray (xs := [Value.pointer (some p)]) (i := j)).trans hj
  case c2 =>
    intro u hu
    simp at hu
    subst hu
    rfl
  intro v' w' h1 h2 _
  rcases h1.2 with ⟨_, h0⟩ | ⟨g', cap, cur, rfl, _⟩
  · omega
  · exact h _ _ w' h1 h2
/-- One table more behind a row of one's own. -/
theorem wpList_pR {w : World} {ops : Array Oper} {rest : List Oper} {o : Oper} {act : Act} {Q : Exit → Act → World → Prop} (hgd : o.guard = none) (s x : Operand)
    (ho : o.op = .call { callee := .builtin .append, args := #[s, x], argTypes := #[36, 36] })
    (base n : Nat) (v : Value) (xs : List Value) (hs : act.eval s = v) (hown : w.ownsRow base 41 1 v n xs) (g : Nat) (p : Addr) (hx : act.eval x = .slice (some ⟨g, 0, none⟩) 1 1)
    (hg : w.heap[g]? = some (.cells #[.pointer (some p)] 41 (0, 0))) (hn : n ≤ 1000) (hbase : base ≤ w.heap.size)
    (h : ∀ a' c' w', w'.ownsRow base 41 1 (.slice a' (n + 1) c') (n + 1) (xs ++ [.pointer (some p)]) → w.grownBy w' v.ownBlock → wpList Try.prog ops Q rest (act.put o.dst (.slice a' (n + 1) c')) w') : wpList Try.prog ops Q (o :: rest) act w := by
  obtain ⟨i, hi, hz0, hz1, hz2⟩ := info_parts infoR
  refine wpList_append_own _ hgd s x 36 ho base 41 i _ 1 8 Try.underlying36 hi hz0 hz1 hz2 rfl (by decide) v n xs hs hown ⟨g, 0, none⟩ 1 1 [.pointer (some p)] hx rfl ?c1 ?c2 (by unfold maxLen; omega) (by omega) hbase ?_
  case c1 =>
    intro j u hj
    rw [Addr.add_lit, Nat.zero_add, cell_of_row w g j _ _ (0, 0) hg]
    exact (List.getElem?_toArray (xs := [Value.pointer (some p)]) (i := j)).trans hj
  case c2 =>
    intro u hu
    simp at hu
    subst hu
    rfl
  intro v' w' h1 h2 _
  rcases h1.2 with ⟨_, h0⟩ | ⟨g', cap, cur, rfl, _⟩
  · omega
  · exact h _ _ w' h1 h2
theorem frz {w : World} {k i : Nat} {cs : Array Value} {t : TypeId} (h : w.heap[k]? = some (.cells cs t (0, 0))) : w.frozen? ⟨k, i, none⟩ = false := by simp [World.frozen?, h]
theorem set_world0 {w : World} {k : Nat} {a b : Value} {t : TypeId} (h : w.heap[k]? = some (.cells #[a, b] t (0, 0))) (v : Value) : (w.setCell ⟨k, 0, none⟩ v).heap[k]? = some (.cells #[v, b] t (0, 0)) := by
  simp [World.setCell, Array.getElem?_modify, h]
theorem set_world1 {w : World} {k : Nat} {a b : Value} {t : TypeId} (h : w.heap[k]? = some (.cells #[a, b] t (0, 0))) (v : Value) : (w.setCell ⟨k, 1, none⟩ v).heap[k]? = some (.cells #[a, v] t (0, 0)) := by
  simp [World.setCell, Array.getElem?_modify, h]
theorem own_set {w : World} {base n k i : Nat} {t t' : TypeId} {v u : Value} {xs : List Value} {cur : Array Value} (h : w.ownsRow base t 1 v n xs) (hk : w.heap[k]? = some (.cells cur t' (0, 0))) (ht : t ≠ t') : (w.setCell ⟨k, i, none⟩ u).ownsRow base t 1 v n xs := by
  refine ⟨h.1, ?_⟩
  rcases h.2 with h | ⟨g, cap, cur', h1, h2, h3, h4⟩
  · exact .inl h
  · refine .inr ⟨g, cap, cur', h1, h2, (Below.heap_setCell _ _ _ _ ?_).trans h3, h4⟩
    intro e
    subst e
    rw [hk] at h3
    simp at h3
    exact ht h3.2.symm
set_option maxHeartbeats 4000000 in
theorem made_some {Tr : World → Value → List Wy → Prop} (R : Rte Tr) (hO : Ofw Tr) (k : Nat) (E : List En) (x y : Value) (l : List Wy) (w0 w : World) (h : Pl Tr w0 w k E) (hx : Tr w x l) (hy : Rt w y l) (hn : E.length ≤ 1000) :
    Calls Try.prog 24 #[.pointer (some ⟨k, 0, none⟩), x, y, .int .i64 0, .int .i64 0] w fun en w' => en = .returned (.bool true) ∧ Pl Tr w0 w' k (E ++ [(x, y, l)]) := by
  obtain ⟨vt, vr, h1, h2, h3⟩ := h.own
  obtain ⟨xa, rfl⟩ := R.ptr hx
  obtain ⟨ky, sy, rfl, hy1, hy2⟩ := id hy
  have hkl := h.kl
  have HP := hid h
  have HX := hid hx
  have HY := hid hy
  have hkk := (Array.getElem?_eq_some_iff.1 h1).1
  have hw0 := h.fr.size
  have c0 : w.cell? ⟨k, 0, none⟩ = some vt := (cell_of_row _ _ 0 _ _ (0, 0) h1).trans rfl
  have f0 : w.frozen? ⟨k, 0, none⟩ = false := by simp [World.frozen?, h1]
  clear hy1 hy2 h hx hy
  obtain ⟨i1, hi, hz0, hz1, hz2⟩ := info_parts infoT
  obtain ⟨i2, hj, hy0, hy1, hy2⟩ := info_parts infoR
  go_enter Try.func24, Try.ntmps24
  have smT : ∀ w5, w.grownBy w5 vt.ownBlock → ∀ b, b < w.heap.size → ¬ Lb w b → w5.heap[b]? = w.heap[b]? := fun w5 hg b hb hn => hg.block b hb (fun e => hn (by
    obtain ⟨cur, hc⟩ := own_blk8 h2 e.symm
    exact ⟨cur, _, hc, .inl rfl⟩))
  have hnk : vt.ownBlock ≠ some k := fun e => by
    obtain ⟨cur, hc⟩ := own_blk8 h2 e
    rw [h1] at hc
    simp at hc
  have hnk2 : vr.ownBlock ≠ some k := fun e => by
    obtain ⟨cur, hc⟩ := own_blk8 h3 e
    rw [h1] at hc
    simp at hc
  have hnr : vr.ownBlock = none ∨ vr.ownBlock ≠ vt.ownBlock := by
    cases hv : vr.ownBlock with
    | none => exact .inl rfl
    | some g =>
      refine .inr (fun e => ?_)
      obtain ⟨cur, hc⟩ := own_blk8 h3 hv
      obtain ⟨cur', hc'⟩ := own_blk8 h2 e.symm
      rw [hc] at hc'
      simp at hc'
  go_wp2_with (at_builtin; first | (refine wpList_pR rfl _ _ rfl w0.heap.size E.length _ _ rfl (o6.alloc _) w5.heap.size ⟨ky, 0, none⟩ rfl (by { rw [← s6]; exact heap_alloc_new _ _ }) hn (by simp; omega) ?_; intro a8 c8' w8 own8 hg8; have k8 : w8.heap[k]? = some (.cells #[.slice a5 (E.length + 1) c5', vr] 38 (0, 0)) := (hg8.block k (by simp; omega) (fun e => hnk2 e.symm)).trans ((heap_alloc_old _ _ _ (by rw [s6]; omega)).trans k6); have q8 : w8.cell? ⟨k, 1, none⟩ = some vr := (cell_of_row _ _ 1 _ _ (0, 0) k8).trans rfl; have r8 : w8.frozen? ⟨k, 1, none⟩ = false := frz k8) | (refine wpList_pT rfl _ _ rfl w0.heap.size E.length _ _ rfl (h2.alloc _) w.heap.size xa rfl (heap_alloc_new _ _) hn (by simp; omega) ?_; intro a5 c5' w5 own5 hg5; have sm5 := smT w5 ⟨hg5.os, hg5.tape, hg5.output, by have := hg5.size; simp at this; omega, fun b hb hne => (hg5.block b (by simp; omega) hne).trans (heap_alloc_old _ _ _ hb)⟩; have k5 : w5.heap[k]? = some (.cells #[vt, vr] 38 (0, 0)) := (hg5.block k (by simp; omega) (fun e => hnk e.symm)).trans ((heap_alloc_old _ _ _ hkk).trans h1); have q5 : w5.cell? ⟨k, 0, none⟩ = some vt := (cell_of_row _ _ 0 _ _ (0, 0) k5).trans rfl; have r5 : w5.frozen? ⟨k, 0, none⟩ = false := frz k5; have k6 := set_world0 k5 (.slice a5 (E.length + 1) c5'); have q6 : (w5.setCell ⟨k, 0, none⟩ (.slice a5 (E.length + 1) c5')).cell? ⟨k, 1, none⟩ = some vr := (cell_of_row _ _ 1 _ _ (0, 0) k6).trans rfl; have o6 := own_set (i := 0) (u := .slice a5 (E.length + 1) c5') ((h3.alloc (.cells #[.pointer (some xa)] 40)).kept hg5 hnr) k5 (by decide); have o5 := own_set (i := 0) (u := .slice a5 (E.length + 1) c5') own5 k5 (by decide); have s6 : (w5.setCell ⟨k, 0, none⟩ (.slice a5 (E.length + 1) c5')).heap.size = w5.heap.size := by { simp [World.setCell] }; have hs5 := hg5.size; rw [World.size_alloc] at hs5))
  have hnt : (Value.slice a5 (E.length + 1) c5').ownBlock = none ∨ (Value.slice a5 (E.length + 1) c5').ownBlock ≠ vr.ownBlock := by
    cases hv : (Value.slice a5 (E.length + 1) c5').ownBlock with
    | none => exact .inl rfl
    | some g =>
      refine .inr (fun e => ?_)
      obtain ⟨cur, hc⟩ := own_blk8 o5 hv
      obtain ⟨cur', hc'⟩ := own_blk8 o6 e.symm
      rw [hc] at hc'
      simp at hc'
  have hsm : ∀ b, b < w.heap.size → ¬ Lb w b → (w8.setCell ⟨k, 1, none⟩ (.slice a8 (E.length + 1) c8')).heap[b]? = w.heap[b]? := fun b hb hnb => by
    have hbk : b ≠ k := fun e => hnb (by subst e; exact ⟨_, _, h1, .inr (.inr rfl)⟩)
    have hbr : some b ≠ vr.ownBlock := fun e => hnb (by
      obtain ⟨cur, hc⟩ := own_blk8 h3 e.symm
      exact ⟨cur, _, hc, .inr (.inl rfl)⟩)
    rw [Below.heap_setCell _ _ _ _ hbk, hg8.block b (by simp; omega) hbr, heap_alloc_old _ _ _ (by rw [s6]; omega), Below.heap_setCell _ _ _ _ hbk]
    exact sm5 b hb hnb
  have hss : w.heap.size ≤ (w8.setCell ⟨k, 1, none⟩ (.slice a8 (E.length + 1) c8')).heap.size := by
    have h8 := hg8.size
    rw [World.size_alloc, s6] at h8
    have : (w8.setCell ⟨k, 1, none⟩ (.slice a8 (E.length + 1) c8')).heap.size = w8.heap.size := by simp [World.setCell]
    omega
  go_ret
  refine ⟨rfl, ⟨⟨.slice a5 (E.length + 1) c5', .slice a8 (E.length + 1) c8', set_world1 k8 _, ?_, ?_⟩, hkl, fun e he => ?_, ?_⟩⟩
  · rw [List.length_append, List.length_singleton, List.map_append]
    exact own_set ((o5.alloc _).kept hg8 hnt) k8 (by decide)
  · rw [List.length_append, List.length_singleton, List.map_append]
    exact own_set own8 k8 (by decide)
  · rcases List.mem_append.1 he with he | he
    · exact ⟨hO _ _ _ _ (HP.out.tr e he).1 hss hsm, (HP.out.tr e he).2.off hsm⟩
    · rw [List.mem_singleton] at he
      subst he
      exact ⟨hO _ _ _ _ HX.out hss hsm, HY.out.off hsm⟩
  · have b1 := (HP.out.fr.alloc hw0 (.cells #[.pointer (some xa)] 40)).grown hg5 (by simp; omega) (fun j e => (h2.lt j e).1)
    have b2 := b1.setCell (p := ⟨k, 0, none⟩) hkl (.slice a5 (E.length + 1) c5')
    have b3 := (b2.alloc (by rw [s6]; omega) (.cells #[.pointer (some ⟨ky, 0, none⟩)] 41)).grown hg8 (by simp; omega) (fun j e => (h3.lt j e).1)
    exact b3.setCell (p := ⟨k, 1, none⟩) hkl _
end Go.Proofs.Ytcaecfdeieoenaa
