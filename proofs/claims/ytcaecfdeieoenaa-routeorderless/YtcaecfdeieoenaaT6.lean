import Derived.Test.YtcaecfdeieoenaaT5
import Derived.Laws.AppendOwn
namespace Go.Proofs.Ytcaecfdeieoenaa
set_option maxRecDepth 100000
open Go.RowKit
set_option linter.unusedVariables false

/-! A tree in memory. -/
def Tn.v : Tn → Value
  | .nil => .pointer none
  | .node b _ _ _ => .pointer (some ⟨b, 0, none⟩)
theorem Tn.vp (t : Tn) : ∃ p, t.v = .pointer p := by cases t <;> exact ⟨_, rfl⟩
def Nm (w : World) (b : Nat) (x : Wy) (l r : Value) : Prop := w.heap[b]? = some (.cells #[.int .i64 x.F, .int .u64 x.H, .int .u64 x.L, .int .i64 x.B, .int .i64 x.K, l, r] 81 (0, 0))
section
variable {w w' : World} {b : Nat} {x : Wy} {l r : Value}
theorem Nm.lt (h : Nm w b x l r) : b < w.heap.size := (Array.getElem?_eq_some_iff.1 h).1
theorem Nm.at (h : Nm w b x l r) (e : w'.heap[b]? = w.heap[b]?) : Nm w' b x l r := e.trans h
theorem Nm.kept (h : Nm w b x l r) (hb : Below w.heap.size w w') : Nm w' b x l r := h.at (hb.block b h.lt)
theorem Nm.alloc (h : Nm w b x l r) (o : Obj) : Nm (w.alloc o) b x l r := h.at (Below.heap_alloc _ _ _ h.lt)
theorem Nm.drew (h : Nm w b x l r) : Nm w.drew b x l r := h
theorem Nm.fz (h : Nm w b x l r) (i : Nat) : w.frozen? ⟨b, i, none⟩ = false := by unfold Nm at h; simp [World.frozen?, h]
theorem Nm.cell (h : Nm w b x l r) (i : Nat) : w.cell? ⟨b, i, none⟩ = #[Value.int .i64 x.F, .int .u64 x.H, .int .u64 x.L, .int .i64 x.B, .int .i64 x.K, l, r][i]? := cell_of_row w b i _ _ (0, 0) h
theorem Nm.c0 (h : Nm w b x l r) : w.cell? ⟨b, 0, none⟩ = some (.int .i64 x.F) := h.cell 0
theorem Nm.c1 (h : Nm w b x l r) : w.cell? ⟨b, 1, none⟩ = some (.int .u64 x.H) := h.cell 1
theorem Nm.c2 (h : Nm w b x l r) : w.cell? ⟨b, 2, none⟩ = some (.int .u64 x.L) := h.cell 2
theorem Nm.c3 (h : Nm w b x l r) : w.cell? ⟨b, 3, none⟩ = some (.int .i64 x.B) := h.cell 3
theorem Nm.c4 (h : Nm w b x l r) : w.cell? ⟨b, 4, none⟩ = some (.int .i64 x.K) := h.cell 4
theorem Nm.c5 (h : Nm w b x l r) : w.cell? ⟨b, 5, none⟩ = some l := h.cell 5
theorem Nm.c6 (h : Nm w b x l r) : w.cell? ⟨b, 6, none⟩ = some r := h.cell 6
theorem Nm.other (h : Nm w b x l r) {g : Nat} (hn : b ≠ g) (i : Nat) (v : Value) : Nm (w.setCell ⟨g, i, none⟩ v) b x l r := h.at (Below.heap_setCell _ _ _ _ hn)
theorem Nm.setK (h : Nm w b x l r) (K : Int) : Nm (w.setCell ⟨b, 4, none⟩ (.int .i64 K)) b { x with K := K } l r := by
  unfold Nm at *; simp [World.setCell, Array.getElem?_modify, h]
theorem Nm.set5 (h : Nm w b x l r) (v : Value) : Nm (w.setCell ⟨b, 5, none⟩ v) b x v r := by
  unfold Nm at *; simp [World.setCell, Array.getElem?_modify, h]
theorem Nm.set6 (h : Nm w b x l r) (v : Value) : Nm (w.setCell ⟨b, 6, none⟩ v) b x l v := by
  unfold Nm at *; simp [World.setCell, Array.getElem?_modify, h]
theorem Nm.new (w : World) (x : Wy) (l r : Value) : Nm (w.alloc (.cells #[.int .i64 x.F, .int .u64 x.H, .int .u64 x.L, .int .i64 x.B, .int .i64 x.K, l, r] 81)) w.heap.size x l r := heap_alloc_new _ _
end
def Nd (w : World) : Tn → Prop
  | .nil => True
  | .node b x l r => Nm w b x l.v r.v ∧ Nd w l ∧ Nd w r
theorem Nd.kept {w w' : World} (hb : Below w.heap.size w w') : ∀ {t : Tn}, Nd w t → Nd w' t
  | .nil, _ => trivial
  | .node b x l r, h => ⟨h.1.kept hb, Nd.kept hb h.2.1, Nd.kept hb h.2.2⟩
theorem Nd.mem {w : World} : ∀ {t : Tn}, Nd w t → ∀ z ∈ t.nds, ∃ l r, Nm w z.1 z.2 l r
  | .nil, _, z, hz => by cases hz
  | .node b x l r, h, z, hz => by
    rw [Tn.nds, List.mem_cons, List.mem_append] at hz
    rcases hz with rfl | hz | hz
    · exact ⟨_, _, h.1⟩
    · exact h.2.1.mem z hz
    · exact h.2.2.mem z hz
theorem ndd_0 (t r : Tn) : ndd t .nil r 0 = r := by unfold ndd; rw [if_neg (by simp)]
theorem ndd_1 (t : Tn) (b : Nat) (x : Wy) (l r : Tn) : ndd t (.node b x l r) .nil 0 = .node b x l r := by unfold ndd; rw [if_neg (by simp)]
theorem ndd_2 (t : Tn) (b : Nat) (x : Wy) (l r : Tn) (b' : Nat) (x' : Wy) (l' r' : Tn) : ndd t (.node b x l r) (.node b' x' l' r') 0 = t := by unfold ndd; rw [if_neg (by simp)]
theorem ndd_k (t l r : Tn) {K : Int} (h : K ≠ 0) : ndd t l r K = t := by unfold ndd; rw [if_pos h]
set_option maxHeartbeats 1000000 in
theorem needed_ (b : Nat) (x : Wy) (l r : Tn) (w : World) (h : Nm w b x l.v r.v) :
    Calls Try.prog 58 #[.pointer (some ⟨b, 0, none⟩)] w fun e w' => e = .returned (ndd (.node b x l r) l r x.K).v ∧ w' = w := by
  have c4 := h.c4
  have c5 := h.c5
  have c6 := h.c6
  clear h
  by_cases hk : x.K = 0
  · rw [hk] at c4 ⊢
    cases l with
    | nil =>
      rw [ndd_0]
      simp only [Tn.v] at c5
      generalize r.v = rv at *
      go_enter Try.func58, Try.ntmps58
      go_wp2_with fail
      go_ret
      exact ⟨rfl, rfl⟩
    | node bl xl ll rl =>
      cases r with
      | nil =>
        rw [ndd_1]
        simp only [Tn.v] at c5 c6 ⊢
        go_enter Try.func58, Try.ntmps58
        go_wp2_with fail
        go_ret
        exact ⟨rfl, rfl⟩
      | node br xr lr rr =>
        rw [ndd_2]
        simp only [Tn.v] at c5 c6 ⊢
        go_enter Try.func58, Try.ntmps58
        go_wp2_with fail
        go_ret
        exact ⟨rfl, rfl⟩
  · rw [ndd_k _ _ _ hk]
    have hn : (x.K != 0) = true := by simpa using hk
    simp only [Tn.v]
    generalize l.v = lv at *
    generalize r.v = rv at *
    go_enter Try.func58, Try.ntmps58
    go_wp2_with fail
    go_ret
    exact ⟨rfl, rfl⟩
theorem infoN : (Try.prog.info? 73).map (fun i => (i.zero, i.size, i.bytes)) = some (some (.pointer none), 1, 8) := by kernel_rfl
/-- One node more behind a row of one's own. -/
theorem wpList_nd {w : World} {ops : Array Oper} {rest : List Oper} {o : Oper} {act : Act} {Q : Exit → Act → World → Prop} (hgd : o.guard = none) (s x : Operand)
    (ho : o.op = .call { callee := .builtin .append, args := #[s, x], argTypes := #[72, 72] })
    (base n : Nat) (v : Value) (xs : List Value) (hs : act.eval s = v) (hown : w.ownsRow base 73 1 v n xs) (g : Nat) (p : Addr) (hx : act.eval x = .slice (some ⟨g, 0, none⟩) 1 1)
    (hg : w.heap[g]? = some (.cells #[.pointer (some p)] 73 (0, 0))) (hn : n ≤ 1000000) (hbase : base ≤ w.heap.size)
    (h : ∀ a' c' w', w'.ownsRow base 73 1 (.slice a' (n + 1) c') (n + 1) (xs ++ [.pointer (some p)]) → w.grownBy w' v.ownBlock → wpList Try.prog ops Q rest (act.put o.dst (.slice a' (n + 1) c')) w') : wpList Try.prog ops Q (o :: rest) act w := by
  obtain ⟨i, hi, hz0, hz1, hz2⟩ := info_parts infoN
  refine wpList_append_own _ hgd s x 72 ho base 73 i _ 1 8 Try.underlying72 hi hz0 hz1 hz2 rfl (by decide) v n xs hs hown ⟨g, 0, none⟩ 1 1 [.pointer (some p)] hx rfl ?c1 ?c2 (by unfold maxLen; omega) (by omega) hbase ?_
  case c1 =>
    intro j u hj
    rw [Addr.add_lit, Nat.zero_add, cell_of_row w g j _ _ (0, 0) hg]
    exact (List.getElem?_toArray (xs := [Value.pointer (some p)]) (i := j)).trans hj
  case c2 =>
    intro u hu
    simp at hu
    subst hu
    rfl
  intro v' w' h1 h2 _
  rcases h1.2 with ⟨_, h0⟩ | ⟨g', cap, cur, rfl, _⟩
  · omega
  · exact h _ _ w' h1 h2
theorem underK : Try.prog.underlying 74 = some (.array 2 73) := by kernel_rfl
theorem run_ixk (l r : Option Addr) (w : World) : (Instr.index 74 (.agg #[.pointer l, .pointer r]) (.int .i64 0)).run Try.prog w = .ok (.pointer l) w ∧ (Instr.index 74 (.agg #[.pointer l, .pointer r]) (.int .i64 1)).run Try.prog w = .ok (.pointer r) w := by
  constructor <;> simp [Instr.index, run_underlying underK, asIntOf, part, isAgg, go_sem]
/-- The nodes of a list, as a row has them. -/
def pv (l : List (Nat × Wy)) : List Value := l.map (fun z => .pointer (some ⟨z.1, 0, none⟩))
set_option maxHeartbeats 4000000 in
theorem gather_ (w0 : World) : ∀ (t : Tn), Nd w0 t → ∀ (w : World) (a : Option Addr) (c n : Nat) (xs : List Value), Below w0.heap.size w0 w → w.ownsRow w0.heap.size 73 1 (.slice a n c) n xs → n + t.gs.length ≤ 1000000 →
    Calls Try.prog 28 #[t.v, .slice a n c] w fun e w' => (∃ a' c', e = .returned (.slice a' (n + t.gs.length) c') ∧ w'.ownsRow w0.heap.size 73 1 (.slice a' (n + t.gs.length) c') (n + t.gs.length) (xs ++ pv t.gs)) ∧ Below w0.heap.size w0 w'
  | .nil, _, w, a, c, n, xs, hb, hr, hn => by
    go_enter Try.func28, Try.ntmps28
    simp only [Tn.v]
    go_wp2_with fail
    go_ret
    refine ⟨⟨a, c, rfl, ?_⟩, hb⟩
    simpa [Tn.gs, pv] using hr
  | .node b x l r, h, w, a, c, n, xs, hb, hr, hn => by
    have k1 := fun w a c n xs => gather_ w0 l h.2.1 w a c n xs
    have k2 := fun w a c n xs => gather_ w0 r h.2.2 w a c n xs
    have m := (show Nm w b x l.v r.v from h.1.at (hb.block b h.1.lt))
    have c4 := m.c4
    have c5 := m.c5
    have c6 := m.c6
    simp only [Tn.v]
    rw [Tn.gs] at hn ⊢
    by_cases hk : x.K = 0
    · rw [if_pos hk, List.nil_append, List.length_append] at hn
      have HL : Hid (n + ([] ++ (l.gs ++ r.gs)).length = n + l.gs.length + r.gs.length) := by
        show _ = _
        rw [List.nil_append, List.length_append]
        omega
      have HX : Hid (xs ++ pv ([] ++ (l.gs ++ r.gs)) = xs ++ pv l.gs ++ pv r.gs) := by
        show _ = _
        unfold pv
        rw [List.nil_append, List.map_append, List.append_assoc]
      rw [if_pos hk, HL.out, HX.out]
      rw [hk] at c4
      clear m
      obtain ⟨lp, hlp⟩ := l.vp
      obtain ⟨rp, hrp⟩ := r.vp
      generalize l.v = lv at *
      generalize r.v = rv at *
      subst hlp hrp
      have ik0 := fun w => (run_ixk lp rp w).1
      have ik1 := fun w => (run_ixk lp rp w).2
      go_enter Try.func28, Try.ntmps28
      go_wp2_with fail
      refine wp_loop_rounds 3 ?_
      rw [rounds_succ]
      go_wp2_with (go_at_call 28; refine (k1 w a c n xs hb hr (by omega)).mono ?_; rintro e w2 ⟨⟨a2, c2, rfl, hr2⟩, hb2⟩)
      clear k1
      rw [rounds_succ]
      go_wp2_with (go_at_call 28; refine (k2 w2 a2 c2 _ _ hb2 hr2 (by omega)).mono ?_; rintro e w3 ⟨⟨a3, c3, rfl, hr3⟩, hb3⟩)
      clear k2
      rw [rounds_succ]
      go_wp2_with fail
      go_ret
      refine ⟨⟨a3, c3, rfl, ?_⟩, hb3⟩
      simpa using hr3
    · rw [if_neg hk, List.length_append, List.length_append, List.length_singleton] at hn
      have HL : Hid (n + ([(b, x)] ++ (l.gs ++ r.gs)).length = n + 1 + l.gs.length + r.gs.length) := by
        show _ = _
        rw [List.length_append, List.length_append, List.length_singleton]
        omega
      have HX : Hid (xs ++ pv ([(b, x)] ++ (l.gs ++ r.gs)) = xs ++ [.pointer (some ⟨b, 0, none⟩)] ++ pv l.gs ++ pv r.gs) := by
        show _ = _
        unfold pv
        rw [List.map_append, List.map_append, List.append_assoc, List.append_assoc]
        rfl
      rw [if_neg hk, HL.out, HX.out]
      have hkn : (x.K != 0) = true := by simpa using hk
      have hsz := hb.size
      have hm := h.1
      obtain ⟨lp, hlp⟩ := l.vp
      obtain ⟨rp, hrp⟩ := r.vp
      generalize l.v = lv at *
      generalize r.v = rv at *
      subst hlp hrp
      have ik0 := fun w => (run_ixk lp rp w).1
      have ik1 := fun w => (run_ixk lp rp w).2
      go_enter Try.func28, Try.ntmps28
      go_wp2_with (at_builtin; refine wpList_nd rfl _ _ rfl w0.heap.size n _ xs rfl (hr.alloc _) w.heap.size ⟨b, 0, none⟩ rfl (heap_alloc_new _ _) (by omega) (by simp; omega) ?_; intro a1 c1 w1 hr1 hg1; have hb1 := (hb.alloc hsz (.cells #[.pointer (some ⟨b, 0, none⟩)] 73)).grown hg1 (by simp; omega) (fun j e => (hr.lt j e).1); have m1 := hm.at (hb1.block b hm.lt); have d5 := m1.c5; have d6 := m1.c6)
      clear c4 c5 c6
      refine wp_loop_rounds 3 ?_
      rw [rounds_succ]
      go_wp2_with (go_at_call 28; refine (k1 w1 a1 c1 (n + 1) _ hb1 hr1 (by omega)).mono ?_; rintro e w2 ⟨⟨a2, c2, rfl, hr2⟩, hb2⟩)
      clear k1
      rw [rounds_succ]
      go_wp2_with (go_at_call 28; refine (k2 w2 a2 c2 _ _ hb2 hr2 (by omega)).mono ?_; rintro e w3 ⟨⟨a3, c3, rfl, hr3⟩, hb3⟩)
      clear k2
      rw [rounds_succ]
      go_wp2_with fail
      go_ret
      refine ⟨⟨a3, c3, rfl, ?_⟩, hb3⟩
      simpa using hr3
end Go.Proofs.Ytcaecfdeieoenaa
