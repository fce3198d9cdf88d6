import Derived.Test.YtnmklleoilicdaaXC
namespace Go.Proofs.Ytnmklleoilicdaa
set_option maxRecDepth 100000
open Go.RowKit Go.Shelf Go.Maps
set_option linter.unusedVariables false
attribute [local go_sem ↓] Go.wp_at_zero Go.wp_at_succ

def endS' : SD := ⟨none, 0, none, 0, ⟨[], [], true⟩⟩
theorem Sl.cut {w : World} {V : Nat → Prop} {a : Option Addr} {n k : Nat} {l : List Sx} (h : Sl w V a n l) (hk : k ≤ n) : Sl w V a k (l.take k) := by
  refine ⟨by rw [List.length_take, h.len]; omega, ?_⟩
  rcases h.cells with h0 | ⟨b, off, e, hb, hc⟩
  · exact .inl (by omega)
  · refine .inr ⟨b, off, e, hb, fun i hi => ?_⟩
    have := hc i (by omega)
    have e : (l.take k).getD i default = l.getD i default := by simp [List.getD, hi]
    rw [e]
    exact this
theorem LY.sv {B : Nat} {W : World} {e : LE} (h : LY B W e) : SV W (fun x => B ≤ x) (leS e) := by
  have h1 := ((h.k.vs h.ck.1 h.ck.2).cut (m := e.s.k.length) (d := e.s.k.length + 2) (by omega) (by omega) h.ck.1).wide (V' := fun x => B ≤ x) fun x _ hx => by rw [hx]; exact h.bk
  have h2 := ((h.v.vs h.cv.1 h.cv.2).cut (m := e.s.v.length) (d := e.s.v.length + 2) (by omega) (by omega) h.cv.1).wide (V' := fun x => B ≤ x) fun x _ hx => by rw [hx]; exact h.bv
  have e1 : List.take e.s.k.length (e.s.k ++ [161, 162]) = e.s.k := by simp
  have e2 : List.take e.s.v.length (e.s.v ++ [163, 164]) = e.s.v := by simp
  rw [e1] at h1
  rw [e2] at h2
  exact ⟨h1, h2⟩
/-- The sets that were lent, as a list. -/
theorem Ln.sl {w0 W : World} {m : Nat} {vs vk vv : Value} {es : List LE} (h : Ln w0 W m vs vk vv (es.map leS ++ [endS']) es es es) : ∃ gs cs, vs = .slice (some ⟨gs, 0, none⟩) (es.length + 1) cs ∧ es.length + 1 ≤ cs ∧ cs ≤ maxLen ∧ Sl W (fun x => w0.heap.size ≤ x) (some ⟨gs, 0, none⟩) (es.length + 1) (es.map (·.s) ++ [⟨[], [], true⟩]) := by
  obtain ⟨a, c, hv, hsl, hlc, hlm, -⟩ := Sl.ofOwn (V := fun x => w0.heap.size ≤ x) h.os (fun d hd => by
    rcases List.mem_append.1 hd with hd | hd
    · obtain ⟨e, he, rfl⟩ := List.mem_map.1 hd
      exact (h.y e he).sv
    · rw [List.mem_singleton] at hd
      subst hd
      exact ⟨vs_none W _, vs_none W _⟩) (fun x hx => hx)
  have hn : (es.map leS ++ [endS']).length = es.length + 1 := by simp
  rw [hn] at hv hsl hlc
  have hm : (es.map leS ++ [endS']).map (·.s) = es.map (·.s) ++ [⟨[], [], true⟩] := by simp [leS, endS', Function.comp_def]
  rw [hm] at hsl
  obtain ⟨a', c', hv', -, -, -, hh⟩ := own_addr h.os
  rw [hn] at hv' hh
  rw [hv] at hv'
  simp only [Value.slice.injEq, true_and] at hv'
  obtain ⟨rfl, rfl⟩ := hv'
  rcases hh with ⟨_, h0⟩ | ⟨g, rfl, _⟩
  · omega
  · exact ⟨g, c, hv, hlc, hlm, hsl⟩
set_option maxHeartbeats 400000 in
theorem of_ (w : World) (m gs n c : Nat) (hc : w.cell? ⟨m, 0, none⟩ = some (.slice (some ⟨gs, 0, none⟩) (n + 1) c)) (hnc : n + 1 ≤ c) (hcm : c ≤ maxLen) :
    Calls Try.prog 10 #[.pointer (some ⟨m, 0, none⟩)] w fun e w' => e = .returned (.slice (some ⟨gs, 0, none⟩) n (n + 1)) ∧ w' = w := by
  unfold maxLen at hcm
  have i1 : (0 : Int) ≤ n := by omega
  have i2 : (n : Int) ≤ (n : Int) + 1 := by omega
  have i3 : (n : Int) + 1 ≤ c := by omega
  have i4 : (n : Int) + 1 - 1 = n := by omega
  go_enter Try.func10, Try.ntmps10
  go_wp2_with fail
  go_ret
  exact ⟨by first | rfl | simp, rfl⟩
/-- What was lent, as it is written over. -/
structure Hd (w0 W0 wr : World) (m gs : Nat) (vs vk vv : Value) (es : List LE) (i : Nat) : Prop where
  var : wr.heap[m]? = some (.cells #[vs, vk, vv] 41 (0, 0))
  row : ∃ cur, wr.heap[gs]? = some (.cells cur 37 (0, 0)) ∧ (es.length + 1) * 3 ≤ cur.size
  ok : wr.ownsRow w0.heap.size 27 1 vk es.length (es.map leK)
  ov : wr.ownsRow w0.heap.size 27 1 vv es.length (es.map leV)
  y : ∀ j, i ≤ j → ∀ e, es[j]? = some e → LY w0.heap.size wr e
  bel : Below w0.heap.size w0 wr
  same : ∀ x, x < W0.heap.size → (∀ e ∈ es, x ≠ e.gk ∧ x ≠ e.gv) → x ≠ gs → wr.heap[x]? = W0.heap[x]?
  size : W0.heap.size ≤ wr.heap.size
theorem Hd.below {w0 W0 wr w' : World} {m gs i : Nat} {vs vk vv : Value} {es : List LE} (h : Hd w0 W0 wr m gs vs vk vv es i) (hb : Below wr.heap.size wr w') : Hd w0 W0 w' m gs vs vk vv es i := by
  obtain ⟨cur, hc, hs⟩ := h.row
  exact ⟨(hb.block _ (Array.getElem?_eq_some_iff.1 h.var).1).trans h.var, ⟨cur, (hb.block _ (Array.getElem?_eq_some_iff.1 hc).1).trans hc, hs⟩, own_bel h.ok hb, own_bel h.ov hb, fun j hj e he => (h.y j hj e he).same (hb.block _ (h.y j hj e he).k.lt) (hb.block _ (h.y j hj e he).v.lt), bel_bel h.bel h.bel.size hb, fun x hx h1 h2 => (hb.block x (by have := h.size; omega)).trans (h.same x hx h1 h2), Nat.le_trans h.size hb.size⟩
end Go.Proofs.Ytnmklleoilicdaa
namespace Go.Proofs.Ytnmklleoilicdaa
set_option maxRecDepth 100000
open Go.RowKit Go.Shelf Go.Maps
set_option linter.unusedVariables false
attribute [local go_sem ↓] Go.wp_at_zero Go.wp_at_succ

theorem nd_at {es : List LE} (h : (es.flatMap leB).Nodup) {i j : Nat} {e f : LE} (hi : es[i]? = some e) (hj : es[j]? = some f) (hij : i < j) : e.gk ≠ f.gk ∧ e.gk ≠ f.gv ∧ e.gv ≠ f.gk ∧ e.gv ≠ f.gv := by
  induction es generalizing i j with
  | nil => simp at hi
  | cons x es ih =>
    rw [List.flatMap_cons, List.nodup_append] at h
    cases j with
    | zero => omega
    | succ j =>
      have hj' : es[j]? = some f := by simpa using hj
      cases i with
      | succ i => exact ih h.2.1 (by simpa using hi) hj' (by omega)
      | zero =>
        obtain rfl : x = e := by simpa using hi
        have hm : f ∈ es := List.mem_of_getElem? hj'
        have hk : ∀ a ∈ leB f, a ∈ es.flatMap leB := fun a ha => List.mem_flatMap.2 ⟨f, hm, ha⟩
        have h1 := hk f.gk (by simp [leB])
        have h2 := hk f.gv (by simp [leB])
        exact ⟨h.2.2 x.gk (by simp [leB]) _ h1, h.2.2 x.gk (by simp [leB]) _ h2, h.2.2 x.gv (by simp [leB]) _ h1, h.2.2 x.gv (by simp [leB]) _ h2⟩
theorem nd_own {es : List LE} (h : (es.flatMap leB).Nodup) {i : Nat} {e : LE} (hi : es[i]? = some e) : e.gk ≠ e.gv := by
  induction es generalizing i with
  | nil => simp at hi
  | cons x es ih =>
    rw [List.flatMap_cons, List.nodup_append] at h
    cases i with
    | succ i => exact ih h.2.1 (by simpa using hi)
    | zero =>
      obtain rfl : x = e := by simpa using hi
      have := h.1
      simp [leB] at this
      exact this
theorem Hd.mark {w0 W0 wr w1 w2 : World} {m gs i i' g n : Nat} {vs vk vv : Value} {es : List LE} {ys : List Int} (h : Hd w0 W0 wr m gs vs vk vv es i) (hi : i ≤ i') (hb : Below wr.heap.size wr w1) (hg : w1.grownBy w2 (some g)) (hy : Yr w1 g n ys) (hm : ∃ e ∈ es, g = e.gk ∨ g = e.gv) (hg0 : w0.heap.size ≤ g) (hne : ∀ j, i' ≤ j → ∀ e, es[j]? = some e → e.gk ≠ g ∧ e.gv ≠ g) : Hd w0 W0 w2 m gs vs vk vv es i' := by
  have h := h.below hb
  obtain ⟨cur, hc, hs⟩ := h.row
  obtain ⟨cy, hcy⟩ := hy.blk
  have hbk : ∀ {x : Nat} {cs : Array Value} {T : TypeId} {fz : Nat × Nat}, w1.heap[x]? = some (.cells cs T fz) → T ≠ 5 → x ≠ g := fun {x cs T fz} hx hT e => by rw [e, hcy] at hx; simp at hx; exact hT hx.2.1.symm
  have hk : ∀ x, x < w1.heap.size → x ≠ g → w2.heap[x]? = w1.heap[x]? := fun x hx hn => hg.block x hx (fun e => hn (Option.some.inj e))
  have hrow : ∀ {v : Value} {k : Nat} {xs : List Value}, w1.ownsRow w0.heap.size 27 1 v k xs → w2.ownsRow w0.heap.size 27 1 v k xs := fun {v k xs} ho => own_at13 ho fun q hq => by
    obtain ⟨cq, hcq⟩ := own_type ho hq
    exact hk q (ho.lt q hq).2 (hbk hcq (by decide))
  refine ⟨(hk m (Array.getElem?_eq_some_iff.1 h.var).1 (hbk h.var (by decide))).trans h.var, ⟨cur, (hk gs (Array.getElem?_eq_some_iff.1 hc).1 (hbk hc (by decide))).trans hc, hs⟩, hrow h.ok, hrow h.ov, fun j hj e he => ?_, bel_by h.bel hg hg0, fun x hx h1 h2 => ?_, Nat.le_trans h.size hg.size⟩
  · have hl := h.y j (by omega) e he
    exact hl.same (hk _ hl.k.lt (hne j hj e he).1) (hk _ hl.v.lt (hne j hj e he).2)
  · obtain ⟨e, he, hge⟩ := hm
    have := h1 e he
    exact (hk x (by have := h.size; omega) (by rcases hge with rfl | rfl; exact this.1; exact this.2)).trans (h.same x hx h1 h2)
theorem Hd.set {w0 W0 wr : World} {m gs i o : Nat} {vs vk vv u : Value} {es : List LE} (h : Hd w0 W0 wr m gs vs vk vv es i) (hgs : w0.heap.size ≤ gs) : Hd w0 W0 (wr.setCell ⟨gs, o, none⟩ u) m gs vs vk vv es i := by
  obtain ⟨cur, hc, hs⟩ := h.row
  have hbk : ∀ {x : Nat} {cs : Array Value} {T : TypeId} {fz : Nat × Nat}, wr.heap[x]? = some (.cells cs T fz) → T ≠ 37 → x ≠ gs := fun {x cs T fz} hx hT e => by rw [e, hc] at hx; simp at hx; exact hT hx.2.1.symm
  have hk : ∀ x, x ≠ gs → (wr.setCell ⟨gs, o, none⟩ u).heap[x]? = wr.heap[x]? := fun x hn => Below.heap_setCell _ _ _ _ hn
  have hrow : ∀ {v : Value} {k : Nat} {xs : List Value}, wr.ownsRow w0.heap.size 27 1 v k xs → (wr.setCell ⟨gs, o, none⟩ u).ownsRow w0.heap.size 27 1 v k xs := fun {v k xs} ho => own_at13 ho fun q hq => by
    obtain ⟨cq, hcq⟩ := own_type ho hq
    exact hk q (hbk hcq (by decide))
  refine ⟨(hk m (hbk h.var (by decide))).trans h.var, ⟨cur.setIfInBounds o u, by simp [World.setCell, Array.getElem?_modify, hc], by simpa using hs⟩, hrow h.ok, hrow h.ov, fun j hj e he => ?_, h.bel.setCell hgs _, fun x hx h1 h2 => (hk x h2).trans (h.same x hx h1 h2), by simpa [World.setCell] using h.size⟩
  have hl := h.y j hj e he
  obtain ⟨c1, hc1⟩ := hl.k.blk
  obtain ⟨c2, hc2⟩ := hl.v.blk
  exact hl.same (hk _ (hbk hc1 (by decide))) (hk _ (hbk hc2 (by decide)))
theorem Hd.cells {w0 W0 wr : World} {m gs i : Nat} {vs vk vv : Value} {es : List LE} (h : Hd w0 W0 wr m gs vs vk vv es i) {o : Nat} (ho : o < (es.length + 1) * 3) : (∃ u, wr.cell? ⟨gs, o, none⟩ = some u) ∧ wr.frozen? ⟨gs, o, none⟩ = false := by
  obtain ⟨cur, hc, hs⟩ := h.row
  refine ⟨⟨cur[o]'(by omega), ?_⟩, by simp [World.frozen?, hc]⟩
  rw [cell_of_row _ _ o _ _ (0, 0) hc]
  exact Array.getElem?_eq_some_iff.2 ⟨by omega, rfl⟩
theorem own_cell {w : World} {base e n : Nat} {v : Value} {xs : List Value} (h : w.ownsRow base e 1 v n xs) (hn : 0 < n) : ∃ q c, v = .slice (some ⟨q, 0, none⟩) n c ∧ base ≤ q ∧ ∀ i u, xs[i]? = some u → w.cell? ⟨q, i, none⟩ = some u := by
  obtain ⟨a, c, hv, -, -, -, hh⟩ := own_addr h
  rcases hh with ⟨_, h0⟩ | ⟨g, rfl, h1, _, h2⟩
  · omega
  · exact ⟨g, c, hv, h1, h2⟩
end Go.Proofs.Ytnmklleoilicdaa
