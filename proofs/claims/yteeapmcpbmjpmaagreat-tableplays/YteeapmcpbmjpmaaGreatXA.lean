import Derived.Test.YteeapmcpbmjpmaaGreatVC
namespace Go.Proofs.YteeapmcpbmjpmaaGreat
set_option maxRecDepth 100000
open Go.RowKit Go.Shelf Go.Maps
set_option linter.unusedVariables false

/-! Sets that are lent: lists with marks behind them. -/
structure LE where
  gk : Nat
  kc : Nat
  gv : Nat
  vc : Nat
  s : Sx
def leS (e : LE) : SD := ⟨some ⟨e.gk, 0, none⟩, e.s.k.length + 2, some ⟨e.gv, 0, none⟩, e.s.v.length + 2, e.s⟩
def leK (e : LE) : Value := .slice (some ⟨e.gk, 0, none⟩) (e.s.k.length + 2) e.kc
def leV (e : LE) : Value := .slice (some ⟨e.gv, 0, none⟩) (e.s.v.length + 2) e.vc
def leB (e : LE) : List Nat := [e.gk, e.gv]
/-- Its bytes, as they were lent. -/
structure LY (B : Nat) (W : World) (e : LE) : Prop where
  k : Yr W e.gk (e.s.k.length + 2) (e.s.k ++ [161, 162])
  v : Yr W e.gv (e.s.v.length + 2) (e.s.v ++ [163, 164])
  bk : B ≤ e.gk
  bv : B ≤ e.gv
  ck : e.s.k.length + 2 ≤ e.kc ∧ e.kc ≤ maxLen
  cv : e.s.v.length + 2 ≤ e.vc ∧ e.vc ≤ maxLen
structure Ln (w0 W : World) (m : Nat) (vs vk vv : Value) (ss : List SD) (ks ls es : List LE) : Prop where
  var : W.heap[m]? = some (.cells #[vs, vk, vv] 82 (0, 0))
  os : W.ownsRow w0.heap.size 44 3 vs ss.length (sds ss)
  ok : W.ownsRow w0.heap.size 35 1 vk ks.length (ks.map leK)
  ov : W.ownsRow w0.heap.size 35 1 vv ls.length (ls.map leV)
  y : ∀ e ∈ es, LY w0.heap.size W e
  nd : (es.flatMap leB).Nodup
  kv : ∀ q, vk.ownBlock = some q → vv.ownBlock ≠ some q
  bel : Below w0.heap.size w0 W
  lo : w0.heap.size ≤ m
theorem LY.same {B : Nat} {W W' : World} {e : LE} (h : LY B W e) (h1 : W'.heap[e.gk]? = W.heap[e.gk]?) (h2 : W'.heap[e.gv]? = W.heap[e.gv]?) : LY B W' e := ⟨h.k.same h1, h.v.same h2, h.bk, h.bv, h.ck, h.cv⟩
theorem Ln.below {w0 W W' : World} {m : Nat} {vs vk vv : Value} {ss : List SD} {ks ls es : List LE} (h : Ln w0 W m vs vk vv ss ks ls es) (hb : Below W.heap.size W W') : Ln w0 W' m vs vk vv ss ks ls es :=
  ⟨(hb.block _ (Array.getElem?_eq_some_iff.1 h.var).1).trans h.var, own_bel h.os hb, own_bel h.ok hb, own_bel h.ov hb, fun e he => (h.y e he).same (hb.block _ (h.y e he).k.lt) (hb.block _ (h.y e he).v.lt), h.nd, h.kv, bel_bel h.bel h.bel.size hb, h.lo⟩
theorem Ln.mlt {w0 W : World} {m : Nat} {vs vk vv : Value} {ss : List SD} {ks ls es : List LE} (h : Ln w0 W m vs vk vv ss ks ls es) : m < W.heap.size := (Array.getElem?_eq_some_iff.1 h.var).1
theorem infoV : (Tryz.prog.info? 35).map (fun i => (i.zero, i.size, i.bytes)) = some (some (.slice none 0 0), 1, 24) := by kernel_rfl
/-- A block's type tells it from an own row of another one. -/
theorem own_type {w : World} {base e sz n : Nat} {v : Value} {xs : List Value} (h : w.ownsRow base e sz v n xs) {q : Nat} (hq : v.ownBlock = some q) : ∃ cur, w.heap[q]? = some (.cells cur e (0, 0)) := by
  rcases h.2 with ⟨rfl, _⟩ | ⟨g, cap, cur, rfl, _, hg, _⟩
  · simp [Value.ownBlock] at hq
  · obtain rfl : q = g := by simpa [Value.ownBlock] using hq.symm
    exact ⟨cur, hg⟩
theorem own_ne {w : World} {base e sz n : Nat} {v : Value} {xs : List Value} (h : w.ownsRow base e sz v n xs) {q T : Nat} {cs : Array Value} {fz : Nat × Nat} (hc : w.heap[q]? = some (.cells cs T fz)) (hT : T ≠ e) : v.ownBlock ≠ some q := fun hq => by
  obtain ⟨cur, hg⟩ := own_type h hq
  rw [hg] at hc
  simp at hc
  exact hT hc.2.1.symm
theorem Yr.ne {w : World} {base e sz n g m : Nat} {v : Value} {xs : List Value} {ys : List Int} (h : w.ownsRow base e sz v n xs) (hy : Yr w g m ys) (hT : e ≠ 5) : v.ownBlock ≠ some g := by
  obtain ⟨cur, hc⟩ := hy.blk
  exact own_ne h hc (Ne.symm hT)
/-- append of one slice to a row of slices of one's own. -/
theorem wpList_appSl {w : World} {ops : Array Oper} {rest : List Oper} {o : Oper} {act : Act} {Q : Exit → Act → World → Prop} (hgd : o.guard = none) (s x : Operand)
    (ho : o.op = .call { callee := .builtin .append, args := #[s, x], argTypes := #[80, 80] })
    (base : Nat) (v : Value) (n : Nat) (xs : List Value) (hs : act.eval s = v) (hown : w.ownsRow base 35 1 v n xs) (g : Nat) (u : Value) (hx : act.eval x = .slice (some ⟨g, 0, none⟩) 1 1)
    (hg : w.cell? ⟨g, 0, none⟩ = some u) (h1 : u.oneCell' = true) (hlen : n ≤ 1000000000) (hbase : base ≤ w.heap.size)
    (h : ∀ v' w', w'.ownsRow base 35 1 v' (n + 1) (xs ++ [u]) → w.grownBy w' v.ownBlock → (v'.ownBlock = v.ownBlock ∨ v'.ownBlock = some w.heap.size) → wpList Tryz.prog ops Q rest (act.put o.dst v') w') : wpList Tryz.prog ops Q (o :: rest) act w := by
  obtain ⟨i, hi, hz0, hz1, hz2⟩ := info_parts infoV
  refine wpList_append_own_at _ hgd s x 80 ho base 35 i _ 1 24 Tryz.underlying80 hi hz0 hz1 hz2 rfl (by decide) v n xs hs hown ⟨g, 0, none⟩ 1 1 [u] hx rfl ?c1 ?c2 (by unfold maxLen; omega) (by omega) hbase ?_
  case c1 =>
    intro j y hj
    cases j with
    | zero => simp at hj; subst hj; rw [Addr.add_lit]; exact hg
    | succ j => simp at hj
  case c2 =>
    intro y hy
    rw [List.mem_singleton] at hy
    subst hy
    exact h1
  intro v' w' k1 k2 _ k4
  exact h v' w' k1 k2 k4
theorem step_appSet {w : World} {ops : Array Oper} {o : Oper} {act : Act} {K : Act → World → Prop} {Q : Exit → Act → World → Prop} {E : Prop} (hgd : o.guard = none) (s x : Operand)
    (ho : o.op = .call { callee := .builtin .append, args := #[s, x], argTypes := #[36, 36] })
    (base : Nat) (v : Value) (ds : List SD) (hs : act.eval s = v) (hown : w.ownsRow base 44 3 v ds.length (sds ds)) (g : Nat) (d : SD) (hx : act.eval x = .slice (some ⟨g, 0, none⟩) 1 1)
    (hg : ∀ j u, (sdc d)[j]? = some u → w.cell? ⟨g, j, none⟩ = some u) (hlen : ds.length ≤ 1000000000) (hbase : base ≤ w.heap.size) (n' : Nat) (hn' : Hid (ds.length + 1 = n'))
    (h : ∀ g' cap w', Hid (w'.ownsRow base 44 3 (.slice (some ⟨g', 0, none⟩) n' cap) (ds ++ [d]).length (sds (ds ++ [d]))) → Hid (w.grownBy w' v.ownBlock) → Hid (v.ownBlock = some g' ∨ g' = w.heap.size) → K (act.put o.dst (.slice (some ⟨g', 0, none⟩) n' cap)) w') : if Region.wanted o (yielded ops act.tmps) = true then Oper.wp Tryz.prog o act w K Q else E := by
  obtain ⟨i, hi, hz0, hz1, hz2⟩ := info_parts infoS
  refine step_append_lies _ hgd s x 36 ho base 44 i _ 3 56 Tryz.underlying36 hi hz0 hz1 hz2 rfl (by decide) v ds.length (sds ds) hs hown ⟨g, 0, none⟩ 1 1 (sdc d) hx rfl ?c1 ?c2 (by decide) (by unfold maxLen; omega) (by omega) hbase _ rfl ?_
  case c1 =>
    intro j u hj
    rw [Addr.add_lit, Nat.zero_add]
    exact hg j u hj
  case c2 =>
    intro u hu
    exact sds_one [d] u (by simpa [sds] using hu)
  intro g' cap w' h1 h2 h3 _
  rw [hn'.out] at h1 ⊢
  refine h g' cap w' ?_ h2 h3
  show w'.ownsRow _ _ _ _ _ _
  rw [List.length_append, List.length_singleton, sds_app, hn'.out]
  simpa [sds] using h1
theorem heap3 {W : World} {m i : Nat} {a b c u : Value} {T : TypeId} (h : W.heap[m]? = some (.cells #[a, b, c] T (0, 0))) : (W.setCell ⟨m, i, none⟩ u).heap[m]? = some (.cells (#[a, b, c].setIfInBounds i u) T (0, 0)) := by
  simp [World.setCell, Array.getElem?_modify, h]
theorem own_at13 {w w' : World} {base e sz n : Nat} {v : Value} {xs : List Value} (h : w.ownsRow base e sz v n xs) (hk : ∀ q, v.ownBlock = some q → w'.heap[q]? = w.heap[q]?) : w'.ownsRow base e sz v n xs := by
  rcases h with ⟨h1, h2 | ⟨g, cap, cur, rfl, hb, hg, hr⟩⟩
  · exact ⟨h1, .inl h2⟩
  · exact ⟨h1, .inr ⟨g, cap, cur, rfl, hb, (hk g rfl).trans hg, hr⟩⟩
/-- What an append to one of the rows and the store behind it leave. -/
structure Ap (w0 W W6 : World) (m : Nat) (vx : Value) : Prop where
  same : ∀ x, x < W.heap.size → x ≠ m → vx.ownBlock ≠ some x → W6.heap[x]? = W.heap[x]?
  size : W.heap.size ≤ W6.heap.size
  os : W6.os = W.os
  tape : W6.tape = W.tape
  output : W6.output = W.output
theorem ap_ {w0 W W3 w5 : World} {m i e sz n : Nat} {vx v5 : Value} {xs : List Value} {cs : Array Value} (hv : W.heap[m]? = some (.cells cs 82 (0, 0))) (ho : W.ownsRow w0.heap.size e sz vx n xs) (he : e ≠ 82) (hB : Below W.heap.size W W3) (hg : W3.grownBy w5 vx.ownBlock) :
    w5.heap[m]? = some (.cells cs 82 (0, 0)) ∧ Ap w0 W (w5.setCell ⟨m, i, none⟩ v5) m vx := by
  have hm : m < W.heap.size := (Array.getElem?_eq_some_iff.1 hv).1
  have h3 := hB.size
  have hne : vx.ownBlock ≠ some m := own_ne ho hv (Ne.symm he)
  have hlow : ∀ x, x < W.heap.size → vx.ownBlock ≠ some x → w5.heap[x]? = W.heap[x]? := fun x hx hn => (hg.block x (by omega) (fun e => hn e.symm)).trans (hB.block x hx)
  refine ⟨(hlow m hm hne).trans hv, ⟨fun x hx h1 h2 => (Below.heap_setCell _ _ _ _ h1).trans (hlow x hx h2), ?_, hg.os.trans hB.os, hg.tape.trans hB.tape, hg.output.trans hB.output⟩⟩
  have := hg.size
  simp [World.setCell]
  omega
theorem Ln.yne {w0 W : World} {m g n : Nat} {vs vk vv : Value} {ss : List SD} {ks ls es : List LE} {ys : List Int} (h : Ln w0 W m vs vk vv ss ks ls es) (hy : Yr W g n ys) : g ≠ m ∧ vs.ownBlock ≠ some g ∧ vk.ownBlock ≠ some g ∧ vv.ownBlock ≠ some g := by
  refine ⟨fun e => ?_, Yr.ne h.os hy (by decide), Yr.ne h.ok hy (by decide), Yr.ne h.ov hy (by decide)⟩
  obtain ⟨cur, hc⟩ := hy.blk
  rw [e, h.var] at hc
  simp at hc
theorem Ln.one {w0 W : World} {m : Nat} {vs vk vv : Value} {ss : List SD} {ks ls es : List LE} (h : Ln w0 W m vs vk vv ss ks ls es) : (∀ q, vs.ownBlock = some q → vk.ownBlock ≠ some q ∧ vv.ownBlock ≠ some q ∧ q ≠ m) ∧ (∀ q, vk.ownBlock = some q → q ≠ m ∧ w0.heap.size ≤ q) ∧ (∀ q, vv.ownBlock = some q → q ≠ m ∧ w0.heap.size ≤ q) ∧ (∀ q, vs.ownBlock = some q → w0.heap.size ≤ q) := by
  refine ⟨fun q hq => ?_, fun q hq => ?_, fun q hq => ?_, fun q hq => (h.os.lt q hq).1⟩
  · obtain ⟨cur, hc⟩ := own_type h.os hq
    refine ⟨own_ne h.ok hc (by decide), own_ne h.ov hc (by decide), fun e => ?_⟩
    rw [e, h.var] at hc
    simp at hc
  · obtain ⟨cur, hc⟩ := own_type h.ok hq
    exact ⟨fun e => by rw [e, h.var] at hc; simp at hc, (h.ok.lt q hq).1⟩
  · obtain ⟨cur, hc⟩ := own_type h.ov hq
    exact ⟨fun e => by rw [e, h.var] at hc; simp at hc, (h.ov.lt q hq).1⟩
theorem Ap.bel {w0 W W6 : World} {m : Nat} {vx : Value} (h : Ap w0 W W6 m vx) (hb : Below w0.heap.size w0 W) (hm : w0.heap.size ≤ m) (hv : ∀ q, vx.ownBlock = some q → w0.heap.size ≤ q) : Below w0.heap.size w0 W6 :=
  hb.trans ⟨h.os, h.tape, h.output, h.size, fun x hx => h.same x (by have := hb.size; omega) (by omega) (fun e => by have := hv x e; omega)⟩
theorem LY.ap {w0 W W6 : World} {m : Nat} {vs vk vv vx : Value} {ss : List SD} {ks ls es : List LE} {e : LE} (h : Ln w0 W m vs vk vv ss ks ls es) (hx : vx = vs ∨ vx = vk ∨ vx = vv) (ha : Ap w0 W W6 m vx) (hy : LY w0.heap.size W e) : LY w0.heap.size W6 e := by
  have h1 := h.yne hy.k
  have h2 := h.yne hy.v
  have hn1 : vx.ownBlock ≠ some e.gk := by rcases hx with rfl | rfl | rfl; exact h1.2.1; exact h1.2.2.1; exact h1.2.2.2
  have hn2 : vx.ownBlock ≠ some e.gv := by rcases hx with rfl | rfl | rfl; exact h2.2.1; exact h2.2.2.1; exact h2.2.2.2
  exact hy.same (ha.same _ hy.k.lt h1.1 hn1) (ha.same _ hy.v.lt h2.1 hn2)
theorem set_own {w : World} {base e sz n m i : Nat} {v u : Value} {xs : List Value} {cs : Array Value} (h : w.ownsRow base e sz v n xs) (hv : w.heap[m]? = some (.cells cs 82 (0, 0))) (he : e ≠ 82) : (w.setCell ⟨m, i, none⟩ u).ownsRow base e sz v n xs :=
  own_at13 h fun q hq => Below.heap_setCell _ _ _ _ (fun f => own_ne h hv (Ne.symm he) (by rw [hq]; exact congrArg some f))
theorem Ln.appK {w0 W W3 w5 : World} {m : Nat} {vs vk vv v5 : Value} {ss : List SD} {ks ls es : List LE} {e : LE} (h : Ln w0 W m vs vk vv ss ks ls es) (hB : Below W.heap.size W W3) (hg : W3.grownBy w5 vk.ownBlock) (ho : w5.ownsRow w0.heap.size 35 1 v5 (ks.length + 1) (ks.map leK ++ [leK e])) (hl : v5.ownBlock = vk.ownBlock ∨ v5.ownBlock = some W3.heap.size) :
    Ln w0 (w5.setCell ⟨m, 1, none⟩ v5) m vs v5 vv ss (ks ++ [e]) ls es := by
  obtain ⟨hv5, ap⟩ := ap_ (w0 := w0) (i := 1) (v5 := v5) h.var h.ok (by decide) hB hg
  obtain ⟨o1, o2, o3, o4⟩ := h.one
  have hs3 := hB.size
  refine ⟨by simpa using heap3 (i := 1) (u := v5) hv5, ?_, ?_, ?_, fun e he => (h.y e he).ap h (.inr (.inl rfl)) ap, h.nd, fun q hq hq' => ?_, ap.bel h.bel h.lo (fun q hq => (o2 q hq).2), h.lo⟩
  · exact own_at13 h.os fun q hq => ap.same q (h.os.lt q hq).2 (o1 q hq).2.2 (o1 q hq).1
  · have := set_own (i := 1) (u := v5) ho hv5 (by decide)
    rw [List.length_append, List.length_singleton, List.map_append]
    exact this
  · exact own_at13 h.ov fun q hq => ap.same q (h.ov.lt q hq).2 (o3 q hq).1 (fun f => h.kv q f hq)
  · rcases hl with f | f
    · exact h.kv q (f.symm.trans hq) hq'
    · rw [hq] at f
      have := Option.some.inj f
      have := (h.ov.lt q hq').2
      omega
theorem Ln.appV {w0 W W3 w5 : World} {m : Nat} {vs vk vv v5 : Value} {ss : List SD} {ks ls es : List LE} {e : LE} (h : Ln w0 W m vs vk vv ss ks ls es) (hB : Below W.heap.size W W3) (hg : W3.grownBy w5 vv.ownBlock) (ho : w5.ownsRow w0.heap.size 35 1 v5 (ls.length + 1) (ls.map leV ++ [leV e])) (hl : v5.ownBlock = vv.ownBlock ∨ v5.ownBlock = some W3.heap.size) :
    Ln w0 (w5.setCell ⟨m, 2, none⟩ v5) m vs vk v5 ss ks (ls ++ [e]) es := by
  obtain ⟨hv5, ap⟩ := ap_ (w0 := w0) (i := 2) (v5 := v5) h.var h.ov (by decide) hB hg
  obtain ⟨o1, o2, o3, o4⟩ := h.one
  have hs3 := hB.size
  refine ⟨by simpa using heap3 (i := 2) (u := v5) hv5, ?_, ?_, ?_, fun e he => (h.y e he).ap h (.inr (.inr rfl)) ap, h.nd, fun q hq hq' => ?_, ap.bel h.bel h.lo (fun q hq => (o3 q hq).2), h.lo⟩
  · exact own_at13 h.os fun q hq => ap.same q (h.os.lt q hq).2 (o1 q hq).2.2 (o1 q hq).2.1
  · exact own_at13 h.ok fun q hq => ap.same q (h.ok.lt q hq).2 (o2 q hq).1 (h.kv q hq)
  · have := set_own (i := 2) (u := v5) ho hv5 (by decide)
    rw [List.length_append, List.length_singleton, List.map_append]
    exact this
  · rcases hl with f | f
    · exact h.kv q hq (f.symm.trans hq')
    · rw [hq'] at f
      have := Option.some.inj f
      have := (h.ok.lt q hq).2
      omega
theorem Ln.appS {w0 W W3 w5 : World} {m : Nat} {vs vk vv v5 : Value} {ss : List SD} {ks ls es : List LE} {d : SD} (h : Ln w0 W m vs vk vv ss ks ls es) (hB : Below W.heap.size W W3) (hg : W3.grownBy w5 vs.ownBlock) (ho : w5.ownsRow w0.heap.size 44 3 v5 (ss ++ [d]).length (sds (ss ++ [d]))) :
    Ln w0 (w5.setCell ⟨m, 0, none⟩ v5) m v5 vk vv (ss ++ [d]) ks ls es := by
  obtain ⟨hv5, ap⟩ := ap_ (w0 := w0) (i := 0) (v5 := v5) h.var h.os (by decide) hB hg
  obtain ⟨o1, o2, o3, o4⟩ := h.one
  refine ⟨by simpa using heap3 (i := 0) (u := v5) hv5, set_own (i := 0) (u := v5) ho hv5 (by decide), ?_, ?_, fun e he => (h.y e he).ap h (.inl rfl) ap, h.nd, h.kv, ap.bel h.bel h.lo o4, h.lo⟩
  · exact own_at13 h.ok fun q hq => ap.same q (h.ok.lt q hq).2 (o2 q hq).1 (fun f => (o1 q f).1 hq)
  · exact own_at13 h.ov fun q hq => ap.same q (h.ov.lt q hq).2 (o3 q hq).1 (fun f => (o1 q f).2.1 hq)
theorem Ln.add {w0 W : World} {m : Nat} {vs vk vv : Value} {ss : List SD} {ks ls es : List LE} {e : LE} (h : Ln w0 W m vs vk vv ss ks ls es) (hy : LY w0.heap.size W e) (B : Nat) (hB : ∀ e ∈ es, e.gk < B ∧ e.gv < B) (h1 : B ≤ e.gk) (h2 : B ≤ e.gv) (h3 : e.gk ≠ e.gv) : Ln w0 W m vs vk vv ss ks ls (es ++ [e]) := by
  refine ⟨h.var, h.os, h.ok, h.ov, fun x hx => ?_, ?_, h.kv, h.bel, h.lo⟩
  · rcases List.mem_append.1 hx with hx | hx
    · exact h.y x hx
    · rw [List.mem_singleton] at hx; subst hx; exact hy
  · rw [List.flatMap_append, List.nodup_append]
    refine ⟨h.nd, by simp [leB, h3], fun a ha b hb => ?_⟩
    obtain ⟨x, hx, hxa⟩ := List.mem_flatMap.1 ha
    have hlt := hB x hx
    simp [leB] at hxa hb
    rcases hxa with rfl | rfl <;> rcases hb with rfl | rfl <;> omega
end Go.Proofs.YteeapmcpbmjpmaaGreat
