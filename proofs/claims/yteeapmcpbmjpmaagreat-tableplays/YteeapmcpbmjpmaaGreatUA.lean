import Derived.Test.YteeapmcpbmjpmaaGreatTO
import Derived.Maps.OwnIn
namespace Go.Proofs.YteeapmcpbmjpmaaGreat
set_option maxRecDepth 100000
open Go.RowKit Go.Shelf Go.Maps
set_option linter.unusedVariables false
attribute [local go_sem] Oper.semAt_some

theorem with_act {F : Fence} {n : Nat} {P : Program} {c : Code} {Q : Exit → Act → World → Prop} {a : Act} {w : World} (h : ∀ A, A = a → c.wpIn F n P Q A w) : c.wpIn F n P Q a w := h a rfl
/-- The sets that Bytes has gathered. -/
structure Bg (w : World) (B2 : Nat) (M : Tab) (k : Nat) (W : World) (v : Value) (ds : List SD) : Prop where
  var : W.heap[w.heap.size]? = some (.cells #[v] 36 (0, 0))
  own : W.ownsRow B2 44 3 v ds.length (sds ds)
  is : ds.map (·.s) = asS (M.take k)
  sv : ∀ d ∈ ds, SV W (fun x => w.heap.size < x ∧ v.ownBlock ≠ some x) d
  bel : Below w.heap.size w W
theorem Bg.below {w W W' : World} {B2 : Nat} {M : Tab} {k : Nat} {v : Value} {ds : List SD} (h : Bg w B2 M k W v ds) (hb : Below W.heap.size W W') : Bg w B2 M k W' v ds :=
  ⟨(hb.block _ (Array.getElem?_eq_some_iff.1 h.var).1).trans h.var, own_bel h.own hb, h.is, fun d hd => (h.sv d hd).below hb, bel_bel h.bel h.bel.size hb⟩
theorem own_put {W : World} {base e sz n l : Nat} {v : Value} {xs : List Value} {o o' : Obj} (h : W.ownsRow base e sz v n xs) (ho : W.heap[l]? = some o) (hc : o.isCells = false) : (W.putObj l o').ownsRow base e sz v n xs := by
  refine h.kept (grownBy_putObj' W l o') ?_
  rcases h.2 with ⟨rfl, _⟩ | ⟨g, cap, cur, rfl, _, hg, _⟩
  · exact .inl rfl
  · right
    intro f
    obtain rfl : g = l := by simpa [Value.ownBlock] using f
    rw [hg] at ho
    cases ho
    cases hc
theorem vs_put {W : World} {V : Nat → Prop} {a : Option Addr} {n c l : Nat} {v : List Int} {o o' : Obj} (h : Vs W V a n c v) (ho : W.heap[l]? = some o) (hc : o.isCells = false) : Vs (W.putObj l o') V a n c v := by
  refine ⟨h.bs.same_block fun ad e hn => ?_, h.nc, h.cm, h.nil, h.lies⟩
  refine World.putObj_heap_other (fun f => ?_)
  rcases h.bs.2.2 with h0 | ⟨b, off, e', hcell⟩
  · omega
  · rw [e] at e'
    obtain rfl := Option.some.inj e'
    have := hcell 0 hn
    subst f
    simp only [World.cell?, ho] at this
    cases o <;> simp [Obj.isCells] at hc <;> simp at this
theorem Bg.put {w W : World} {B2 : Nat} {M : Tab} {k l : Nat} {v : Value} {ds : List SD} {o o' : Obj} (h : Bg w B2 M k W v ds) (hl : w.heap.size < l) (ho : W.heap[l]? = some o) (hc : o.isCells = false) : Bg w B2 M k (W.putObj l o') v ds :=
  ⟨(World.putObj_heap_other (by omega)).trans h.var, own_put h.own ho hc, h.is, fun d hd => ⟨vs_put (h.sv d hd).1 ho hc, vs_put (h.sv d hd).2 ho hc⟩, h.bel.trans ⟨rfl, rfl, rfl, (grownBy_putObj' W l o').size, fun x hx => World.putObj_heap_other (by omega)⟩⟩
theorem wpListIn_appSet {F : Fence} {nF : Nat} {w : World} {ops : Array Oper} {rest : List Oper} {o : Oper} {act : Act} {Q : Exit → Act → World → Prop} (hgd : o.guard = none) (s x : Operand)
    (ho : o.op = .call { callee := .builtin .append, args := #[s, x], argTypes := #[36, 36] })
    (base : Nat) (v : Value) (ds : List SD) (hs : act.eval s = v) (hown : w.ownsRow base 44 3 v ds.length (sds ds)) (g : Nat) (d : SD) (hx : act.eval x = .slice (some ⟨g, 0, none⟩) 1 1)
    (hg : ∀ j u, (sdc d)[j]? = some u → w.cell? ⟨g, j, none⟩ = some u) (hlen : ds.length ≤ 1000000000) (hbase : base ≤ w.heap.size)
    (h : ∀ v' w', w'.ownsRow base 44 3 v' (ds ++ [d]).length (sds (ds ++ [d])) → w.grownBy w' v.ownBlock → (v'.ownBlock = v.ownBlock ∨ v'.ownBlock = some w.heap.size) → wpListIn F nF Tryz.prog ops Q rest (act.put o.dst v') w') : wpListIn F nF Tryz.prog ops Q (o :: rest) act w := by
  obtain ⟨i, hi, hz0, hz1, hz2⟩ := info_parts infoS
  refine wpListIn_append_own_at _ hgd s x 36 ho base 44 i _ 3 56 Tryz.underlying36 hi hz0 hz1 hz2 rfl (by decide) v ds.length (sds ds) hs hown ⟨g, 0, none⟩ 1 1 (sdc d) hx rfl ?c1 ?c2 (by unfold maxLen; omega) (by omega) hbase ?_
  case c1 =>
    intro j u hj
    rw [Addr.add_lit, Nat.zero_add]
    exact hg j u hj
  case c2 =>
    intro u hu
    exact sds_one [d] u (by simpa [sds] using hu)
  intro v' w' h1 h2 _ h4
  refine h v' w' ?_ h2 h4
  rw [List.length_append, List.length_singleton, sds_app]
  simpa [sds] using h1
theorem own_monoT {w : World} {B B' n sz e : Nat} {v : Value} {xs : List Value} (h : w.ownsRow B e sz v n xs) (hb : B' ≤ B) : w.ownsRow B' e sz v n xs := by
  obtain ⟨h1, h2⟩ := h
  refine ⟨h1, ?_⟩
  rcases h2 with h2 | ⟨g, cap, cur, e, hg, r⟩
  · exact .inl h2
  · exact .inr ⟨g, cap, cur, e, Nat.le_trans hb hg, r⟩
theorem own_two {W : World} {B B' e e' sz sz' n n' : Nat} {v u : Value} {xs ys : List Value} (h : W.ownsRow B e sz v n xs) (h' : W.ownsRow B' e' sz' u n' ys) (hne : e ≠ e') {q : Nat} (hq : u.ownBlock = some q) : v.ownBlock ≠ some q := by
  intro f
  rcases h'.2 with ⟨rfl, _⟩ | ⟨g, cap, cur, rfl, _, hg, _⟩
  · simp [Value.ownBlock] at hq
  · obtain rfl : g = q := by simpa [Value.ownBlock] using hq
    rcases h.2 with ⟨rfl, _⟩ | ⟨g', cap', cur', rfl, _, hg', _⟩
    · simp [Value.ownBlock] at f
    · obtain rfl : g' = g := by simpa [Value.ownBlock] using f
      rw [hg] at hg'
      simp at hg'
      exact hne hg'.2.symm
theorem Vs.own {W : World} {B n : Nat} {v : Value} {zs : List Int} (h : W.ownsRow B 5 1 v n (cells zs)) (hb : Okb zs) : ∃ a c, v = .slice a n c ∧ Vs W (fun x => v.ownBlock = some x) a n c zs := by
  obtain ⟨a, c, rfl, hv⟩ := Vs.ofOwn h hb
  refine ⟨a, c, rfl, hv.bs, hv.nc, hv.cm, hv.nil, fun ad e hn => ?_⟩
  obtain ⟨g, cap', e', _⟩ := own_head h hn
  obtain ⟨rfl, rfl⟩ : a = some ⟨g, 0, none⟩ ∧ c = cap' := by simpa using e'
  obtain rfl := Option.some.inj e
  rfl
set_option maxHeartbeats 4000000 in
theorem bytes_ (t b : Nat) (V : Nat → Prop) (M : Tab) (w : World) (h : Tw w t b V M) (hML : M.length ≤ 100000000) :
    Calls Tryz.prog 29 #[.pointer (some ⟨t, 0, none⟩)] w fun e w' => ∃ v, e = .returned v ∧ w'.ownsRow w.heap.size 5 1 v (enc (asS M)).length (cells (enc (asS M))) ∧ Below w.heap.size w w' := by
  have hmx : Tryz.prog.follows .mixedOrders = true := by kernel_rfl
  have h' : Tw w t b (fun x => V x ∧ x < w.heap.size) M := h.wide fun x hx hv => ⟨hv, hx⟩
  have B0 : Below w.heap.size w (w.alloc (.cells #[.slice none 0 0] 36)) := (Below.refl _ _).alloc (Nat.le_refl _) _
  have k1 := all_ t b _ M _ (h'.below B0) (by omega)
  have HT := hid h'
  have HV0 := hid (heap_alloc_new w (.cells #[.slice none 0 0] 36))
  have HB0 := hid B0
  have HS0 : Hid ((w.alloc (.cells #[.slice none 0 0] 36)).heap.size = w.heap.size + 1) := by simp [Hid]
  clear h h' B0
  refine (callsIn_wide (n := 9)).1 ?_
  refine callsIn_of_wp_marks Tryz.func29 rfl trivial ?_ rfl
  simp only [Tryz.ntmps29, List.size_toArray, List.length_cons, List.length_nil, Nat.reduceAdd, Nat.reduceSub, Array.replicate_succ, Array.replicate_zero, List.push_toArray, List.append_toArray, List.nil_append, List.cons_append]
  gi_wp2_with (refine ⟨trivial, ?_⟩; gi_at_call 42; refine (callsIn_wide.2 k1).mono ?_; rintro e w2 ⟨gl, a, n, c, hn, rfl, gd2, hgl, g2⟩)
  have HGD : Hid (Gd w2 (fun x => ((V x ∧ x < w.heap.size) ∨ w.heap.size + 1 ≤ x) ∧ x < w2.heap.size) gl a n c M) := by
    refine ⟨gd2.cell, gd2.rl.wide fun x hx h => ⟨by rw [HS0.out] at h; exact h, hx⟩, ⟨.inr (by rw [HS0.out] at hgl; exact hgl), gd2.lt⟩⟩
  have HB2 : Hid (Below w.heap.size w w2) := HB0.out.trans ⟨g2.os, g2.tape, g2.output, g2.size, fun x hx => g2.block x (by rw [HS0.out]; omega)⟩
  have HV2 : Hid (w2.heap[w.heap.size]? = some (.cells #[.slice none 0 0] 36 (0, 0))) := (g2.block w.heap.size (by rw [HS0.out]; omega)).trans HV0.out
  have hs2 : w.heap.size + 1 ≤ w2.heap.size := by have := g2.size; rw [HS0.out] at this; exact this
  have HN := hid hn
  clear gd2 g2 hgl k1 hn HV0 HB0
  obtain ⟨V2, HVV⟩ : ∃ V2 : Nat → Prop, Hid (V2 = fun x => ((V x ∧ x < w.heap.size) ∨ w.heap.size + 1 ≤ x) ∧ x < w2.heap.size) := ⟨_, rfl⟩
  rw [← HVV.out] at HGD
  have hV2 : ∀ x, V2 x → x < w2.heap.size ∧ x ≠ w.heap.size := fun x hx => by
    rw [HVV.out] at hx
    refine ⟨hx.2, ?_⟩
    rcases hx.1 with h | h <;> omega
  have HV2L := hid hV2
  clear HVV hV2
  refine with_act (fun A hA => ?_)
  refine wpIn_range12 (α := Value × Value) (n := 9) (by decide) (gf := 61) (lb := #[.pointer (some ⟨gl, 0, none⟩)]) (by rw [hA]; rfl) (enters_of Tryz.func61 (by kernel_rfl) rfl) (encs := fun x => #[x.1, x.2]) (Px13 M w2.heap.size) (fun _ => rfl) (fun _ => False) (Kt V2) (fun _ h => h.elim) (fun h k => h.trans k) (Kt.put fun b hb => (HV2L.out b hb).1)
    (fun xs _ => xs.length = M.length) (fun _ _ => True) (fun _ _ _ _ h _ _ => h) (fun _ _ _ _ h _ _ => h)
    (fun l J Jx W1 hB1 hJf hY h0 => all1In_ 8 (by decide) l gl w2.heap.size a n c V2 M HT.out.tok HN.out (by have := HN.out; omega) J Jx (fun pre A B hj hb => hJf pre A B hj (Fr.ofB hb)) hY W1 hB1.size h0 (HGD.out.below hB1))
    (fun pre W => ∃ v ds, Bg w w2.heap.size M pre.length W v ds ∧ w2.heap.size ≤ W.heap.size) (fun _ _ => False)
    (fun pre W l o' h hl ⟨o, ho, hc⟩ => by
      obtain ⟨v, ds, hb, hz⟩ := h
      exact ⟨v, ds, hb.put (by omega) ho hc, Nat.le_trans hz (grownBy_putObj' W l o').size⟩)
    (fun pre W o h => by
      obtain ⟨v, ds, hb, hz⟩ := h
      exact ⟨v, ds, hb.below ((Below.refl _ W).alloc (Nat.le_refl _) o), by simp; omega⟩)
    (fun _ _ _ _ h _ _ => h)
    (fun pre A B h hf => by
      obtain ⟨v, ds, hb, hz⟩ := h
      exact ⟨v, ds, hb.below ⟨hf.os, hf.tape, hf.output, hf.size, fun k hk => hf.same k hk id⟩, Nat.le_trans hz hf.size⟩)
    ⟨.slice none 0 0, [], ⟨HV2.out, World.ownsRow_nil _ _ _ _, rfl, fun d hd => (by simp at hd), HB2.out⟩, Nat.le_refl _⟩
    (fun pre x a' W => Px13 M w2.heap.size pre x W ∧ a' = { tmps := (((A.tmps.setIfInBounds 10 x.1).setIfInBounds 11 x.2).setIfInBounds 4 x.1).setIfInBounds 5 x.2, defers := [] })
    (fun pre x a' W l o' h hl ⟨o, ho, hc⟩ => by
      obtain ⟨⟨h1, B, B2', h2, h3, h4, h5, h6⟩, h7⟩ := h
      exact ⟨⟨h1, B, B2', h2, own_put h3 ho hc, h4, h5, own_put h6 ho hc⟩, h7⟩)
    ?assign ?body ?done ?stop
  case assign =>
    subst hA
    rintro lp pre x W K hI hP hK
    have HI := hid hI
    have HP := hid hP
    clear hI hP
    gi_wp2
    refine hK _ _ (KeepsFrom.refl _ _) ⟨Nat.le_refl _, fun _ _ => rfl, fun _ _ _ e => e⟩ HI.out ⟨HP.out, ?_⟩
    simp only [List.setIfInBounds_toArray, List.set_cons_zero, List.set_cons_succ]
  case body =>
    subst hA
    rintro lp pre ⟨kv, vv⟩ a' W hlp ⟨v, ds, hb, hz⟩ ⟨hP, ha⟩
    simp only [List.setIfInBounds_toArray, List.set_cons_zero, List.set_cons_succ] at ha
    subst ha
    obtain ⟨hlt, B, B2', hB, o1, hBB, hkB, o2⟩ := hP
    have hm := tab_mem hlt
    have HOK : Hid (OkS ⟨(M.getD pre.length ([], [])).1, (M.getD pre.length ([], [])).2, false⟩) := ⟨(HT.out.tok.key _ hm).1, (HT.out.tok.val _ hm).1⟩
    have HTK : Hid (asS (M.take (pre.length + 1)) = asS (M.take pre.length) ++ [⟨(M.getD pre.length ([], [])).1, (M.getD pre.length ([], [])).2, false⟩]) := by
      show _ = _
      unfold asS
      rw [List.take_succ_eq_append_getElem hlt, List.map_append]
      simp [List.getD, hlt]
    obtain ⟨P, HPP⟩ : ∃ P, Hid (M.getD pre.length ([], []) = P) := ⟨_, rfl⟩
    simp only at o1 o2 hkB
    rw [HPP.out] at HOK HTK o1 o2
    obtain ⟨ka, kc, rfl, vk⟩ := Vs.own o1 HOK.out.1
    obtain ⟨va, vc, rfl, vv⟩ := Vs.own o2 HOK.out.2
    obtain ⟨K, U⟩ := P
    simp only at o1 o2 vk vv HOK HTK hkB
    have hdl : ds.length ≤ 1000000000 := by
      have h1 := congrArg List.length hb.is
      rw [List.length_map] at h1
      rw [h1]
      simp [asS]
      omega
    have HKQ : Hid (∀ q, (Value.slice ka K.length kc).ownBlock = some q → w2.heap.size ≤ q ∧ q < W.heap.size ∧ v.ownBlock ≠ some q) := fun q e => ⟨Nat.le_trans hB (o1.lt q e).1, (o1.lt q e).2, own_two hb.own o1 (by decide) e⟩
    have HUQ : Hid (∀ q, (Value.slice va U.length vc).ownBlock = some q → w2.heap.size ≤ q ∧ q < W.heap.size ∧ v.ownBlock ≠ some q) := fun q e => ⟨Nat.le_trans (Nat.le_trans hB hBB) (o2.lt q e).1, (o2.lt q e).2, own_two hb.own o2 (by decide) e⟩
    have HVK := hid vk
    have HVU := hid vv
    have hvar := hb.var
    have cv : W.cell? ⟨w.heap.size, 0, none⟩ = some v := by rw [cell_of_row W w.heap.size 0 _ 36 (0, 0) hvar]; rfl
    obtain ⟨kn, HKN⟩ : ∃ x, Hid (K.length = x) := ⟨_, rfl⟩
    obtain ⟨un, HUN⟩ : ∃ x, Hid (U.length = x) := ⟨_, rfl⟩
    obtain ⟨o, HOB⟩ : ∃ o, Hid (Obj.cells #[.slice ka kn kc, .slice va un vc, .bool false] 44 = o) := ⟨_, rfl⟩
    have HO4 := hid (hb.own.alloc o)
    have HBA := hid ((Below.refl W.heap.size W).alloc (Nat.le_refl _) o)
    have HNW : Hid (∀ j u, (sdc ⟨ka, kc, va, vc, ⟨K, U, false⟩⟩)[j]? = some u → (W.alloc o).cell? ⟨W.heap.size, j, none⟩ = some u) := fun j u hj => by
      rw [cell_of_row (W.alloc o) W.heap.size j _ 44 (0, 0) ((heap_alloc_new W o).trans (by rw [← HOB.out]))]
      simp only [sdc, HKN.out, HUN.out] at hj
      simpa using hj
    have HSZ4 : Hid (w2.heap.size ≤ (W.alloc o).heap.size) := by show _ ≤ _; simp; omega
    have HSA : Hid ((W.alloc o).heap.size = W.heap.size + 1) := by simp [Hid]
    have HVA : Hid ((W.alloc o).heap[w.heap.size]? = some (.cells #[v] 36 (0, 0))) := (HBA.out.block _ (Array.getElem?_eq_some_iff.1 hvar).1).trans hvar
    have HB := hid hb
    rw [HKN.out, HUN.out]
    rw [← HOB.out] at HO4 HBA HNW HSZ4 HSA HVA
    clear o1 o2 vk vv hb hm hvar hkB hBB hB
    gi_wp2_with (first | (gi_at_builtin; refine wpListIn_appSet rfl _ _ rfl w2.heap.size v ds rfl (by exact HO4.out) W.heap.size ⟨ka, kc, va, vc, ⟨K, U, false⟩⟩ rfl (by exact HNW.out) hdl HSZ4.out ?_; intro v6 w6 o6 g6 l6; obtain ⟨n6, hn6⟩ : ∃ n6, Hid ((ds ++ [(⟨ka, kc, va, vc, ⟨K, U, false⟩⟩ : SD)]).length = n6) := ⟨_, rfl⟩; rw [hn6.out] at o6; have HO6 := hid o6; have HG6 := hid g6; have HL6 := hid l6; have HV6 : Hid (w6.heap[w.heap.size]? = some (.cells #[v] 36 (0, 0))) := (apq HO4.out HVA.out (by decide) g6); have c6 : w6.cell? ⟨w.heap.size, 0, none⟩ = some v := (by rw [cell_of_row w6 w.heap.size 0 _ 36 (0, 0) HV6.out]; rfl); have f6 : w6.frozen? ⟨w.heap.size, 0, none⟩ = false := (by simp [World.frozen?, HV6.out]); obtain ⟨a6, cc6, hv6, -⟩ := own_addr o6; subst hv6; clear o6 g6 l6 HNW) | fail)
    obtain ⟨v6, HV66⟩ : ∃ v6, Value.slice a6 n6 cc6 = v6 := ⟨_, rfl⟩
    rw [HV66] at HO6 HL6 ⊢
    have hown : ∀ q, v.ownBlock = some q → w2.heap.size ≤ q := fun q e => (HO4.out.lt q e).1
    have hown6 : ∀ q, v6.ownBlock = some q → w2.heap.size ≤ q := fun q e => (HO6.out.lt q e).1
    have hset : ∀ x, x ≠ w.heap.size → (w6.setCell ⟨w.heap.size, 0, none⟩ v6).heap[x]? = w6.heap[x]? := fun x hx => by simp [World.setCell, Array.getElem?_modify, Ne.symm hx]
    have hsame : ∀ x, x < W.heap.size → x ≠ w.heap.size → v.ownBlock ≠ some x → (w6.setCell ⟨w.heap.size, 0, none⟩ v6).heap[x]? = W.heap[x]? := fun x hx h1 h2 => (hset x h1).trans ((HG6.out.block x (by rw [HSA.out]; omega) (fun e => h2 e.symm)).trans (HBA.out.block x hx))
    have hsz : W.heap.size ≤ (w6.setCell ⟨w.heap.size, 0, none⟩ v6).heap.size := by
      have := HG6.out.size
      rw [HSA.out] at this
      simp [World.setCell]
      omega
    refine ⟨⟨hsz, fun k o hk ho hc => ?_⟩, ⟨hsz, fun x hx => ?_, fun k cur fl e => ?_⟩, v6, ds ++ [⟨ka, kc, va, vc, ⟨K, U, false⟩⟩], ⟨?_, ?_, ?_, ?_, ?_⟩, by omega⟩
    · refine (hsame k (Array.getElem?_eq_some_iff.1 ho).1 (by omega) (fun e => ?_)).trans ho
      rcases HB.out.own.2 with ⟨rfl, _⟩ | ⟨g, cap, cur, rfl, _, hg, _⟩
      · simp [Value.ownBlock] at e
      · obtain rfl : g = k := by simpa [Value.ownBlock] using e
        rw [hg] at ho
        cases ho
        cases hc
    · have hx' := HV2L.out x hx
      exact hsame x (by omega) hx'.2 (fun e => by have := hown x e; omega)
    · refine (hsame k (Array.getElem?_eq_some_iff.1 e).1 (fun f => ?_) (fun f => ?_)).trans e
      · rw [f, HB.out.var] at e
        simp at e
      · rcases HB.out.own.2 with ⟨rfl, _⟩ | ⟨g, cap, cur, rfl, _, hg, _⟩
        · simp [Value.ownBlock] at f
        · obtain rfl : g = k := by simpa [Value.ownBlock] using f
          rw [hg] at e
          simp at e
    · simp [World.setCell, Array.getElem?_modify, HV6.out]
    · rw [hn6.out]
      refine HO6.out.kept (row := some w.heap.size) ⟨rfl, rfl, rfl, by simp [World.setCell], fun x _ hx => hset x (fun e => hx (by rw [e]))⟩ (.inr fun e => ?_)
      have := hown6 _ e
      omega
    · rw [List.map_append, HB.out.is, List.length_append, List.length_singleton, HTK.out]
      rfl
    · have hw : ∀ x, x < W.heap.size → v.ownBlock ≠ some x → v6.ownBlock ≠ some x := fun x hx hn e => by
        rcases HL6.out with h | h
        · exact hn (by rw [← h]; exact e)
        · rw [h] at e
          have := Option.some.inj e
          rw [HSA.out] at this
          omega
      have hvs : ∀ {a : Option Addr} {n c : Nat} {z : List Int}, Vs W (fun x => w.heap.size < x ∧ v.ownBlock ≠ some x) a n c z → Vs (w6.setCell ⟨w.heap.size, 0, none⟩ v6) (fun x => w.heap.size < x ∧ v6.ownBlock ≠ some x) a n c z := fun {a n c z} h => by
        have h2 := h.wide (V' := fun x => x < W.heap.size ∧ w.heap.size < x ∧ v.ownBlock ≠ some x) fun x hx hh => ⟨hx, hh⟩
        have h3 := h2.step (w' := w6.setCell ⟨w.heap.size, 0, none⟩ v6) fun x hx hh _ => hsame x hx (by omega) hh.2.2
        exact h3.wide fun x _ hh => ⟨hh.2.1, hw x hh.1 hh.2.2⟩
      intro d hd
      rcases List.mem_append.1 hd with hd | hd
      · have := HB.out.sv d hd
        exact ⟨hvs this.1, hvs this.2⟩
      · rw [List.mem_singleton] at hd
        subst hd
        exact ⟨hvs (HVK.out.wide fun x _ e => by have := HKQ.out x e; exact ⟨by omega, this.2.2⟩), hvs (HVU.out.wide fun x _ e => by have := HUQ.out x e; exact ⟨by omega, this.2.2⟩)⟩
    · exact HB.out.bel.trans ⟨HG6.out.os.trans HBA.out.os, HG6.out.tape.trans HBA.out.tape, HG6.out.output.trans HBA.out.output, hsz, fun x hx => hsame x (by have := HB.out.bel.size; omega) (by omega) (fun e => by have := hown x e; omega)⟩
  case done =>
    subst hA
    rintro D ys W hD ⟨v, ds, hb, hz⟩ hfin hDD
    have HD1 : Hid (ds.map (·.s) = asS M) := by
      show _ = _
      rw [hb.is, hfin, List.take_of_length_le (Nat.le_refl _)]
    obtain ⟨al, cl, rfl, hsl, -⟩ := Sl.ofOwn (V := fun _ => True) hb.own (fun d hd => (hb.sv d hd).wide fun _ _ _ => trivial) (fun _ _ => trivial)
    have hdl : ds.length ≤ 1000000000 := by
      have h1 := congrArg List.length HD1.out
      rw [List.length_map] at h1
      rw [h1]
      simp [asS]
      omega
    rw [HD1.out] at hsl
    have kp : Calls Tryz.prog 22 #[.slice al ds.length cl] W fun e w' => ∃ v, e = .returned (.tuple #[v, .int .i64 0]) ∧ w'.ownsRow W.heap.size 5 1 v (enc (asS M)).length (cells (enc (asS M))) ∧ Below W.heap.size W w' := (putSets_ _ al ds.length cl (asS M) W hsl hdl).mono fun e w' h => by
      rcases h with h | h
      · exact h.2
      · have := asS_ok HT.out.tok
        rw [h.1] at this
        cases this
    have HBW := hid hb.bel
    have cv : W.cell? ⟨w.heap.size, 0, none⟩ = some (.slice al ds.length cl) := by rw [cell_of_row W w.heap.size 0 _ 36 (0, 0) hb.var]; rfl
    obtain ⟨E, HE⟩ : ∃ E, Hid (enc (asS M) = E) := ⟨_, rfl⟩
    rw [HE.out] at kp
    clear hsl hb hdl hfin
    gi_wp2_with (refine ⟨trivial, ?_⟩; gi_at_call 22; refine (callsIn_wide.2 kp).mono ?_; rintro e w5 ⟨v5, rfl, o5, g5⟩; have HO5 := hid o5; have HG5 := hid g5; clear kp o5 g5)
    have hK2 : w5.heap[D]? = some (.deferred (some [])) := (HG5.out.block D (Array.getElem?_eq_some_iff.1 hDD).1).trans hDD
    refine ⟨by simp, .inl ⟨_, _, rfl, run_takeDeferred hK2, ?_⟩⟩
    refine ⟨v5, ?_, ⟨_, rfl, ?_, ?_⟩⟩
    · simp [results, Tryz.f29, go_sem]
    · rw [HE.out]
      exact own_monoT (own_put HO5.out hK2 rfl) HBW.out.size
    · exact (bel_bel HBW.out HBW.out.size HG5.out).trans ⟨rfl, rfl, rfl, (grownBy_putObj' w5 D (.deferred none)).size, fun x hx => World.putObj_heap_other (by omega)⟩
  case stop =>
    rintro D pre W hD h
    exact h.elim
end Go.Proofs.YteeapmcpbmjpmaaGreat
