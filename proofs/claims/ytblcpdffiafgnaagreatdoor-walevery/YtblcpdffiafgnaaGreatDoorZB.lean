import Derived.Deep.MidRow
import Derived.BigQuiet
import Derived.Deep.DrawnRows
import Derived.Test.YtblcpdffiafgnaaGreatDoorZV
import Derived.Test.YtblcpdffiafgnaaGreatDoorYJ
import Derived.Deep.AppendLies
namespace Go.Proofs.YtblcpdffiafgnaaGreatDoor
set_option linter.unusedSimpArgs false
set_option maxRecDepth 100000
open Go.RowKit Go.Shelf
set_option linter.unusedVariables false
set_option linter.unusedSimpArgs false
variable {Ee : Ex}

/-- The worlds that have but grown since W. -/
def Bw (W wx : World) : Prop := Below W.heap.size W wx
theorem Bw.cell {W wx : World} (h : Bw W wx) {p : Addr} {v : Value} (hc : W.cell? p = some v) : wx.cell? p = some v := (Below.cell h (World.block_lt_of_cell? W p hc)).trans hc
theorem Bw.on {W wx wy : World} (h : Bw W wx) (hb : Below wx.heap.size wx wy) : Bw W wy := bel_bel h (Below.size h) hb
theorem Bw.drew (W : World) : Bw W { W with drawn := W.drawn + 1 } := ⟨rfl, rfl, rfl, Nat.le_refl _, fun _ _ => rfl⟩
theorem wp_quietC {P : Program} {id : Nat} {Q : Exit → Act → World → Prop} {a : Act} {w : World} {l : List Oper} (C : World → Prop) (hm : P.follows .mixedOrders = true) (hB : Region.lexB .any l.toArray = true) (hC : C { w with drawn := w.drawn + 1 })
    (h : wpQuiet P l.toArray C (fun a' => ∀ w', C w' → Q .normal a' w') l a) : (Code.region id l.toArray true).wp P Q a w := wp_region_quiet (C := C) hm hB hC (by simpa using h)
section
variable {w0 w w' : World} {t d g : Nat} {l : Value} {Q R : Nat → Prop} {s1 x1 s2 x2 s3 x3 : Value} {T : Tp} {safe op : Bool}
theorem Tn.there (h : Tn w t d l safe s1 x1 op s2 x2 s3 x3) (o : Nat) (ho : o + 2 ≤ 10) : w.there t o 2 := fun j hj => by
  refine ⟨?_, h.fz _⟩
  rw [h.cell]
  simp
  omega
theorem setCells2 (w : World) (t o : Nat) (v u : Value) : w.setCells t o [v, u] = (w.setCell ⟨t, o, none⟩ v).setCell ⟨t, o + 1, none⟩ u := rfl
/-- An account at its place in the town. -/
theorem load_ac (w : World) (t o : Nat) (v u : Value) (h1 : w.cell? ⟨t, o, none⟩ = some v) (h2 : w.cell? ⟨t, o + 1, none⟩ = some u) : (Instr.loadAt 39 (.pointer (some ⟨t, o, none⟩))).run Tryz.prog w = .ok (.agg #[v, u]) w :=
  run_loadAt_mid w t o 39 [v, u] _ (fun j z hz => by
    match j, hz with
    | 0, hz => simp at hz; subst hz; exact h1
    | 1, hz => simp at hz; subst hz; exact h2
    | j + 2, hz => simp at hz) Tryz.underlying39 rfl sizeAc
theorem wpList_acT {ops : Array Oper} {rest : List Oper} {o : Oper} {a : Act} {w : World} {Q : Exit → Act → World → Prop} (hgd : o.guard = none) (hdst : o.dst = none) (x y : Operand) (ho : o.op = .store 39 x y)
    (t i : Nat) (v u : Value) (hv : v.oneCell' = true) (hu : u.oneCell' = true) (hx : a.eval x = .pointer (some ⟨t, i, none⟩)) (hy : a.eval y = .agg #[v, u]) (ht : w.there t i 2)
    (h : wpList Tryz.prog ops Q rest a ((w.setCell ⟨t, i, none⟩ v).setCell ⟨t, i + 1, none⟩ u)) : wpList Tryz.prog ops Q (o :: rest) a w := by
  refine wpList_store_mid hgd _ x y ho t i #[v, u] hx hy ht sizeAc (by simp [hv, hu]) ?_
  rw [hdst]
  exact h
theorem Fr.own (h : Fr (fun b => b = t) w w') (i : Nat) (v : Value) : Fr (fun b => b = t) w (w'.setCell ⟨t, i, none⟩ v) := h.trans (.of (grown_set (grown_refl w' (some t)) i v) rfl)
theorem Fr.set (h : Fr R w w') (hr : R t) (i : Nat) (v : Value) : Fr R w (w'.setCell ⟨t, i, none⟩ v) := h.trans (.of (grown_set (grown_refl w' (some t)) i v) hr)
end
set_option maxHeartbeats 4000000 in
theorem opens_err (w0 w : World) (t : Nat) (T : Tp) (n : Nat) (h : Tw Ee w0 w t T) (hv : Tu T n) (hn : n ≤ 150) (E : Int) (r1 : ((onP T.s.n).run { T.s with k := T.s.k + 1 }).1 = .error E) (hE : E = 103 ∨ E = 104) : Calls Tryz.prog 12 #[.pointer (some ⟨t, 0, none⟩)] w fun en w' => en = .returned (.bool true) ∧ Tw Ee w0 w' t (opT T) := by
  obtain ⟨d, g, l, Q, R, s1, x1, s2, x2, s3, x3, H⟩ := h
  have ko := open_ d T.s Q w H.dv H.tab H.q0 (by have := hv.c; omega) (by have := hv.P; omega) (by have := hv.k; omega)
  have hT : opT T = { T with s := ((onP T.s.n).run { T.s with k := T.s.k + 1 }).2, lg := none, safe := false } := by unfold opT; rw [r1]
  rw [hT]
  rw [r1] at ko
  obtain ⟨S', HS⟩ : ∃ S', Hid (((onP T.s.n).run { T.s with k := T.s.k + 1 }).2 = S') := ⟨_, rfl⟩
  rw [HS.out] at ko ⊢
  have c0 := H.tn.cell 0
  simp only [List.getElem?_toArray, List.getElem?_cons_zero] at c0
  have HH := hid H
  clear H hT r1
  go_enter Tryz.func12, Tryz.ntmps12
  go_wp2_with fail
  refine ko.mono ?_
  rintro en w1 ⟨hen, D1, F1⟩
  simp only [opPost] at hen
  subst hen
  simp only
  have tn1 : Tn w1 t d l T.safe s1 x1 T.op s2 x2 s3 x3 := (F1.same t HH.out.tn.lt HH.out.qt).trans HH.out.tn
  have hf2 := tn1.fz 2
  have hc2 : w1.cell? ⟨t, 2, none⟩ = some (.bool T.safe) := tn1.cell 2
  have tn2 := tn1.st2 false
  have hf1 := tn2.fz 1
  obtain ⟨lp, hlp⟩ : ∃ lp, l = .pointer lp := by
    exact HH.out.lg.ptr
  have hc1 : (w1.setCell ⟨t, 2, none⟩ (.bool false)).cell? ⟨t, 1, none⟩ = some (.pointer lp) := (tn2.cell 1).trans (by rw [← hlp]; rfl)
  have HT2 := hid (tn2.st1 (.pointer none))
  have HD1 := hid D1
  have HF1 := hid F1
  clear ko D1 F1 tn1 tn2 c0
  have fin : Tw Ee w0 ((w1.setCell ⟨t, 2, none⟩ (.bool false)).setCell ⟨t, 1, none⟩ (.pointer none)) t { T with s := S', lg := none, safe := false } := by
    have F2 : Fr R w ((w1.setCell ⟨t, 2, none⟩ (.bool false)).setCell ⟨t, 1, none⟩ (.pointer none)) := ((HF1.out.weak (fun b _ q => HH.out.qr b q)).set HH.out.rt 2 (.bool false)).set HH.out.rt 1 (.pointer none)
    have hr : ∀ b, R b → R b ∨ (w.heap.size ≤ b ∧ b < ((w1.setCell ⟨t, 2, none⟩ (.bool false)).setCell ⟨t, 1, none⟩ (.pointer none)).heap.size) := fun b q => .inl q
    exact ⟨d, g, _, Q, R, s1, x1, s2, x2, s3, x3, HH.out.turn F2 HT2.out ((HD1.out.fr (R := fun b => b = t) (.of (grown_set (grown_refl _ (some t)) 2 (.bool false)) rfl) (fun b hb q => HH.out.qt (q ▸ hb))).fr (R := fun b => b = t) (.of (grown_set (grown_refl _ (some t)) 1 (.pointer none)) rfl) (fun b hb q => HH.out.qt (q ▸ hb))) rfl HH.out.qr (fun b q => q) HH.out.qt hr (HH.out.a1.fr F2 hr) (HH.out.a2.fr F2 hr) (HH.out.a3.fr F2 hr)⟩
  have HFIN := hid fin
  clear fin HD1 HF1 HT2
  rcases hE with rfl | rfl
  · go_wp2_with (go_at_call 21; refine (num12 _ _).mono ?_; rintro e w' ⟨rfl, hw⟩; obtain rfl := hw.symm; clear hw)
    go_ret
    exact ⟨rfl, HFIN.out⟩
  · go_wp2_with (go_at_call 21; refine (num12 _ _).mono ?_; rintro e w' ⟨rfl, hw⟩; obtain rfl := hw.symm; clear hw)
    go_ret
    exact ⟨rfl, HFIN.out⟩
/-- What lies in memory behind an Open that was OK. -/
theorem opens_mem {w0 w w1 w4 : World} {t d g g1 n : Nat} {l v' vt : Value} {Q R : Nat → Prop} {s1 x1 s2 x2 s3 x3 : Value} {T : Tp} {st : List Int} {xs : List Yx} {ep nx pl : Nat} {S' : St}
    (H : Ti Ee w0 w t d g l Q R s1 x1 s2 x2 s3 x3 T) (hg : w.heap.size ≤ g1) (ot : w1.ownsRow w.heap.size 27 1 vt xs.length (xs.map (·.v))) (he : ∀ x ∈ xs, w1.ownsRow w.heap.size 5 1 x.v x.tx.length (cells x.tx) ∧ By x.tx) (hW : Wq w1 g1 d (T.s.k + 1) ep nx pl false false S' Q) (hk : S'.k = T.s.k + 1) (D1 : Dev w1 d S' Q) (F1 : Fr Q w w1)
    (hb : By st) (ov : w4.ownsRow ((w1.setCell ⟨t, 2, none⟩ (.bool false)).setCell ⟨t, 1, none⟩ (.pointer (some ⟨g1, 0, none⟩))).heap.size 5 1 v' n (cells st)) (B4 : Below ((w1.setCell ⟨t, 2, none⟩ (.bool false)).setCell ⟨t, 1, none⟩ (.pointer (some ⟨g1, 0, none⟩))).heap.size ((w1.setCell ⟨t, 2, none⟩ (.bool false)).setCell ⟨t, 1, none⟩ (.pointer (some ⟨g1, 0, none⟩))) w4) :
    Ti Ee w0 ((w4.setCell ⟨t, 8, none⟩ v').setCell ⟨t, 9, none⟩ vt) t d g1 (.pointer (some ⟨g1, 0, none⟩)) Q (fun b => R b ∨ b = g1) s1 x1 s2 x2 v' vt { T with s := S', lg := some (ep, nx, pl), safe := false, T := (st, xs.map (·.tx)) } := by
  have htg : t < w.heap.size := H.tn.lt
  have tn1 : Tn w1 t d l T.safe s1 x1 T.op s2 x2 s3 x3 := (F1.same t htg H.qt).trans H.tn
  have tn3 := (tn1.st2 false).st1 (.pointer (some ⟨g1, 0, none⟩))
  have sz3 : ((w1.setCell ⟨t, 2, none⟩ (.bool false)).setCell ⟨t, 1, none⟩ (.pointer (some ⟨g1, 0, none⟩))).heap.size = w1.heap.size := by simp [World.setCell]
  have F3 : Fr R w ((w1.setCell ⟨t, 2, none⟩ (.bool false)).setCell ⟨t, 1, none⟩ (.pointer (some ⟨g1, 0, none⟩))) := ((F1.weak (fun b _ q => H.qr b q)).set H.rt 2 (.bool false)).set H.rt 1 _
  have F13 : Fr (fun b => b = t) w1 ((w1.setCell ⟨t, 2, none⟩ (.bool false)).setCell ⟨t, 1, none⟩ (.pointer (some ⟨g1, 0, none⟩))) := ((Fr.refl _ w1).own 2 (.bool false)).own 1 _
  obtain ⟨w3, Hw3⟩ : ∃ w3, ((w1.setCell ⟨t, 2, none⟩ (.bool false)).setCell ⟨t, 1, none⟩ (.pointer (some ⟨g1, 0, none⟩))) = w3 := ⟨_, rfl⟩
  rw [Hw3] at tn3 sz3 F3 F13 ov B4
  have tn4 := tn3.below (w' := w4) B4
  have s4 := B4.size
  have s1' := F1.size
  have F14 : Fr (fun b => b = t) w1 w4 := F13.below B4
  have F15 : Fr (fun b => b = t) w1 ((w4.setCell ⟨t, 8, none⟩ v').setCell ⟨t, 9, none⟩ vt) := (F14.own 8 v').own 9 vt
  have F45 : Fr (fun b => b = t) w4 ((w4.setCell ⟨t, 8, none⟩ v').setCell ⟨t, 9, none⟩ vt) := ((Fr.refl _ w4).own 8 v').own 9 vt
  have F5 : Fr R w ((w4.setCell ⟨t, 8, none⟩ v').setCell ⟨t, 9, none⟩ vt) := ((F3.below B4).set H.rt 8 v').set H.rt 9 vt
  have tn5 := tn4.st89 v' vt
  have hg1 := hW.lm.lt
  have sz5 : ((w4.setCell ⟨t, 8, none⟩ v').setCell ⟨t, 9, none⟩ vt).heap.size = w4.heap.size := by simp [World.setCell]
  obtain ⟨w5, Hw5⟩ : ∃ w5, ((w4.setCell ⟨t, 8, none⟩ v').setCell ⟨t, 9, none⟩ vt) = w5 := ⟨_, rfl⟩
  rw [Hw5] at F15 F5 F45 tn5 sz5 ⊢
  have hr : ∀ b, (R b ∨ b = g1) → R b ∨ (w.heap.size ≤ b ∧ b < w5.heap.size) := fun b q => by
    rcases q with q | q
    · exact .inl q
    · exact .inr ⟨by omega, by omega⟩
  have gt : g1 ≠ t := by omega
  have wm5 : Wm w5 g1 d (T.s.k + 1) ep nx pl false false := hW.lm.at (F15.same g1 hg1 gt)
  have own : ∀ {m sz : Nat} {ty : TypeId} {u : Value} {ys : List Value}, w1.ownsRow w.heap.size ty sz u m ys → w5.ownsRow w.heap.size ty sz u m ys := fun ho => own_at' ho (fun b e => F15.same b (ho.lt b e).2 (by have := (ho.lt b e).1; omega))
  have hR5 : ∀ b, (R b ∨ b = g1) → b < w.heap.size ∨ b = g1 := fun b q => by
    rcases q with q | q
    · exact .inl (H.rb b q).2
    · exact .inr q
  have ov5 : w5.ownsRow w3.heap.size 5 1 v' n (cells st) := own_at' ov (fun b e => F45.same b (ov.lt b e).2 (by have := (ov.lt b e).1; omega))
  have br5 : Br w5 (fun b => R b ∨ b = g1) v' st := br_own (B := w3.heap.size) (fun b q => by
    rcases hR5 b q with q | q <;> omega) ov5 hb
  exact H.turn F5 tn5 (D1.fr F15 (fun b hb q => H.qt (q ▸ hb))) ⟨⟨_, rfl⟩, fun _ => ⟨rfl, by simp only; rw [hk]; exact wm5, hW.ng, gt, .inr rfl⟩⟩ (fun b q => .inl (H.qr b q)) (fun b q => .inl q) H.qt hr (H.a1.fr F5 hr) (H.a2.fr F5 hr) (ar_open (B := w.heap.size) wm5 hR5 br5 (own ot) (fun x hx => ⟨own (he x hx).1, (he x hx).2⟩))
set_option maxHeartbeats 8000000 in
theorem opens_ok (w0 w : World) (t : Nat) (T : Tp) (n : Nat) (h : Tw Ee w0 w t T) (hv : Tu T n) (hn : n ≤ 150) (a : Ac) (ep nx pl : Nat) (r1 : ((onP T.s.n).run { T.s with k := T.s.k + 1 }).1 = .ok (some (a.1, a.2, ep, nx, pl))) (r2 : a = T.A ∨ (T.op = true ∧ a = T.M)) (hl : a.1.length ≤ 30000) : Calls Tryz.prog 12 #[.pointer (some ⟨t, 0, none⟩)] w fun en w' => en = .returned (.bool true) ∧ Tw Ee w0 w' t (opT T) := by
  obtain ⟨d, g, l, Q, R, s1, x1, s2, x2, s3, x3, H⟩ := h
  have ko := open_ d T.s Q w H.dv H.tab H.q0 (by have := hv.c; omega) (by have := hv.P; omega) (by have := hv.k; omega)
  have hT : opT T = { T with s := ((onP T.s.n).run { T.s with k := T.s.k + 1 }).2, lg := some (ep, nx, pl), safe := false, T := a } := by unfold opT; rw [r1]
  rw [hT]
  rw [r1] at ko
  have hk := (run_nk (onP T.s.n) { T.s with k := T.s.k + 1 }).2
  obtain ⟨S', HS⟩ : ∃ S', Hid (((onP T.s.n).run { T.s with k := T.s.k + 1 }).2 = S') := ⟨_, rfl⟩
  rw [HS.out] at ko hk ⊢
  simp only at hk
  have c0 := H.tn.cell 0
  simp only [List.getElem?_toArray, List.getElem?_cons_zero] at c0
  have HH := hid H
  have Hk := hid hk
  have HR2 := hid r2
  clear H hT r1 hk r2 hv
  go_enter Tryz.func12, Tryz.ntmps12
  go_wp2_with fail
  refine ko.mono ?_
  rintro en w1 ⟨hen, D1, F1⟩
  simp only [opPost] at hen
  obtain ⟨g1, v, vt, xs, rfl, hg, ov, byv, ovt, hxs, hel, hW, hpl, hmq⟩ := hen
  simp only
  obtain ⟨av, cv, rfl, bv, hv1, hv2, _⟩ := own_form (own_mono ov (Nat.zero_le _)) byv
  obtain ⟨ta, tc, rfl, _, _, _⟩ := own_slice ovt
  have tn1 : Tn w1 t d l T.safe s1 x1 T.op s2 x2 s3 x3 := (F1.same t HH.out.tn.lt HH.out.qt).trans HH.out.tn
  have hf2 := tn1.fz 2
  have hc2 : w1.cell? ⟨t, 2, none⟩ = some (.bool T.safe) := tn1.cell 2
  have tn2 := tn1.st2 false
  have hf1 := tn2.fz 1
  obtain ⟨lp, hlp⟩ : ∃ lp, l = .pointer lp := by
    exact HH.out.lg.ptr
  have hc1 : (w1.setCell ⟨t, 2, none⟩ (.bool false)).cell? ⟨t, 1, none⟩ = some (.pointer lp) := (tn2.cell 1).trans (by rw [← hlp]; rfl)
  have tn3 := tn2.st1 (.pointer (some ⟨g1, 0, none⟩))
  have F13 : Fr (fun b => b = t) w1 ((w1.setCell ⟨t, 2, none⟩ (.bool false)).setCell ⟨t, 1, none⟩ (.pointer (some ⟨g1, 0, none⟩))) := ((Fr.refl _ w1).own 2 (.bool false)).own 1 _
  have b3 : Bs ((w1.setCell ⟨t, 2, none⟩ (.bool false)).setCell ⟨t, 1, none⟩ (.pointer (some ⟨g1, 0, none⟩))) av a.1.length a.1 := by
    have hlt : t < w.heap.size := HH.out.tn.lt
    obtain ⟨av', cv', e', b', _⟩ := own_form (own_mono (own_at' (w' := ((w1.setCell ⟨t, 2, none⟩ (.bool false)).setCell ⟨t, 1, none⟩ (.pointer (some ⟨g1, 0, none⟩)))) ov (fun b e => F13.same b (ov.lt b e).2 (by have := (ov.lt b e).1; omega))) (Nat.zero_le _)) byv
    obtain ⟨rfl, -, rfl⟩ : av = av' ∧ a.1.length = a.1.length ∧ cv = cv' := by simpa using e'
    exact b'
  have kb := refBytes av a.1.length cv a.1 _ b3 (by omega)
  have HTN3 := hid tn3
  have HD1 := hid D1
  have HF1 := hid F1
  have HOT := hid ovt
  have HEL := hid hel
  have HW1 := hid hW
  have HBY := hid byv
  have HXS := hid hxs
  clear ko D1 F1 tn1 tn2 tn3 c0 ov bv ovt hel hW hpl hmq byv b3 F13 hxs
  go_wp2_with (go_at_call 21; refine (num12 _ _).mono ?_; rintro e w' ⟨rfl, hw⟩; obtain rfl := hw.symm; clear hw)
  refine kb.mono ?_
  rintro e w4 ⟨v4, rfl, ov4, B4⟩
  simp only
  obtain ⟨a4, c4, rfl, _⟩ := own_form (own_mono ov4 (Nat.zero_le _)) HBY.out
  have th8 := (HTN3.out.below B4).there 8 (by omega)
  have ti := opens_mem HH.out hg HOT.out HEL.out HW1.out Hk.out HD1.out HF1.out HBY.out ov4 B4
  rw [HXS.out] at ti
  have HTI := hid ti
  clear kb ov4 B4 HTN3 HD1 HF1 HOT HEL HW1 HBY ti hc1 hc2 hf1 hf2
  go_wp2_with (with_reducible show wpList _ _ _ (_ :: _) _ _; refine wpList_acT rfl rfl _ _ rfl t 8 (.slice a4 a.1.length c4) (.slice ta xs.length tc) rfl rfl rfl rfl th8 ?_)
  obtain ⟨W5, HW5⟩ : ∃ W5, Hid ((w4.setCell ⟨t, 8, none⟩ (.slice a4 a.1.length c4)).setCell ⟨t, 9, none⟩ (.slice ta xs.length tc) = W5) := ⟨_, rfl⟩
  rw [HW5.out] at HTI
  have hw5 : ((w4.setCell ⟨t, 8, none⟩ (.slice a4 a.1.length c4)).setCell ⟨t, 8 + 1, none⟩ (.slice ta xs.length tc)) = W5 := HW5.out
  rw [hw5]
  clear hw5 HW5 th8
  have htn := HTI.out.tn
  obtain ⟨b1, n1, m1, ta1, k1, tc1, vs1, e1, f1, bs1, hm1, tx1, _⟩ := HTI.out.a1.form
  obtain ⟨b2, n2, m2, ta2, k2, tc2, vs2, e2, f2, bs2, hm2, tx2, _⟩ := HTI.out.a2.form
  obtain ⟨b3, n3, m3, ta3, k3, tc3, vs3, e3, f3, bs3, hm3, tx3, _⟩ := HTI.out.a3.form
  subst e1 f1 e2 f2
  obtain ⟨rfl, rfl, rfl⟩ : a4 = b3 ∧ a.1.length = n3 ∧ c4 = m3 := by simpa using e3
  obtain ⟨rfl, rfl, rfl⟩ : ta = ta3 ∧ xs.length = k3 ∧ tc = tc3 := by simpa using f3
  have C3 := hid (show W5.cell? ⟨t, 3, none⟩ = some (.slice b1 n1 m1) from htn.cell 3)
  have C4 := hid (show W5.cell? ⟨t, 4, none⟩ = some (.slice ta1 k1 tc1) from htn.cell 4)
  have C5 := hid (show W5.cell? ⟨t, 5, none⟩ = some (.bool T.op) from htn.cell 5)
  have C6 := hid (show W5.cell? ⟨t, 6, none⟩ = some (.slice b2 n2 m2) from htn.cell 6)
  have C7 := hid (show W5.cell? ⟨t, 7, none⟩ = some (.slice ta2 k2 tc2) from htn.cell 7)
  have C8 := hid (show W5.cell? ⟨t, 8, none⟩ = some (.slice a4 a.1.length c4) from htn.cell 8)
  have C9 := hid (show W5.cell? ⟨t, 9, none⟩ = some (.slice ta xs.length tc) from htn.cell 9)
  obtain ⟨q1, hq1⟩ : ∃ q, decide (a.1 = T.A.1 ∧ a.2 = T.A.2) = q := ⟨_, rfl⟩
  obtain ⟨q2, hq2⟩ : ∃ q, decide (a.1 = T.M.1 ∧ a.2 = T.M.2) = q := ⟨_, rfl⟩
  have HQ : Hid (q1 = true ∨ (T.op = true ∧ q2 = true)) := by
    rcases HR2.out with r | ⟨r1, r⟩
    · exact .inl (by rw [← hq1, r]; simp)
    · exact .inr ⟨r1, by rw [← hq2, r]; simp⟩
  have kA : ∀ wx, Bw W5 wx → Calls Tryz.prog 14 #[.agg #[.slice a4 a.1.length c4, .slice ta xs.length tc], .agg #[.slice b1 n1 m1, .slice ta1 k1 tc1]] wx fun en w' => en = .returned (.bool q1) ∧ Bw W5 w' := fun wx hx => by
    refine (same_ wx a4 _ c4 a.1 ta _ tc a.2 b1 n1 m1 T.A.1 ta1 k1 tc1 T.A.2 (bs3.below hx) (tx3.below hx) (bs1.below hx) (tx1.below hx) hm3 hm1).mono ?_
    rintro en w' ⟨rfl, hb⟩
    exact ⟨by rw [← hq1], hx.on hb⟩
  have kM : ∀ wx, Bw W5 wx → Calls Tryz.prog 14 #[.agg #[.slice a4 a.1.length c4, .slice ta xs.length tc], .agg #[.slice b2 n2 m2, .slice ta2 k2 tc2]] wx fun en w' => en = .returned (.bool q2) ∧ Bw W5 w' := fun wx hx => by
    refine (same_ wx a4 _ c4 a.1 ta _ tc a.2 b2 n2 m2 T.M.1 ta2 k2 tc2 T.M.2 (bs3.below hx) (tx3.below hx) (bs2.below hx) (tx2.below hx) hm3 hm2).mono ?_
    rintro en w' ⟨rfl, hb⟩
    exact ⟨by rw [← hq2], hx.on hb⟩
  have HKA := hid kA
  have HKM := hid kM
  clear kA kM htn e3 f3 hq1 hq2 HR2 bs1 bs2 bs3 tx1 tx2 tx3
  go_wp2_with fail
  refine wp_quietC (Bw W5) (by kernel_rfl) (by kernel_rfl) (Bw.drew W5) ?_
  repeat (first | go_big_quiet_skip | (go_big_quiet_want; go_big_quiet_op; first | go_big_quiet_on | (apply Exists.intro; refine ⟨fun wq hq => ?_, ?_⟩; (· first | (with_reducible rfl) | (go_at_call 14; exact HKA.out _ hq) | (have q3 := hq.cell C3.out; have q4 := hq.cell C4.out; have q5 := hq.cell C5.out; have q6 := hq.cell C6.out; have q7 := hq.cell C7.out; have q8 := hq.cell C8.out; have q9 := hq.cell C9.out; go_simp; rfl) | rfl); go_big_quiet_on)))
  refine wpQuiet_nil ?_
  intro w6 s6
  have HTW : ∀ w7, Bw W5 w7 → Tw Ee w0 w7 t { T with s := S', lg := some (ep, nx, pl), safe := false, T := a } := fun w7 h7 => (show Tw Ee w0 W5 t { T with s := S', lg := some (ep, nx, pl), safe := false, T := a } from ⟨_, _, _, _, _, _, _, _, _, _, _, HTI.out⟩).below h7
  have HTF := hid HTW
  clear HTW HTI HKA
  cases hop : T.op with
  | false =>
    rw [hop] at C5 HQ
    have hq : q1 = true := by
      rcases HQ.out with q | q
      · exact q
      · cases q.1
    subst hq
    go_wp2_with fail
    refine wp_quietC (Bw W5) (by kernel_rfl) (by kernel_rfl) (s6.on (Bw.drew w6)) ?_
    repeat (first | go_big_quiet_skip | (go_big_quiet_want; go_big_quiet_op; first | go_big_quiet_on | (apply Exists.intro; refine ⟨fun wq hq => ?_, ?_⟩; (· first | (with_reducible rfl) | (go_at_call 14; exact HKM.out _ hq) | (have q3 := hq.cell C3.out; have q4 := hq.cell C4.out; have q5 := hq.cell C5.out; have q6 := hq.cell C6.out; have q7 := hq.cell C7.out; have q8 := hq.cell C8.out; have q9 := hq.cell C9.out; go_simp; rfl) | rfl); go_big_quiet_on)))
    refine wpQuiet_nil ?_
    intro w7 s7
    have HF := hid (HTF.out w7 s7)
    go_wp2_with fail
    go_ret
    exact ⟨rfl, by have hx := HF.out; first | exact hx | (rw [hop] at hx; exact hx)⟩
  | true =>
    rw [hop] at C5
    go_wp2_with fail
    refine wp_quietC (Bw W5) (by kernel_rfl) (by kernel_rfl) (s6.on (Bw.drew w6)) ?_
    repeat (first | go_big_quiet_skip | (go_big_quiet_want; go_big_quiet_op; first | go_big_quiet_on | (apply Exists.intro; refine ⟨fun wq hq => ?_, ?_⟩; (· first | (with_reducible rfl) | (go_at_call 14; exact HKM.out _ hq) | (have q3 := hq.cell C3.out; have q4 := hq.cell C4.out; have q5 := hq.cell C5.out; have q6 := hq.cell C6.out; have q7 := hq.cell C7.out; have q8 := hq.cell C8.out; have q9 := hq.cell C9.out; go_simp; rfl) | rfl); go_big_quiet_on)))
    refine wpQuiet_nil ?_
    intro w7 s7
    have HF := hid (HTF.out w7 s7)
    rcases HQ.out with rfl | ⟨_, rfl⟩
    · go_wp2_with fail
      go_ret
      exact ⟨rfl, by have hx := HF.out; first | exact hx | (rw [hop] at hx; exact hx)⟩
    · cases q1 with
      | true =>
        go_wp2_with fail
        go_ret
        exact ⟨rfl, by have hx := HF.out; first | exact hx | (rw [hop] at hx; exact hx)⟩
      | false =>
        go_wp2_with fail
        go_ret
        exact ⟨rfl, by have hx := HF.out; first | exact hx | (rw [hop] at hx; exact hx)⟩
theorem opens_u (w0 w : World) (t : Nat) (T : Tp) (n : Nat) (h : Tw Ee w0 w t T) (hv : Tu T n) (hn : n ≤ 150) : Calls Tryz.prog 12 #[.pointer (some ⟨t, 0, none⟩)] w fun en w' => en = .returned (.bool true) ∧ Tw Ee w0 w' t (opT T) := by
  rcases hv.run with ⟨E, r1, hE⟩ | ⟨a, ep, nx, pl, r1, r2, r3⟩
  · exact opens_err w0 w t T n h hv hn E r1 hE
  · refine opens_ok w0 w t T n h hv hn a ep nx pl r1 r2 ?_
    obtain ⟨q, q1, _⟩ := r3
    have h1 := q1.hK
    have h2 := roo_100 hv.n2
    unfold pcN at h1
    omega
theorem opens_ (w0 w : World) (t : Nat) (T : Tp) (n : Nat) (h : Tw Ee w0 w t T) (hv : Tv T n) (hn : n ≤ 150) : Calls Tryz.prog 12 #[.pointer (some ⟨t, 0, none⟩)] w fun en w' => en = .returned (.bool true) ∧ Tw Ee w0 w' t (opT T) := opens_u w0 w t T n h hv.tu hn
end Go.Proofs.YtblcpdffiafgnaaGreatDoor
namespace Go.Proofs.YtblcpdffiafgnaaGreatDoor
set_option linter.unusedSimpArgs false
set_option maxRecDepth 100000
open Go.RowKit Go.Shelf
set_option linter.unusedVariables false
set_option linter.unusedSimpArgs false
variable {Ee : Ex}

theorem Ar.vals {w : World} {R : Nat → Prop} {s x : Value} {a : Ac} (h : Ar w R s x a) : (∃ b n c, s = .slice b n c) ∧ ∃ b n c, x = .slice b n c := by
  obtain ⟨⟨b, n, c, e, _⟩, ta, m, tc, vs, e', _⟩ := h
  exact ⟨⟨b, n, c, e⟩, ta, m, tc, e'⟩
/-- A town whose device and log have made a step: R grows by what is new. -/
theorem Ti.wz {w0 w w' : World} {t d g ep nx pl ep' nx' pl' : Nat} {l : Value} {Q R : Nat → Prop} {s1 x1 s2 x2 s3 x3 : Value} {T : Tp} {se re : Bool} {s' : St} (H : Ti Ee w0 w t d g l Q R s1 x1 s2 x2 s3 x3 T) (hlg : T.lg = some (ep, nx, pl)) (hep : 1 ≤ ep) (z : Wz w w' g d T.s.k ep' nx' pl' se re s' Q) (hk : s'.k = T.s.k) (y : Option (Nat × Nat × Nat)) (sf : Bool) (hy : y = some (0, 0, 0) ∨ (y = some (ep', nx', pl') ∧ se = sf ∧ re = false)) (tn : Tn w' t d l sf s1 x1 T.op s2 x2 s3 x3) :
    Ti Ee w0 w' t d g l (Qn Q w w') (fun b => R b ∨ (w.heap.size ≤ b ∧ b < w'.heap.size)) s1 x1 s2 x2 s3 x3 { T with s := s', lg := y, safe := sf } := by
  obtain ⟨e1, q1, gt, rg⟩ := H.wq hlg hep
  have hf : Fr R w w' := z.f.weak (fun b _ q => by
    rcases q with q | q
    · exact H.qr b q
    · exact q ▸ rg)
  have hr : ∀ b, (R b ∨ (w.heap.size ≤ b ∧ b < w'.heap.size)) → R b ∨ (w.heap.size ≤ b ∧ b < w'.heap.size) := fun b q => q
  refine H.turn hf tn z.q.dv ?_ (fun b q => by
    rcases q with q | q
    · exact .inl (H.qr b q)
    · exact .inr q) (fun b q => .inl q) (fun q => by
    rcases q with q | q
    · exact H.qt q
    · have := H.tn.lt; omega) hr (H.a1.fr hf hr) (H.a2.fr hf hr) (H.a3.fr hf hr)
  rcases hy with rfl | ⟨rfl, rfl, rfl⟩
  · exact ⟨⟨_, e1⟩, fun q => absurd rfl q⟩
  · exact ⟨⟨_, e1⟩, fun _ => ⟨e1, by simp only; rw [hk]; exact z.q.lm, z.q.ng, gt, .inl rg⟩⟩
theorem Tn.fr {w w' : World} {t d : Nat} {l : Value} {R : Nat → Prop} {s1 x1 s2 x2 s3 x3 : Value} {safe op : Bool} (h : Tn w t d l safe s1 x1 op s2 x2 s3 x3) (hf : Fr R w w') (hn : ¬ R t) : Tn w' t d l safe s1 x1 op s2 x2 s3 x3 := (hf.same t h.lt hn).trans h
set_option maxHeartbeats 8000000 in
theorem safes_ (w0 w : World) (t : Nat) (T : Tp) (n : Nat) (h : Tw Ee w0 w t T) (hv : Tv T n) (hn : n ≤ 150) : Calls Tryz.prog 13 #[.pointer (some ⟨t, 0, none⟩)] w fun en w' => en = .returned (.bool true) ∧ Tw Ee w0 w' t (sfT T) := by
  obtain ⟨d, g, l, Q, R, s1, x1, s2, x2, s3, x3, H⟩ := h
  have c1 : w.cell? ⟨t, 1, none⟩ = some l := H.tn.cell 1
  have c2 : w.cell? ⟨t, 2, none⟩ = some (.bool T.safe) := H.tn.cell 2
  cases hlg : T.lg with
  | none =>
    have hl := H.lg
    rw [hlg] at hl
    obtain rfl : l = .pointer none := hl
    have hT : sfT T = T := by unfold sfT; rw [if_pos (.inl hlg)]
    rw [hT]
    have HH : Hid (Tw Ee w0 w t T) := ⟨d, g, _, Q, R, s1, x1, s2, x2, s3, x3, H⟩
    clear H hT
    go_enter Tryz.func13, Tryz.ntmps13
    go_wp2_with fail
    go_ret
    exact ⟨rfl, HH.out⟩
  | some y =>
    obtain ⟨ep, nx, pl⟩ := y
    obtain ⟨p1, p2, p3, p4, p5⟩ := hv.pl hlg
    obtain ⟨e1, q1, gt, rg⟩ := H.wq hlg p2
    subst e1
    cases hsf : T.safe with
    | true =>
      have hT : sfT T = T := by unfold sfT; rw [if_pos (.inr hsf)]
      rw [hT]
      rw [hsf] at c2
      have HH : Hid (Tw Ee w0 w t T) := ⟨d, g, _, Q, R, s1, x1, s2, x2, s3, x3, H⟩
      clear H hT q1
      go_enter Tryz.func13, Tryz.ntmps13
      go_wp2_with fail
      go_ret
      exact ⟨rfl, HH.out⟩
    | false =>
      rw [hsf] at c2 q1
      have ks := wsafe_f g d _ _ _ _ _ T.s _ w q1 (edd_no rfl) (by have := hv.c; omega) (by have := hv.P; omega)
      simp only [Bool.false_or] at ks
      have hT : sfT T = if opE T.s = 0 then { T with s := flS T.s, safe := true, A := T.T, op := false } else { T with s := flS T.s, lg := none } := by unfold sfT; rw [if_neg (by rw [hlg, hsf]; simp)]
      rw [hT]
      have hk := (flS_n T.s).2.1
      obtain ⟨E, HE⟩ : ∃ E, Hid (opE T.s = E) := ⟨_, rfl⟩
      have hE := opE_is T.s
      rw [HE.out] at ks hE ⊢
      obtain ⟨T2, HT2⟩ : ∃ x, Hid ((if E = 0 then ({ T with s := flS T.s, safe := true, A := T.T, op := false } : Tp) else { T with s := flS T.s, lg := none }) = x) := ⟨_, rfl⟩
      rw [HT2.out]
      have HH := hid H
      have HK := hid hk
      clear H hT q1 hk
      obtain ⟨⟨b3, n3, m3, rfl⟩, b4, n4, m4, rfl⟩ := HH.out.a3.vals
      obtain ⟨⟨b5, n5, m5, rfl⟩, b6, n6, m6, rfl⟩ := HH.out.a1.vals
      go_enter Tryz.func13, Tryz.ntmps13
      go_wp2_with fail
      refine ks.mono ?_
      rintro en w1 ⟨rfl, z⟩
      simp only
      have htq : ¬ Qg Q g t := fun q => by
        rcases q with q | q
        · exact HH.out.qt q
        · exact gt q.symm
      have tn1 := HH.out.tn.fr z.f htq
      clear ks
      rcases hE with rfl | hE
      · rw [if_pos rfl] at HT2
        have T1 := HH.out.wz hlg p2 z HK.out (some (0, 0, 0)) T.safe (.inl rfl) tn1
        have z' : Wz w w1 g d T.s.k ep nx pl true false (flS T.s) Q := z
        have tn1' := tn1
        rw [hsf] at tn1
        have f2 := tn1.fz 2
        have d2 : w1.cell? ⟨t, 2, none⟩ = some (.bool false) := tn1.cell 2
        have tn2 := tn1.st2 true
        have T2 := HH.out.wz hlg p2 z' HK.out (some (0, 0, 0)) T.safe (.inl rfl) tn1'
        have e8 : (w1.setCell ⟨t, 2, none⟩ (.bool true)).cell? ⟨t, 8, none⟩ = some (.slice b3 n3 m3) := tn2.cell 8
        have e9 : (w1.setCell ⟨t, 2, none⟩ (.bool true)).cell? ⟨t, 9, none⟩ = some (.slice b4 n4 m4) := tn2.cell 9
        have th := tn2.there 3 (by omega)
        have tn3 := tn2.st34 (.slice b3 n3 m3) (.slice b4 n4 m4)
        have f5 := tn3.fz 5
        have d5 := tn3.cell 5
        simp only [List.getElem?_toArray, List.getElem?_cons_succ, List.getElem?_cons_zero] at d5
        have tn4 := tn3.st5 false
        have fin : Tw Ee w0 ((((w1.setCell ⟨t, 2, none⟩ (.bool true)).setCell ⟨t, 3, none⟩ (.slice b3 n3 m3)).setCell ⟨t, 4, none⟩ (.slice b4 n4 m4)).setCell ⟨t, 5, none⟩ (.bool false)) t { T with s := flS T.s, safe := true, A := T.T, op := false } := by
          have F4 : Fr (fun b => b = t) w1 ((((w1.setCell ⟨t, 2, none⟩ (.bool true)).setCell ⟨t, 3, none⟩ (.slice b3 n3 m3)).setCell ⟨t, 4, none⟩ (.slice b4 n4 m4)).setCell ⟨t, 5, none⟩ (.bool false)) := ((((Fr.refl _ w1).own 2 _).own 3 _).own 4 _).own 5 _
          have hsz : w1.heap.size ≤ ((((w1.setCell ⟨t, 2, none⟩ (.bool true)).setCell ⟨t, 3, none⟩ (.slice b3 n3 m3)).setCell ⟨t, 4, none⟩ (.slice b4 n4 m4)).setCell ⟨t, 5, none⟩ (.bool false)).heap.size := F4.size
          obtain ⟨w4, Hw4⟩ : ∃ w4, ((((w1.setCell ⟨t, 2, none⟩ (.bool true)).setCell ⟨t, 3, none⟩ (.slice b3 n3 m3)).setCell ⟨t, 4, none⟩ (.slice b4 n4 m4)).setCell ⟨t, 5, none⟩ (.bool false)) = w4 := ⟨_, rfl⟩
          rw [Hw4] at F4 tn4 ⊢
          have F4' := F4.weak (R := fun b => R b ∨ (w.heap.size ≤ b ∧ b < w1.heap.size)) (fun b _ q => .inl (q ▸ HH.out.rt))
          have hr : ∀ b, (R b ∨ (w.heap.size ≤ b ∧ b < w1.heap.size)) → (R b ∨ (w.heap.size ≤ b ∧ b < w1.heap.size)) ∨ (w1.heap.size ≤ b ∧ b < w4.heap.size) := fun b q => .inl q
          refine ⟨d, g, _, _, _, _, _, _, _, _, _, T1.turn F4' tn4 (z'.q.dv.fr F4 (fun b hb q => T1.qt (q ▸ hb))) ?_ T1.qr (fun b q => q) T1.qt hr (T1.a3.fr F4' hr) (T1.a2.fr F4' hr) (T1.a3.fr F4' hr)⟩
          rw [show ({ T with s := flS T.s, safe := true, A := T.T, op := false } : Tp).lg = some (ep, nx, pl) from hlg]
          exact ⟨⟨_, rfl⟩, fun _ => ⟨rfl, by simp only; rw [HK.out]; exact z'.q.lm.at (F4.same g z'.q.lm.lt gt), z'.q.ng, gt, .inl rg⟩⟩
        rw [HT2.out] at fin
        have HF := hid fin
        clear fin T1 T2 z z' tn1 tn1' tn2 tn3 tn4
        go_wp2_with (first | (go_at_call 21; refine (num12 _ _).mono ?_; rintro e w' ⟨rfl, hw⟩; obtain rfl := hw.symm; clear hw) | (with_reducible show wpList _ _ _ (_ :: _) _ _; refine wpList_acT rfl rfl _ _ rfl t 3 (.slice b3 n3 m3) (.slice b4 n4 m4) rfl rfl rfl rfl (by exact th) ?_))
        go_ret
        exact ⟨rfl, HF.out⟩
      · rw [if_neg (show ¬ E = 0 by rcases hE with q | q <;> (rw [q]; decide))] at HT2
        have T1 := HH.out.wz hlg p2 z HK.out (some (0, 0, 0)) T.safe (.inl rfl) tn1
        have f1 := tn1.fz 1
        have d1 : w1.cell? ⟨t, 1, none⟩ = some (.pointer (some ⟨g, 0, none⟩)) := tn1.cell 1
        have tn2 := tn1.st1 (.pointer none)
        have fin : Tw Ee w0 (w1.setCell ⟨t, 1, none⟩ (.pointer none)) t { T with s := flS T.s, lg := none } := by
          have F4 : Fr (fun b => b = t) w1 (w1.setCell ⟨t, 1, none⟩ (.pointer none)) := (Fr.refl _ w1).own 1 _
          obtain ⟨w4, Hw4⟩ : ∃ w4, (w1.setCell ⟨t, 1, none⟩ (.pointer none)) = w4 := ⟨_, rfl⟩
          rw [Hw4] at F4 tn2 ⊢
          have F4' := F4.weak (R := fun b => R b ∨ (w.heap.size ≤ b ∧ b < w1.heap.size)) (fun b _ q => .inl (q ▸ HH.out.rt))
          have hr : ∀ b, (R b ∨ (w.heap.size ≤ b ∧ b < w1.heap.size)) → (R b ∨ (w.heap.size ≤ b ∧ b < w1.heap.size)) ∨ (w1.heap.size ≤ b ∧ b < w4.heap.size) := fun b q => .inl q
          exact ⟨d, g, _, _, _, _, _, _, _, _, _, T1.turn F4' tn2 (z.q.dv.fr F4 (fun b hb q => T1.qt (q ▸ hb))) rfl T1.qr (fun b q => q) T1.qt hr (T1.a1.fr F4' hr) (T1.a2.fr F4' hr) (T1.a3.fr F4' hr)⟩
        rw [HT2.out] at fin
        have HF := hid fin
        clear fin T1 z tn1 tn2
        rcases hE with rfl | rfl
        · go_wp2_with (go_at_call 21; refine (num12 _ _).mono ?_; rintro e w' ⟨rfl, hw⟩; obtain rfl := hw.symm; clear hw)
          go_ret
          exact ⟨rfl, HF.out⟩
        · go_wp2_with (go_at_call 21; refine (num12 _ _).mono ?_; rintro e w' ⟨rfl, hw⟩; obtain rfl := hw.symm; clear hw)
          go_ret
          exact ⟨rfl, HF.out⟩
end Go.Proofs.YtblcpdffiafgnaaGreatDoor
namespace Go.Proofs.YtblcpdffiafgnaaGreatDoor
set_option linter.unusedSimpArgs false
set_option maxRecDepth 100000
open Go.RowKit Go.Shelf
set_option linter.unusedVariables false
set_option linter.unusedSimpArgs false
variable {Ee : Ex}

/-- The town's own block alone has turned. -/
theorem Ti.own {w0 w w' : World} {t d g : Nat} {l l' : Value} {Q R : Nat → Prop} {s1 x1 s2 x2 s3 x3 u1 y1 u2 y2 u3 y3 : Value} {T T' : Tp} (h : Ti Ee w0 w t d g l Q R s1 x1 s2 x2 s3 x3 T) (F : Fr (fun b => b = t) w w') (tn : Tn w' t d l' T'.safe u1 y1 T'.op u2 y2 u3 y3) (hs : T'.s = T.s) (hl : Lgm w t d g l' Q R T.s.k T'.safe T'.lg) (a1 : Ar w R u1 y1 T'.A) (a2 : Ar w R u2 y2 T'.M) (a3 : Ar w R u3 y3 T'.T) : Ti Ee w0 w' t d g l' Q R u1 y1 u2 y2 u3 y3 T' := by
  have F' : Fr R w w' := F.weak (fun b _ q => q ▸ h.rt)
  have hr : ∀ b, R b → R b ∨ (w.heap.size ≤ b ∧ b < w'.heap.size) := fun b q => .inl q
  refine h.turn F' tn (by rw [hs]; exact h.dv.fr F (fun b hb q => h.qt (q ▸ hb))) ?_ h.qr (fun b q => q) h.qt hr (a1.fr F' hr) (a2.fr F' hr) (a3.fr F' hr)
  rw [hs]
  revert hl
  cases T'.lg with
  | none => exact id
  | some y =>
    obtain ⟨ep, nx, pl⟩ := y
    exact fun hl => ⟨hl.1, fun he => ⟨(hl.2 he).1, (hl.2 he).2.1.at (F.same g (hl.2 he).2.1.lt (hl.2 he).2.2.2.1), (hl.2 he).2.2⟩⟩
def stT (T : Tp) (e : Int) (a : Ac) : Tp := if e = 0 then { T with A := a } else if e = 103 ∨ e = 104 then { T with M := a, op := true, lg := none } else T
set_option maxHeartbeats 8000000 in
theorem settles_ (w0 w : World) (t d g : Nat) (l : Value) (Q R : Nat → Prop) (s1 x1 s2 x2 s3 x3 : Value) (T : Tp) (H : Ti Ee w0 w t d g l Q R s1 x1 s2 x2 s3 x3 T) (e : Int) (he : e = 0 ∨ e = 111 ∨ e = 112 ∨ e = 103 ∨ e = 104) (sa xa : Value) (a : Ac) (hA : Ar w R sa xa a) :
    Calls Tryz.prog 37 #[.pointer (some ⟨t, 0, none⟩), .int .i64 e, .agg #[sa, xa]] w fun en w' => en = .returned (.bool true) ∧ Tw Ee w0 w' t (stT T e a) := by
  obtain ⟨⟨b1, n1, m1, rfl⟩, b2, n2, m2, rfl⟩ := hA.vals
  obtain ⟨⟨b3, n3, m3, rfl⟩, b4, n4, m4, rfl⟩ := H.a1.vals
  obtain ⟨⟨b5, n5, m5, rfl⟩, b6, n6, m6, rfl⟩ := H.a2.vals
  obtain ⟨lp, rfl⟩ := H.lg.ptr
  have B1 : Below w.heap.size w (w.alloc (.cells #[.slice b1 n1 m1, .slice b2 n2 m2] 39)) := (Below.refl _ _).alloc (Nat.le_refl _) _
  have r0 : (w.alloc (.cells #[.slice b1 n1 m1, .slice b2 n2 m2] 39)).heap[w.heap.size]? = some (.cells #[.slice b1 n1 m1, .slice b2 n2 m2] 39 (0, 0)) := World.alloc_heap_new w _
  have c0 : (w.alloc (.cells #[.slice b1 n1 m1, .slice b2 n2 m2] 39)).cell? ⟨w.heap.size, 0, none⟩ = some (.slice b1 n1 m1) := (cell_of_row _ _ 0 _ _ (0, 0) r0).trans rfl
  have c1 : (w.alloc (.cells #[.slice b1 n1 m1, .slice b2 n2 m2] 39)).cell? ⟨w.heap.size, 1, none⟩ = some (.slice b2 n2 m2) := (cell_of_row _ _ 1 _ _ (0, 0) r0).trans rfl
  have H1 := H.below B1
  have hA1 : Ar (w.alloc (.cells #[.slice b1 n1 m1, .slice b2 n2 m2] 39)) R (.slice b1 n1 m1) (.slice b2 n2 m2) a := hA.step (fun b h1 _ => B1.block b h1) (fun _ _ q => q)
  obtain ⟨W, HW⟩ : ∃ W, w.alloc (.cells #[.slice b1 n1 m1, .slice b2 n2 m2] 39) = W := ⟨_, rfl⟩
  rw [HW] at c0 c1 H1 hA1
  obtain ⟨T2, HT2⟩ : ∃ x, Hid (stT T e a = x) := ⟨_, rfl⟩
  rw [HT2.out]
  have HH := hid H1
  have HA := hid hA1
  have htn := H1.tn
  have th3 := htn.there 3 (by omega)
  have th6 := htn.there 6 (by omega)
  have tn6 := htn.st67 (.slice b1 n1 m1) (.slice b2 n2 m2)
  have f5 := tn6.fz 5
  have d5 : ((W.setCell ⟨t, 6, none⟩ (.slice b1 n1 m1)).setCell ⟨t, 7, none⟩ (.slice b2 n2 m2)).cell? ⟨t, 5, none⟩ = some (.bool T.op) := tn6.cell 5
  have tn5 := tn6.st5 true
  have f1 := tn5.fz 1
  have d1 : (((W.setCell ⟨t, 6, none⟩ (.slice b1 n1 m1)).setCell ⟨t, 7, none⟩ (.slice b2 n2 m2)).setCell ⟨t, 5, none⟩ (.bool true)).cell? ⟨t, 1, none⟩ = some (.pointer lp) := tn5.cell 1
  have k1 : Hid (e = 0 → Tw Ee w0 ((W.setCell ⟨t, 3, none⟩ (.slice b1 n1 m1)).setCell ⟨t, 4, none⟩ (.slice b2 n2 m2)) t T2) := fun q => by
    rw [← HT2.out]
    unfold stT
    rw [if_pos q]
    exact ⟨_, _, _, _, _, _, _, _, _, _, _, H1.own (T' := { T with A := a }) (((Fr.refl _ W).own 3 _).own 4 _) (htn.st34 _ _) rfl H1.lg hA1 H1.a2 H1.a3⟩
  have k2 : Hid (e = 111 ∨ e = 112 → Tw Ee w0 W t T2) := fun q => by
    rw [← HT2.out]
    unfold stT
    rw [if_neg (by omega), if_neg (by omega)]
    exact ⟨_, _, _, _, _, _, _, _, _, _, _, H1⟩
  have k3 : Hid (e = 103 ∨ e = 104 → Tw Ee w0 ((((W.setCell ⟨t, 6, none⟩ (.slice b1 n1 m1)).setCell ⟨t, 7, none⟩ (.slice b2 n2 m2)).setCell ⟨t, 5, none⟩ (.bool true)).setCell ⟨t, 1, none⟩ (.pointer none)) t T2) := fun q => by
    rw [← HT2.out]
    unfold stT
    rw [if_neg (by omega), if_pos q]
    exact ⟨_, _, _, _, _, _, _, _, _, _, _, H1.own (T' := { T with M := a, op := true, lg := none }) (((((Fr.refl _ W).own 6 _).own 7 _).own 5 _).own 1 _) (tn5.st1 _) rfl rfl H1.a1 hA1 H1.a3⟩
  clear H H1 hA hA1 htn tn6 tn5 B1 r0
  go_enter Tryz.func37, Tryz.ntmps37
  rcases he with rfl | rfl | rfl | rfl | rfl
  · have kf := hid (k1.out rfl)
    clear k1 k2 k3
    go_wp2_with fail
    refine (num12 _ _).mono ?_
    rintro en w' ⟨rfl, hw⟩
    obtain rfl := hw.symm
    clear hw
    go_wp2_with (with_reducible show wpList _ _ _ (_ :: _) _ _; refine wpList_acT rfl rfl _ _ rfl t 3 (.slice b1 n1 m1) (.slice b2 n2 m2) rfl rfl rfl rfl th3 ?_)
    go_ret
    exact ⟨rfl, kf.out⟩
  · have kf := hid (k2.out (.inl rfl))
    clear k1 k2 k3
    go_wp2_with fail
    refine (num12 _ _).mono ?_
    rintro en w' ⟨rfl, hw⟩
    obtain rfl := hw.symm
    clear hw
    go_wp2_with fail
    go_ret
    exact ⟨rfl, kf.out⟩
  · have kf := hid (k2.out (.inr rfl))
    clear k1 k2 k3
    go_wp2_with fail
    refine (num12 _ _).mono ?_
    rintro en w' ⟨rfl, hw⟩
    obtain rfl := hw.symm
    clear hw
    go_wp2_with fail
    go_ret
    exact ⟨rfl, kf.out⟩
  · have kf := hid (k3.out (.inl rfl))
    clear k1 k2 k3
    go_wp2_with fail
    refine (num12 _ _).mono ?_
    rintro en w' ⟨rfl, hw⟩
    obtain rfl := hw.symm
    clear hw
    go_wp2_with (with_reducible show wpList _ _ _ (_ :: _) _ _; refine wpList_acT rfl rfl _ _ rfl t 6 (.slice b1 n1 m1) (.slice b2 n2 m2) rfl rfl rfl rfl th6 ?_)
    go_ret
    exact ⟨rfl, kf.out⟩
  · have kf := hid (k3.out (.inr rfl))
    clear k1 k2 k3
    go_wp2_with fail
    refine (num12 _ _).mono ?_
    rintro en w' ⟨rfl, hw⟩
    obtain rfl := hw.symm
    clear hw
    go_wp2_with (with_reducible show wpList _ _ _ (_ :: _) _ _; refine wpList_acT rfl rfl _ _ rfl t 6 (.slice b1 n1 m1) (.slice b2 n2 m2) rfl rfl rfl rfl th6 ?_)
    go_ret
    exact ⟨rfl, kf.out⟩
/-- The device alone has made a step. -/
theorem Ti.dev {w0 w w' : World} {t d g : Nat} {l : Value} {Q R : Nat → Prop} {s1 x1 s2 x2 s3 x3 : Value} {T : Tp} {s' : St} (h : Ti Ee w0 w t d g l Q R s1 x1 s2 x2 s3 x3 T) (F : Fr Q w w') (hd : Dev w' d s' (fun b => Q b ∨ (w.heap.size ≤ b ∧ b < w'.heap.size))) (hk : s'.k = T.s.k) : Ti Ee w0 w' t d g l (fun b => Q b ∨ (w.heap.size ≤ b ∧ b < w'.heap.size)) (fun b => R b ∨ (w.heap.size ≤ b ∧ b < w'.heap.size)) s1 x1 s2 x2 s3 x3 { T with s := s' } := by
  have F' : Fr R w w' := F.weak (fun b _ q => h.qr b q)
  have hr : ∀ b, (R b ∨ (w.heap.size ≤ b ∧ b < w'.heap.size)) → R b ∨ (w.heap.size ≤ b ∧ b < w'.heap.size) := fun b q => q
  have hlt := h.tn.lt
  refine h.turn F' (h.tn.fr F h.qt) hd ?_ (fun b q => by
    rcases q with q | q
    · exact .inl (h.qr b q)
    · exact .inr q) (fun b q => .inl q) (fun q => by
    rcases q with q | q
    · exact h.qt q
    · omega) hr (h.a1.fr F' hr) (h.a2.fr F' hr) (h.a3.fr F' hr)
  have hl := h.lg
  simp only
  rw [hk]
  revert hl
  cases T.lg with
  | none => exact id
  | some y =>
    obtain ⟨ep, nx, pl⟩ := y
    refine fun hl => ⟨hl.1, fun he => ?_⟩
    obtain ⟨q1, q2, q3, q4, q5⟩ := hl.2 he
    exact ⟨q1, q2.at (F.same g q2.lt q3), fun q => by
      rcases q with q | q
      · exact q3 q
      · have := q2.lt; omega, q4, .inl q5⟩
set_option maxHeartbeats 4000000 in
theorem tcrash_i (w0 w : World) (t d g : Nat) (l : Value) (Q R : Nat → Prop) (s1 x1 s2 x2 s3 x3 : Value) (T : Tp) (n : Nat) (H : Ti Ee w0 w t d g l Q R s1 x1 s2 x2 s3 x3 T) (hv : Tv T n) (hn : n ≤ 150) (a1 : Option Addr) (n1 c1 : Nat) (ks : List Bool) (hb : Bl w a1 n1 ks) (hq : ∀ ad, a1 = some ad → 0 < n1 → ¬ Q ad.block) (hn1 : n1 ≤ 140737488355328) :
    Calls Tryz.prog 11 #[.pointer (some ⟨t, 0, none⟩), .slice a1 n1 c1] w fun en w' => en = .returned (.tuple #[]) ∧ Tw Ee w0 w' t (crT T ks) := by
  have kc := crash_ d T.s Q a1 n1 c1 ks w H.dv (by have := hv.P; omega) hb hq hn1
  have c0 : w.cell? ⟨t, 0, none⟩ = some (.pointer (some ⟨d, 0, none⟩)) := H.tn.cell 0
  obtain ⟨lp, rfl⟩ := H.lg.ptr
  have HH := hid H
  clear H hb
  go_enter Tryz.func11, Tryz.ntmps11
  go_wp2_with fail
  refine kc.mono ?_
  rintro en w1 ⟨rfl, D1, F1⟩
  simp only
  have T1 := HH.out.dev F1 D1 rfl
  have f1 := T1.tn.fz 1
  have d1 : w1.cell? ⟨t, 1, none⟩ = some (.pointer lp) := T1.tn.cell 1
  have fin : Hid (Tw Ee w0 (w1.setCell ⟨t, 1, none⟩ (.pointer none)) t (crT T ks)) := ⟨_, _, _, _, _, _, _, _, _, _, _, T1.own (T' := crT T ks) ((Fr.refl _ w1).own 1 _) (T1.tn.st1 _) rfl rfl T1.a1 T1.a2 T1.a3⟩
  clear kc T1 D1 F1 c0
  go_wp2_with fail
  go_end0
  exact ⟨rfl, fin.out⟩
theorem tcrash_ (w0 w : World) (t : Nat) (T : Tp) (n : Nat) (h : Tw Ee w0 w t T) (hv : Tv T n) (hn : n ≤ 150) (a1 : Option Addr) (n1 c1 : Nat) (ks : List Bool) (hb : Bl w a1 n1 ks) (hq : ∀ ad, a1 = some ad → 0 < n1 → ad.block < w0.heap.size) (hn1 : n1 ≤ 140737488355328) :
    Calls Tryz.prog 11 #[.pointer (some ⟨t, 0, none⟩), .slice a1 n1 c1] w fun en w' => en = .returned (.tuple #[]) ∧ Tw Ee w0 w' t (crT T ks) := by
  obtain ⟨d, g, l, Q, R, s1, x1, s2, x2, s3, x3, H⟩ := h
  exact tcrash_i w0 w t d g l Q R s1 x1 s2 x2 s3 x3 T n H hv hn a1 n1 c1 ks hb (fun ad ha h0 q => by have := hq ad ha h0; have := (H.rb _ (H.qr _ q)).1; omega) hn1
end Go.Proofs.YtblcpdffiafgnaaGreatDoor
namespace Go.Proofs.YtblcpdffiafgnaaGreatDoor
set_option linter.unusedSimpArgs false
set_option maxRecDepth 100000
open Go.RowKit Go.Shelf
set_option linter.unusedVariables false
set_option linter.unusedSimpArgs false

theorem one_src12 (w : World) (X : Value) (t : TypeId) : ∀ (j : Nat) (u : Value), [X][j]? = some u → (w.alloc (.cells #[X] t)).cell? ((⟨w.heap.size, 0, none⟩ : Addr).add j) = some u := by
  intro j u hj
  match j, hj with
  | 0, hj =>
    simp at hj
    subst hj
    rw [Addr.add_lit, Nat.zero_add]
    exact (cell_of_row _ _ 0 _ _ (0, 0) (World.alloc_heap_new w _)).trans rfl
  | j + 1, hj => simp at hj
theorem wpList_app1 {B : Nat} {wr : World} {ops : Array Oper} {rest : List Oper} {o : Oper} {act : Act} {Q : Exit → Act → World → Prop} (hgd : o.guard = none) (s x : Operand)
    (ho : o.op = .call { callee := .builtin .append, args := #[s, x], argTypes := #[27, 27] })
    (v : Value) (xs : List Int) (X : Int) (hs : act.eval s = v) (hown : wr.ownsRow B 5 1 v xs.length (cells xs)) (hx : act.eval x = .slice (some ⟨wr.heap.size, 0, none⟩) 1 1) (hn : xs.length ≤ 100000) (hb : B ≤ wr.heap.size)
    (h : ∀ v' w', w'.ownsRow B 5 1 v' (xs.length + 1) (cells (xs ++ [X])) → wr.grownBy w' v.ownBlock → wpList Tryz.prog ops Q rest (act.put o.dst v') w') : wpList Tryz.prog ops Q (o :: rest) act (wr.alloc (.cells #[.int .u8 X] 5)) := by
  obtain ⟨i, hi, hz0, hz1, hz2⟩ := info_parts info5
  refine wpList_append_own _ hgd s x 27 ho B 5 i _ 1 1 Tryz.underlying27 hi hz0 hz1 hz2 rfl (by decide) v xs.length (cells xs) hs (World.ownsRow.alloc hown _) ⟨wr.heap.size, 0, none⟩ 1 1 [.int .u8 X] hx rfl (one_src12 wr _ _) (by simp [Value.oneCell']) (by unfold maxLen; omega) (by omega) (by simp; omega) ?_
  intro v' w' h1 h2 _
  have hz : (wr.alloc (.cells #[.int .u8 X] 5)).heap.size = wr.heap.size + 1 := by simp
  refine h v' w' (by simp only [cells, List.map_append] at h1 ⊢; exact h1) ⟨h2.os, h2.tape, h2.output, by have := h2.size; omega, fun k hk e => (h2.block k (by omega) e).trans (Below.heap_alloc _ _ _ hk)⟩
theorem below_app {B : Nat} {W wr w' : World} {v : Value} {n : Nat} {xs : List Value} (hB : Below B W wr) (hown : wr.ownsRow B 5 1 v n xs) (hg : wr.grownBy w' v.ownBlock) (hs : B ≤ wr.heap.size) : Below B W w' :=
  ⟨hg.os.trans hB.os, hg.tape.trans hB.tape, hg.output.trans hB.output, Nat.le_trans hB.size hg.size, fun b hb => (hg.block b (by omega) (fun e => by have := (hown.lt b e.symm).1; omega)).trans (hB.block b hb)⟩
theorem u8_wrap (z : Int) : 0 ≤ IntKind.u8.wrap z ∧ IntKind.u8.wrap z ≤ 255 := by
  have : IntKind.u8.wrap z = z % 256 := by rfl
  rw [this]
  omega
set_option maxHeartbeats 4000000 in
theorem bytes12_ (n : Int) (w : World) : Calls Tryz.prog 34 #[.int .i64 n] w fun en w' => ∃ v, en = .returned v ∧ ∃ zs : List Int, w'.ownsRow w.heap.size 5 1 v zs.length (cells zs) ∧ By zs ∧ zs.length ≤ 40000 ∧ Below w.heap.size w w' := by
  go_enter Tryz.func34, Tryz.ntmps34
  go_wp2_with fail
  go_loopw [3, 4] (fun v i wr => ∃ (j : Nat) (zs : List Int), j ≤ 40000 ∧ i = .int .i64 j ∧ zs.length = j ∧ wr.ownsRow w.heap.size 5 1 v zs.length (cells zs) ∧ By zs ∧ Below w.heap.size w wr) (fun _ i _ => 40000 - (intOf i).toNat)
  case atStart => exact ⟨0, [], by omega, rfl, rfl, World.ownsRow_nil _ _ _ _, fun z hz => (by cases hz), Below.refl _ _⟩
  case round =>
    obtain ⟨j, zs, hj, rfl, hzl, ho, hby, hb⟩ := hrel
    have HO := hid ho
    have HY := hid hby
    have HB := hid hb
    have hsz := hb.size
    clear ho hby hb
    by_cases hlt : (j : Int) < n ∧ (j : Int) < 40000
    · obtain ⟨h1, h2⟩ := hlt
      obtain ⟨a3, c3, e3⟩ := own_sl12 HO.out
      subst e3
      go_wp2_with (first | (at_builtin; refine wpList_app1 (B := w.heap.size) rfl _ _ rfl (.slice a3 zs.length c3) zs _ rfl (by exact HO.out) rfl (by omega) (by omega) ?_; intro v' w' h5 h6))
      go_roundw
      case rel => exact ⟨j + 1, zs ++ [_], by omega, by go_num, by simp; omega, by rw [List.length_append]; exact h5, By.app HY.out (fun z hz => by rw [List.mem_singleton.1 hz]; exact u8_wrap _), below_app HB.out HO.out h6 (by omega)⟩
      case measure => simp [intOf]; omega
    · by_cases h1 : (j : Int) < n
      · have h2 : ¬ (j : Int) < 40000 := fun q => hlt ⟨h1, q⟩
        go_wp2_with fail
        go_ret
        exact ⟨_, rfl, zs, HO.out, HY.out, by omega, HB.out⟩
      · go_wp2_with fail
        go_ret
        exact ⟨_, rfl, zs, HO.out, HY.out, by omega, HB.out⟩
end Go.Proofs.YtblcpdffiafgnaaGreatDoor
