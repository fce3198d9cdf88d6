import Derived.Test.YteeapmcpbmjpmaaGreatZD
import Derived.Deep.AppendLies
import Derived.Deep.RegionHeldLaw
import Derived.Deep.CutRange
namespace Go.Proofs.YteeapmcpbmjpmaaGreat
set_option maxRecDepth 100000
open Go.RowKit
set_option linter.unusedVariables false

/-! The document's put. -/
theorem step_appRowZ {w : World} {ops : Array Oper} {o : Oper} {act : Act} {K : Act → World → Prop} {Q : Exit → Act → World → Prop} {E : Prop} (hgd : o.guard = none) (s x : Operand)
    (ho : o.op = .call { callee := .builtin .append, args := #[s, x], argTypes := #[28, 28] })
    (base : Nat) (v : Value) (ds : List RD) (hs : act.eval s = v) (hown : w.ownsRow base 55 2 v ds.length (rds ds)) (g : Nat) (d : RD) (hx : act.eval x = .slice (some ⟨g, 0, none⟩) 1 1)
    (hg : ∀ j u, (rdc d)[j]? = some u → w.cell? ⟨g, j, none⟩ = some u) (hlen : ds.length ≤ 1000000000) (hbase : base ≤ w.heap.size) (n' : Nat) (hn' : Hid (ds.length + 1 = n'))
    (h : ∀ g' cap w', Hid (w'.ownsRow base 55 2 (.slice (some ⟨g', 0, none⟩) n' cap) (ds ++ [d]).length (rds (ds ++ [d]))) → Hid (w.grownBy w' v.ownBlock) → Hid (v.ownBlock = some g' ∨ g' = w.heap.size) → K (act.put o.dst (.slice (some ⟨g', 0, none⟩) n' cap)) w') : if Region.wanted o (yielded ops act.tmps) = true then Oper.wp Tryz.prog o act w K Q else E := by
  obtain ⟨i, hi, hz0, hz1, hz2⟩ := info_parts infoR
  refine step_append_lies _ hgd s x 28 ho base 55 i _ 2 48 Tryz.underlying28 hi hz0 hz1 hz2 rfl (by decide) v ds.length (rds ds) hs hown ⟨g, 0, none⟩ 1 1 (rdc d) hx rfl ?c1 ?c2 (by decide) (by unfold maxLen; omega) (by omega) hbase _ rfl ?_
  case c1 =>
    intro j u hj
    rw [Addr.add_lit, Nat.zero_add]
    exact hg j u hj
  case c2 =>
    intro u hu
    exact rds_one [d] u (by simpa [rds] using hu)
  intro g' cap w' h1 h2 h3 _
  rw [hn'.out] at h1 ⊢
  refine h g' cap w' ?_ h2 h3
  show w'.ownsRow _ _ _ _ _ _
  rw [List.length_append, List.length_singleton, rds_app, hn'.out]
  simpa [rds] using h1
/-- The list in the making: rows of one's own since w; what they hold lies elsewhere. -/
structure Mk (w W : World) (V : Nat → Prop) (v : Value) (ds : List RD) : Prop where
  own : W.ownsRow w.heap.size 55 2 v ds.length (rds ds)
  rv : ∀ d ∈ ds, RV2 W (fun x => (V x ∨ w.heap.size ≤ x) ∧ v.ownBlock ≠ some x) d
  bel : Below w.heap.size w W
section
variable {w W W' : World} {V : Nat → Prop} {v v' : Value} {ds es : List RD}
theorem RV2.stepZ {w w' : World} {U : Nat → Prop} {d : RD} (h : RV2 w U d) (hk : ∀ x, x < w.heap.size → U x → (∀ es cl, w.heap[x]? ≠ some (.map es cl)) → w'.heap[x]? = w.heap[x]?) : RV2 w' U d := ⟨h.1.step hk, h.2.step hk⟩
theorem RV2.wideZ {w : World} {U U' : Nat → Prop} {d : RD} (h : RV2 w U d) (hU : ∀ x, x < w.heap.size → U x → U' x) : RV2 w U' d := ⟨h.1.wide hU, h.2.wide hU⟩
theorem Mk.nil (hb : Below w.heap.size w W) : Mk w W V (.slice none 0 0) [] := ⟨World.ownsRow_nil _ _ _ _, fun d hd => by simp at hd, hb⟩
theorem Mk.on (h : Mk w W V v ds) (hb : Below W.heap.size W W') : Mk w W' V v ds := ⟨own_bel h.own hb, fun d hd => (h.rv d hd).stepZ fun x hx _ _ => hb.block x hx, bel_bel h.bel h.bel.size hb⟩
/-- Rows are appended. -/
theorem Mk.app (h : Mk w W V v ds) (hes : ∀ d ∈ es, RV2 W (fun x => (V x ∨ w.heap.size ≤ x) ∧ v.ownBlock ≠ some x) d) (ho : W'.ownsRow w.heap.size 55 2 v' (ds ++ es).length (rds (ds ++ es))) (hg : W.grownBy W' v.ownBlock) (hb : v'.ownBlock = v.ownBlock ∨ v'.ownBlock = some W.heap.size) : Mk w W' V v' (ds ++ es) := by
  have hlt : ∀ x, v.ownBlock = some x → w.heap.size ≤ x := fun x e => (World.ownsRow.lt h.own x e).1
  refine ⟨ho, fun d hd => ?_, ⟨hg.os.trans h.bel.os, hg.tape.trans h.bel.tape, hg.output.trans h.bel.output, Nat.le_trans h.bel.size hg.size, fun k hk => (hg.block k (Nat.lt_of_lt_of_le hk h.bel.size) (fun e => by have := hlt k e.symm; omega)).trans (h.bel.block k hk)⟩⟩
  have hall : RV2 W (fun x => (V x ∨ w.heap.size ≤ x) ∧ v.ownBlock ≠ some x) d := by
    rcases List.mem_append.1 hd with hd | hd
    · exact h.rv d hd
    · exact hes d hd
  have h2 : RV2 W (fun x => ((V x ∨ w.heap.size ≤ x) ∧ v.ownBlock ≠ some x) ∧ x < W.heap.size) d := hall.wideZ fun x hx hy => ⟨hy, hx⟩
  refine (h2.stepZ fun x hx hy _ => hg.block x hx (fun e => hy.1.2 e.symm)).wideZ fun x _ hy => ⟨hy.1.1, fun q => ?_⟩
  rcases hb with z | z
  · rw [z] at q; exact hy.1.2 q
  · rw [z] at q; have := Option.some.inj q; have := hy.2; omega
end
end Go.Proofs.YteeapmcpbmjpmaaGreat
namespace Go.Proofs.YteeapmcpbmjpmaaGreat
set_option maxRecDepth 100000
open Go.RowKit
set_option linter.unusedVariables false

/-- What the document's put leaves. -/
def PuP (w : World) (V : Nat → Prop) (t : Nat) (M' : Tab) (e : Ending) (w' : World) : Prop :=
  e = .returned (.tuple #[]) ∧ ∃ a' c', Dd w' (fun x => (V x ∨ w.heap.size ≤ x) ∧ x ≠ t) t a' M'.length c' M' ∧ M'.length ≤ c' ∧ c' ≤ maxLen ∧ w.grownBy w' (some t)
theorem Rl.dropZ {w : World} {V : Nat → Prop} {a : Option Addr} {n i c : Nat} {l : Tab} (h : Rl w V a n l) (hi : i ≤ n) (hc : n ≤ c) : Rl w V (if c = i then a else Option.map (fun x => x.add (i * 2)) a) (n - i) (l.drop i) := by
  by_cases e : c = i
  · exact ⟨by rw [List.length_drop, h.len], .inl (by omega)⟩
  · rw [if_neg e]
    rcases id h.cells with h0 | ⟨b, off, ea, hb, hcl⟩
    · exact ⟨by rw [List.length_drop, h.len], .inl (by omega)⟩
    · subst ea
      have := h.drop hi
      simpa [Addr.add_lit] using this
theorem own_cap {w : World} {base T n c k : Nat} {a : Option Addr} {cs : List Value} (h : w.ownsRow base T 2 (.slice a n c) k cs) : n ≤ c ∧ c ≤ maxLen := by
  rcases h.2 with ⟨e, hn⟩ | ⟨g, cap, cur, e, hb, hg, hnc, hcm, hcs, ht⟩
  · injection e with e1 e2 e3
    subst e2 e3
    exact ⟨Nat.le_refl _, by unfold maxLen; omega⟩
  · injection e with e1 e2 e3
    subst e2 e3
    exact ⟨hnc, hcm⟩
/-- The list that was made is laid into the table's variable. -/
theorem put_end {w W : World} {V : Nat → Prop} {t : Nat} {a : Option Addr} {m c : Nat} {v : Value} {ds : List RD} (h : Mk w W V v ds) (hlt : t < w.heap.size) (hvar : w.heap[t]? = some (.cells #[.slice a m c] 30 (0, 0))) (hV : ∀ x, V x → x < w.heap.size ∧ x ≠ t) :
    ∃ a' c', v = .slice a' ds.length c' ∧ Dd (W.setCell ⟨t, 0, none⟩ (.slice a' ds.length c')) (fun x => (V x ∨ w.heap.size ≤ x) ∧ x ≠ t) t a' ds.length c' (ds.map (·.s)) ∧ ds.length ≤ c' ∧ c' ≤ maxLen ∧ w.grownBy (W.setCell ⟨t, 0, none⟩ (.slice a' ds.length c')) (some t) := by
  obtain ⟨a', c', e, hr⟩ := Rl.own (V := fun x => (V x ∨ w.heap.size ≤ x) ∧ x ≠ t) h.own (fun d hd => (h.rv d hd).wideZ fun x _ hx => ⟨hx.1, fun e => by rcases hx.1 with q | q; exact (hV x q).2 e; omega⟩) (fun x hx => by have := (World.ownsRow.lt h.own x hx).1; exact ⟨.inr this, by omega⟩)
  have ho := h.own
  rw [e] at ho
  obtain ⟨q1, q2⟩ := own_cap ho
  have hset : ∀ x, x ≠ t → (W.setCell ⟨t, 0, none⟩ (.slice a' ds.length c')).heap[x]? = W.heap[x]? := fun x hx => by simp [World.setCell, Array.getElem?_modify, Ne.symm hx]
  refine ⟨a', c', e, ⟨?_, hr.step fun x hx hy _ => hset x hy.2⟩, q1, q2, ⟨h.bel.os, h.bel.tape, h.bel.output, ?_, fun k hk hn => ?_⟩⟩
  · simp [World.setCell, Array.getElem?_modify, (h.bel.block t hlt).trans hvar]
  · have := h.bel.size; simpa [World.setCell] using this
  · exact (hset k (fun e => hn (by rw [e]))).trans (h.bel.block k hk)
set_option maxHeartbeats 8000000 in
theorem rput_ (V : Nat → Prop) (t : Nat) (a : Option Addr) (m c : Nat) (M : Tab) (ka va : Option Addr) (kc vc : Nat) (s : Sx) (w : World) (hd : Dd w V t a m c M) (hS : Srt M) (hb : ∀ p ∈ M, p.1.length ≤ 100000000) (hm : m ≤ 10000000) (hmc : m ≤ c) (hcm : c ≤ maxLen) (hV : ∀ x, V x → x < w.heap.size ∧ x ≠ t) (hk : Bs w ka s.k.length s.k) (hv : Bs w va s.v.length s.v) (hkl : s.k.length ≤ 100000000) (hvl : s.v.length ≤ 100000000) :
    Calls Tryz.prog 59 #[.pointer (some ⟨t, 0, none⟩), .agg #[.slice ka s.k.length kc, .slice va s.v.length vc, .bool s.g]] w (PuP w V t (doS M s)) := by
  have hlen : M.length = m := hd.rl.len
  have hgl := gap_le hS s.k
  rw [doS_at hS]
  obtain ⟨k, x, gn⟩ := s
  simp only at hk hv hkl hvl hgl ⊢
  have hZ : gapT M k = if (look M k).isSome then posT M k + 1 else posT M k := rfl
  obtain ⟨kn, hkn⟩ : ∃ z, k.length = z := ⟨_, rfl⟩
  obtain ⟨xn, hxn⟩ : ∃ z, x.length = z := ⟨_, rfl⟩
  have HKN := hid hkn
  have HXN := hid hxn
  rw [hkn] at hk hkl ⊢
  rw [hxn] at hv hvl ⊢
  have B1 : Below w.heap.size w (w.alloc (.cells #[.slice ka kn kc, .slice va xn vc, .bool gn] 44)) := (Below.refl _ _).alloc (Nat.le_refl _) _
  have HN1 : Hid ((w.alloc (.cells #[.slice ka kn kc, .slice va xn vc, .bool gn] 44)).heap[w.heap.size]? = some (.cells #[.slice ka kn kc, .slice va xn vc, .bool gn] 44 (0, 0))) := heap_alloc_new w _
  have HDW : Hid (∀ wx, Below w.heap.size w wx → Dd wx V t a m c M) := fun wx g => ⟨(g.block t (Array.getElem?_eq_some_iff.1 hd.var).1).trans hd.var, hd.rl.step fun y hy _ _ => g.block y hy⟩
  have HKB := hid hk
  have HXB := hid hv
  obtain ⟨W1, HW1⟩ : ∃ z, Hid (w.alloc (.cells #[.slice ka kn kc, .slice va xn vc, .bool gn] 44) = z) := ⟨_, rfl⟩
  obtain ⟨sb, HSB⟩ : ∃ z, Hid (w.heap.size = z) := ⟨_, rfl⟩
  rw [HW1.out] at B1 HN1
  have kf := rfind_ V t a m c M ka kn kc k W1 (HDW.out W1 B1) hS hb (by omega) (hk.below B1) hkl
  obtain ⟨P, hP⟩ : ∃ z, posT M k = z := ⟨_, rfl⟩
  obtain ⟨Z, hZe⟩ : ∃ z, (look M k).isSome = z := ⟨_, rfl⟩
  obtain ⟨G, hG⟩ : ∃ z, gapT M k = z := ⟨_, rfl⟩
  rw [hP, hG] at hgl
  rw [hP, hZe] at kf
  rw [hP, hZe, hG] at hZ
  rw [hP, hG]
  rw [hlen] at hgl
  obtain ⟨md, HMD⟩ : ∃ z, Hid ((if gn = true then [] else [(k, x)]) = z) := ⟨_, rfl⟩
  rw [HMD.out]
  obtain ⟨M', HMX⟩ : ∃ z, Hid (M.take P ++ md ++ M.drop G = z) := ⟨_, rfl⟩
  rw [HMX.out]
  have hlt := (Array.getElem?_eq_some_iff.1 hd.var).1
  have HB1 := hid B1
  have HZ := hid hZ
  have HRL := hid hd.rl
  have HDV := hid hd.var
  have HPG : Hid (P ≤ G ∧ G ≤ m ∧ m ≤ c ∧ c ≤ maxLen ∧ m ≤ 10000000) := ⟨hgl.1, hgl.2, hmc, hcm, hm⟩
  have HV := hid hV
  have HLT := hid hlt
  have HSZ : Hid (W1.heap.size = sb + 1) := by show _ = _; rw [← HW1.out, ← HSB.out]; simp
  have e0 : W1.cell? ⟨sb, 0, none⟩ = some (.slice ka kn kc) := by rw [← HSB.out]; exact (cell_of_row _ _ 0 _ _ (0, 0) HN1.out).trans rfl
  have hPI : (P : Int) ≤ m := by omega
  have hPc : (P : Int) ≤ c := by omega
  clear hd hS hb hk hv hlen hV hlt B1 hP hZe hG hkn hxn hZ
  go_enter Tryz.func59, Tryz.ntmps59
  go_upto_region 1 with fail
  rw [HW1.out, HSB.out]
  go_wp2_with fail
  refine kf.mono ?_
  rintro e w2 ⟨rfl, nq, rfl⟩
  have HB2 : Hid (Below w.heap.size w (W1.drewN nq)) := bel_bel HB1.out HB1.out.size ⟨rfl, rfl, rfl, Nat.le_refl _, fun _ _ => rfl⟩
  have HN2 : Hid ((W1.drewN nq).heap[sb]? = some (.cells #[.slice ka kn kc, .slice va xn vc, .bool gn] 44 (0, 0))) := by rw [← HSB.out]; exact HN1.out
  obtain ⟨w2, HW2⟩ : ∃ z, Hid (W1.drewN nq = z) := ⟨_, rfl⟩
  rw [HW2.out] at HB2 HN2 ⊢
  have d0 := (HDW.out w2 HB2.out).cell
  clear kf e0 HW1 HN1 HW2
  have HR2 := hid ((HDW.out w2 HB2.out).rl.take (i := P) (by have := HPG.out; omega))
  go_upto_region 4 with (at_builtin; refine wpList_appRl (V := V) rfl _ _ rfl w.heap.size (.slice none 0 0) [] rfl (World.ownsRow_nil _ _ _ _) a P c (M.take P) rfl HR2.out (by simp) (by have := HPG.out; omega) HB2.out.size ?_; intro v1 w3 es he hrv ho hg hbk; have M3 := (Mk.nil (V := V) HB2.out).app (fun d hd => (hrv d hd).wideZ fun y _ hy => ⟨.inl hy, by simp [Value.ownBlock]⟩) ho hg hbk; have HM3 := hid M3; have HE3 := hid he; have HG3 := hid hg; clear M3 hrv ho hg hbk he)
  have HN3 : Hid (w3.heap[sb]? = some (.cells #[.slice ka kn kc, .slice va xn vc, .bool gn] 44 (0, 0))) := (HG3.out.block sb (Array.getElem?_eq_some_iff.1 HN2.out).1 (by simp [Value.ownBlock])).trans HN2.out
  have e2 : w3.cell? ⟨sb, 2, none⟩ = some (.bool gn) := (cell_of_row _ _ 2 _ _ (0, 0) HN3.out).trans rfl
  clear d0
  cases gn
  case false =>
    have e0 : w3.cell? ⟨sb, 0, none⟩ = some (.slice ka kn kc) := (cell_of_row _ _ 0 _ _ (0, 0) HN3.out).trans rfl
    have e1 : w3.cell? ⟨sb, 1, none⟩ = some (.slice va xn vc) := (cell_of_row _ _ 1 _ _ (0, 0) HN3.out).trans rfl
    have E0 := hid e0
    have E1 := hid e1
    have HSBL : Hid (sb < w3.heap.size) := (Array.getElem?_eq_some_iff.1 HN3.out).1
    have HNE : Hid (v1.ownBlock ≠ some sb) := by
      intro q
      rcases HM3.out.own.2 with ⟨e, _⟩ | ⟨g, cap, cur, e, hb, hg, _⟩
      · rw [e] at q; simp [Value.ownBlock] at q
      · rw [e] at q
        simp [Value.ownBlock] at q
        subst q
        have := hg.symm.trans HN3.out
        simp at this
    have k1 := fun wx (q : Bs wx ka kn k) => refBytes ka kn kc k wx q (by omega)
    have k2 := fun wx (q : Bs wx va xn x) => refBytes va xn vc x wx q (by omega)
    have H1 := hid (HKB.out.below HM3.out.bel)
    have H2 := hid (HXB.out.below HM3.out.bel)
    have HOK1 := hid H1.out.2.1
    have HOK2 := hid H2.out.2.1
    have HDS : Hid ((([] : List RD) ++ es).map (·.s) = M.take P) := by show _ = _; simpa using HE3.out
    obtain ⟨ds, HDE⟩ : ∃ z, Hid (([] : List RD) ++ es = z) := ⟨_, rfl⟩
    rw [HDE.out] at HDS HM3
    have HDL : Hid (ds.length ≤ 10000000) := by show _ ≤ _; have := congrArg List.length HDS.out; simp at this; have := HPG.out; omega
    obtain ⟨n', HN'⟩ : ∃ z, Hid (ds.length + 1 = z) := ⟨_, rfl⟩
    go_upto_region 5 with fail
    go_wp2_with fail
    go_region_held_law (fun wx => wx.cell? ⟨sb, 0, none⟩ = some (.slice ka kn kc) ∧ wx.cell? ⟨sb, 1, none⟩ = some (.slice va xn vc)) (go_keep) (first
      | (go_simp; go_at_call 44; have HQ := G1; refine (k2 _ (by exact H2.out.below HQ.out)).mono ?_; rintro e w5 ⟨v3, rfl, o3, g3⟩; obtain ⟨a3, c3, hv3, vs3⟩ := Vs.ofOwn o3 HOK2.out; subst hv3; have HB3 : Hid (Below w3.heap.size w3 w5) := (bel_bel HQ.out HQ.out.size g3); have z0 := (HB3.out.cell (p := ⟨sb, 0, none⟩) HSBL.out).trans E0.out; have z1 := (HB3.out.cell (p := ⟨sb, 1, none⟩) HSBL.out).trans E1.out; have HVK3 := hid (HVK.out.step fun x hx _ _ => g3.block x hx); have HVU3 := hid (vs3.wide (V' := fun x => w3.heap.size ≤ x) fun x _ h => Nat.le_trans HQ.out.size h); clear o3 g3 vs3 G1 HVK)
      | (go_simp; go_at_call 44; refine (k1 _ (by exact H1.out)).mono ?_; rintro e w4 ⟨v2, rfl, o2, g2⟩; obtain ⟨a2, c2, hv2, vs2⟩ := Vs.ofOwn o2 HOK1.out; subst hv2; have G1 : Hid (Below w3.heap.size w3 w4) := (⟨g2.os, g2.tape, g2.output, g2.size, g2.block⟩ : Below w3.heap.size w3 w4); have y0 := (G1.out.cell (p := ⟨sb, 0, none⟩) HSBL.out).trans E0.out; have y1 := (G1.out.cell (p := ⟨sb, 1, none⟩) HSBL.out).trans E1.out; have HVK : Hid (Vs w4 (fun x => w3.heap.size ≤ x) a2 kn c2 k) := vs2; clear o2 g2 vs2)
      | (refine step_appRowZ (by rfl) (.tmp 25) (.tmp 33) (by rfl) w.heap.size v1 ds (by rfl) (by exact (own_bel HM3.out.own HB3.out).alloc _) w5.heap.size ⟨a2, c2, a3, c3, (k, x)⟩ (by rfl) (by exact fun j u hj => by simp only [rdc, HKN.out, HXN.out] at hj; rw [cell_of_row _ w5.heap.size j _ 55 (0, 0) (heap_alloc_new w5 _)]; simpa using hj) (by have := HDL.out; omega) (by have := HM3.out.bel.size; have := HB3.out.size; simp; omega) n' HN' ?_; intro g6 cap6 w6 HO6 HG6 HL6; have HB6 : Hid (w6.heap[sb]? = w3.heap[sb]?) := (HG6.out.block sb (by have := HSBL.out; have := HB3.out.size; simp; omega) (fun e => HNE.out e.symm)).trans ((Below.heap_alloc w5 _ sb (by have := HSBL.out; have := HB3.out.size; omega)).trans (HB3.out.block sb HSBL.out)); have z0 := (World.cell?_of_block (w := w3) (w' := w6) (a := ⟨sb, 0, none⟩) HB6.out).trans E0.out; have z1 := (World.cell?_of_block (w := w3) (w' := w6) (a := ⟨sb, 1, none⟩) HB6.out).trans E1.out; clear HB6))
    all_goals
      have HVD : Hid (RV2 w5 (fun x => w3.heap.size ≤ x) ⟨a2, c2, a3, c3, (k, x)⟩) := ⟨by show Vs _ _ _ k.length _ _; rw [HKN.out]; exact HVK3.out, by show Vs _ _ _ x.length _ _; rw [HXN.out]; exact HVU3.out⟩
      have HM6 := hid ((HM3.out.on (W' := w5.alloc (.cells #[.slice a2 kn c2, .slice a3 xn c3] 55)) (bel_bel HB3.out HB3.out.size ((Below.refl w5.heap.size w5).alloc (Nat.le_refl _) _))).app (es := [⟨a2, c2, a3, c3, (k, x)⟩]) (fun d hd => by rw [List.mem_singleton.1 hd]; exact (HVD.out.stepZ fun y hy _ _ => Below.heap_alloc w5 _ y hy).wideZ fun y _ hy => ⟨.inr (Nat.le_trans HM3.out.bel.size hy), fun q => by have := (World.ownsRow.lt HM3.out.own y q).2; omega⟩) HO6.out HG6.out (HL6.out.elim (fun e => .inl e.symm) (fun e => .inr (by rw [e]; rfl))))
      have HDSZ : Hid ((ds ++ [(⟨a2, c2, a3, c3, (k, x)⟩ : RD)]).map (·.s) = M.take P ++ md) := by show _ = _; rw [List.map_append, HDS.out, ← HMD.out]; simp
      clear HDS
      have HDS := HDSZ
      clear HDSZ
      obtain ⟨dz, HDF⟩ : ∃ z, Hid (ds ++ [(⟨a2, c2, a3, c3, (k, x)⟩ : RD)] = z) := ⟨_, rfl⟩
      rw [HDF.out] at HDS HM6
      have HDN : Hid (dz.length ≤ 100000000) := by show _ ≤ _; rw [← HDF.out]; have := HDL.out; simp; omega
      clear HO6 HG6 HL6 HVK3 HVU3 HB3 z0 z1 k1 k2
      have d0 := (HDW.out w6 HM6.out.bel).cell
      have HR3 := hid ((HDW.out w6 HM6.out.bel).rl.dropZ (c := c) (i := G) HPG.out.2.1 HPG.out.2.2.1)
      obtain ⟨ga, HGA⟩ : ∃ z, Hid ((if c = G then a else Option.map (fun x => x.add (G * 2)) a) = z) := ⟨_, rfl⟩
      rw [HGA.out] at HR3
      have hGI : (G : Int) ≤ m := by have := HPG.out; omega
      have hGc : (G : Int) ≤ c := by have := HPG.out; omega
      have fin : ∀ v4 w4 es4, es4.map (·.s) = M.drop G → (∀ d ∈ es4, RV2 w6 V d) → w4.ownsRow w.heap.size 55 2 v4 (dz ++ es4).length (rds (dz ++ es4)) → w6.grownBy w4 (Value.slice (some ⟨g6, 0, none⟩) n' cap6).ownBlock → (v4.ownBlock = (Value.slice (some ⟨g6, 0, none⟩) n' cap6).ownBlock ∨ v4.ownBlock = some w6.heap.size) → ∃ a' dn c', v4 = .slice a' dn c' ∧ Hid (PuP w V t M' (.returned (.tuple #[])) (w4.setCell ⟨t, 0, none⟩ (.slice a' dn c'))) ∧ w4.cell? ⟨t, 0, none⟩ = some (.slice a m c) ∧ w4.frozen? ⟨t, 0, none⟩ = false := by
        intro v4 w4 es4 he4 hrv4 ho4 hg4 hbk4
        have M4 := HM6.out.app (fun d hd => (hrv4 d hd).wideZ fun y _ hy => ⟨.inl hy, fun q => by have := (World.ownsRow.lt HM6.out.own y q).1; have := (HV.out y hy).1; omega⟩) ho4 hg4 hbk4
        obtain ⟨a', c', ev, hdd, hc1, hc2, hgr⟩ := put_end M4 HLT.out HDV.out HV.out
        have hM : (dz ++ es4).map (·.s) = M' := by rw [List.map_append, HDS.out, he4, HMX.out]
        have hl : (dz ++ es4).length = M'.length := by rw [← hM, List.length_map]
        rw [hl] at ev hdd hc1 hgr
        rw [hM] at hdd
        exact ⟨a', _, c', ev, ⟨rfl, a', c', hdd, hc1, hc2, hgr⟩, (HDW.out w4 M4.bel).cell, by simp [World.frozen?, (HDW.out w4 M4.bel).var]⟩
      have HFIN := hid fin
      clear fin
      cases Z
      · have HZP : Hid ((P : Int) = G) := by show _ = _; have := HZ.out; simp at this; omega
        go_upto_region 8 with fail
        rw [HZP.out]
        go_wp2_with (at_builtin; rw [HGA.out]; refine wpList_appRl (V := V) rfl _ _ rfl w.heap.size (.slice (some ⟨g6, 0, none⟩) n' cap6) dz rfl HM6.out.own ga (m - G) (c - G) (M.drop G) rfl HR3.out HDN.out (by have := HPG.out; omega) HM6.out.bel.size ?_; intro v4 w4 es4 he4 hrv4 ho4 hg4 hbk4; obtain ⟨a', dn, c', hv4, HPU, d4, f4⟩ := HFIN.out v4 w4 es4 he4 hrv4 ho4 hg4 hbk4; subst hv4; clear hrv4 ho4 hg4 hbk4 he4)
        go_end0
        exact HPU.out
      · have HZP : Hid ((P : Int) + 1 = G) := by show _ = _; have := HZ.out; simp at this; omega
        go_upto_region 8 with fail
        rw [HZP.out]
        go_wp2_with (at_builtin; rw [HGA.out]; refine wpList_appRl (V := V) rfl _ _ rfl w.heap.size (.slice (some ⟨g6, 0, none⟩) n' cap6) dz rfl HM6.out.own ga (m - G) (c - G) (M.drop G) rfl HR3.out HDN.out (by have := HPG.out; omega) HM6.out.bel.size ?_; intro v4 w4 es4 he4 hrv4 ho4 hg4 hbk4; obtain ⟨a', dn, c', hv4, HPU, d4, f4⟩ := HFIN.out v4 w4 es4 he4 hrv4 ho4 hg4 hbk4; subst hv4; clear hrv4 ho4 hg4 hbk4 he4)
        go_end0
        exact HPU.out
  case true =>
    go_upto_region 6 with fail
    have HDS : Hid ((([] : List RD) ++ es).map (·.s) = M.take P ++ md) := by show _ = _; rw [← HMD.out]; simpa using HE3.out
    obtain ⟨ds, HDE⟩ : ∃ z, Hid (([] : List RD) ++ es = z) := ⟨_, rfl⟩
    rw [HDE.out] at HDS HM3
    have HDN : Hid (ds.length ≤ 100000000) := by show _ ≤ _; have := congrArg List.length HDS.out; rw [← HMD.out] at this; simp at this; have := HPG.out; omega
    have d0 := (HDW.out w3 HM3.out.bel).cell
    have HR3 := hid ((HDW.out w3 HM3.out.bel).rl.dropZ (c := c) (i := G) HPG.out.2.1 HPG.out.2.2.1)
    obtain ⟨ga, HGA⟩ : ∃ z, Hid ((if c = G then a else Option.map (fun x => x.add (G * 2)) a) = z) := ⟨_, rfl⟩
    rw [HGA.out] at HR3
    have hGI : (G : Int) ≤ m := by have := HPG.out; omega
    have hGc : (G : Int) ≤ c := by have := HPG.out; omega
    have fin : ∀ v4 w4 es4, es4.map (·.s) = M.drop G → (∀ d ∈ es4, RV2 w3 V d) → w4.ownsRow w.heap.size 55 2 v4 (ds ++ es4).length (rds (ds ++ es4)) → w3.grownBy w4 v1.ownBlock → (v4.ownBlock = v1.ownBlock ∨ v4.ownBlock = some w3.heap.size) → ∃ a' dn c', v4 = .slice a' dn c' ∧ Hid (PuP w V t M' (.returned (.tuple #[])) (w4.setCell ⟨t, 0, none⟩ (.slice a' dn c'))) ∧ w4.cell? ⟨t, 0, none⟩ = some (.slice a m c) ∧ w4.frozen? ⟨t, 0, none⟩ = false := by
      intro v4 w4 es4 he4 hrv4 ho4 hg4 hbk4
      have M4 := HM3.out.app (fun d hd => (hrv4 d hd).wideZ fun y _ hy => ⟨.inl hy, fun q => by have := (World.ownsRow.lt HM3.out.own y q).1; have := (HV.out y hy).1; omega⟩) ho4 hg4 hbk4
      obtain ⟨a', c', ev, hdd, hc1, hc2, hgr⟩ := put_end M4 HLT.out HDV.out HV.out
      have hM : (ds ++ es4).map (·.s) = M' := by rw [List.map_append, HDS.out, he4, HMX.out]
      have hl : (ds ++ es4).length = M'.length := by rw [← hM, List.length_map]
      rw [hl] at ev hdd hc1 hgr
      rw [hM] at hdd
      exact ⟨a', _, c', ev, ⟨rfl, a', c', hdd, hc1, hc2, hgr⟩, (HDW.out w4 M4.bel).cell, by simp [World.frozen?, (HDW.out w4 M4.bel).var]⟩
    have HFIN := hid fin
    clear fin
    cases Z
    · have HZP : Hid ((P : Int) = G) := by show _ = _; have := HZ.out; simp at this; omega
      go_upto_region 8 with fail
      rw [HZP.out]
      go_wp2_with (at_builtin; rw [HGA.out]; refine wpList_appRl (V := V) rfl _ _ rfl w.heap.size v1 ds rfl HM3.out.own ga (m - G) (c - G) (M.drop G) rfl HR3.out HDN.out (by have := HPG.out; omega) HM3.out.bel.size ?_; intro v4 w4 es4 he4 hrv4 ho4 hg4 hbk4; obtain ⟨a', dn, c', hv4, HPU, d4, f4⟩ := HFIN.out v4 w4 es4 he4 hrv4 ho4 hg4 hbk4; subst hv4; clear hrv4 ho4 hg4 hbk4 he4)
      go_end0
      exact HPU.out
    · have HZP : Hid ((P : Int) + 1 = G) := by show _ = _; have := HZ.out; simp at this; omega
      go_upto_region 8 with fail
      rw [HZP.out]
      go_wp2_with (at_builtin; rw [HGA.out]; refine wpList_appRl (V := V) rfl _ _ rfl w.heap.size v1 ds rfl HM3.out.own ga (m - G) (c - G) (M.drop G) rfl HR3.out HDN.out (by have := HPG.out; omega) HM3.out.bel.size ?_; intro v4 w4 es4 he4 hrv4 ho4 hg4 hbk4; obtain ⟨a', dn, c', hv4, HPU, d4, f4⟩ := HFIN.out v4 w4 es4 he4 hrv4 ho4 hg4 hbk4; subst hv4; clear hrv4 ho4 hg4 hbk4 he4)
      go_end0
      exact HPU.out
end Go.Proofs.YteeapmcpbmjpmaaGreat
