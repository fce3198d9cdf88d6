import Derived.Test.YtcaecfdeieoenaaT6
import Derived.Deep.RegionHeld
import Derived.Deep.RegionHeldLaw
import Derived.Deep.Cut
import Derived.BigQuiet
namespace Go.Proofs.Ytcaecfdeieoenaa
set_option maxRecDepth 100000
open Go.RowKit
set_option linter.unusedVariables false

/-! More of nodes in memory. -/
theorem Nm.row {w : World} {g : Nat} {x0 : Wy} {l0 r0 : Value} (h : Nm w g x0 l0 r0) (x : Wy) (l r : Value) : Nm (w.setRow g #[.int .i64 x.F, .int .u64 x.H, .int .u64 x.L, .int .i64 x.B, .int .i64 x.K, l, r]) g x l r := setRow_heap w g _ _ _ _ h
theorem Nm.orow {w : World} {b g : Nat} {x : Wy} {l r : Value} (h : Nm w b x l r) (hn : b ≠ g) (cs : Array Value) : Nm (w.setRow g cs) b x l r := h.at (setRow_other w g b cs hn)
theorem Pm.orow {w : World} {b g : Nat} {F H L B : Int} (h : Pm w b F H L B) (hn : b ≠ g) (cs : Array Value) : Pm (w.setRow g cs) b F H L B := h.at (setRow_other w g b cs hn)
theorem sizen : (Try.prog.info? 81).map (·.size) = some 7 := by kernel_rfl
theorem wp_snd {o : Oper} {a : Act} {w : World} {K : Act → World → Prop} {Q : Exit → Act → World → Prop} (hdst : o.dst = none) (x y : Operand) (ho : o.op = .store 81 x y)
    (g : Nat) (X : Wy) (l r : Option Addr) (hx : a.eval x = .pointer (some ⟨g, 0, none⟩)) (hy : a.eval y = .agg #[.int .i64 X.F, .int .u64 X.H, .int .u64 X.L, .int .i64 X.B, .int .i64 X.K, .pointer l, .pointer r]) (X0 : Wy) (l0 r0 : Value) (hg : Nm w g X0 l0 r0)
    (h : K a (w.setRow g #[.int .i64 X.F, .int .u64 X.H, .int .u64 X.L, .int .i64 X.B, .int .i64 X.K, .pointer l, .pointer r])) : o.wp Try.prog a w K Q := by
  refine wp_store_row _ x y ho g #[.int .i64 X.F, .int .u64 X.H, .int .u64 X.L, .int .i64 X.B, .int .i64 X.K, .pointer l, .pointer r] hx hy _ _ hg sizen rfl (by simp [Value.oneCell']) ?_
  rw [hdst]
  exact h
theorem wpList_snd {ops : Array Oper} {rest : List Oper} {o : Oper} {a : Act} {w : World} {Q : Exit → Act → World → Prop} (hgd : o.guard = none) (hdst : o.dst = none) (x y : Operand) (ho : o.op = .store 81 x y)
    (g : Nat) (X : Wy) (l r : Option Addr) (hx : a.eval x = .pointer (some ⟨g, 0, none⟩)) (hy : a.eval y = .agg #[.int .i64 X.F, .int .u64 X.H, .int .u64 X.L, .int .i64 X.B, .int .i64 X.K, .pointer l, .pointer r]) (X0 : Wy) (l0 r0 : Value) (hg : Nm w g X0 l0 r0)
    (h : wpList Try.prog ops Q rest a (w.setRow g #[.int .i64 X.F, .int .u64 X.H, .int .u64 X.L, .int .i64 X.B, .int .i64 X.K, .pointer l, .pointer r])) : wpList Try.prog ops Q (o :: rest) a w := by
  refine wpList_store_row hgd _ x y ho g #[.int .i64 X.F, .int .u64 X.H, .int .u64 X.L, .int .i64 X.B, .int .i64 X.K, .pointer l, .pointer r] hx hy _ _ hg sizen rfl (by simp [Value.oneCell']) ?_
  rw [hdst]
  exact h
theorem Nd.at {w w' : World} : ∀ {t : Tn}, Nd w t → (∀ z ∈ t.nds, w'.heap[z.1]? = w.heap[z.1]?) → Nd w' t
  | .nil, _, _ => trivial
  | .node b x l r, h, hz => by
    have hz := nds_node.1 hz
    exact ⟨h.1.at hz.1, h.2.1.at hz.2.1, h.2.2.at hz.2.2⟩
theorem Nd.lt {w : World} : ∀ {t : Tn}, Nd w t → ∀ z ∈ t.nds, z.1 < w.heap.size := fun h z hz => by
  obtain ⟨_, _, hn⟩ := h.mem z hz
  exact hn.lt
/-- The blocks of a tree are new ones, or another tree's. -/
def Frs (w : World) (t t' : Tn) : Prop := ∀ z ∈ t'.nds, w.heap.size ≤ z.1 ∨ ∃ y ∈ t.nds, y.1 = z.1
theorem Frs.node {w : World} {t l r : Tn} {g : Nat} {x : Wy} (hg : w.heap.size ≤ g) (hl : Frs w t l) (hr : Frs w t r) : Frs w t (.node g x l r) := nds_node.2 ⟨.inl hg, hl, hr⟩
theorem Frs.nil (w : World) (t : Tn) : Frs w t .nil := fun z hz => (by cases hz)
theorem Frs.self (w : World) (t : Tn) : Frs w t t := fun z hz => .inr ⟨z, hz, rfl⟩
theorem Frs.l (w : World) (b : Nat) (x : Wy) (l r : Tn) : Frs w (.node b x l r) l := fun z hz => .inr ⟨z, List.mem_cons_of_mem _ (List.mem_append_left _ hz), rfl⟩
theorem Frs.r (w : World) (b : Nat) (x : Wy) (l r : Tn) : Frs w (.node b x l r) r := fun z hz => .inr ⟨z, List.mem_cons_of_mem _ (List.mem_append_right _ hz), rfl⟩
theorem Frs.up {w w' : World} {t l t' : Tn} (h : Frs w' l t') (hs : w.heap.size ≤ w'.heap.size) (hl : Frs w t l) : Frs w t t' := fun z hz => by
  rcases h z hz with h1 | ⟨y, hy, e⟩
  · exact .inl (Nat.le_trans hs h1)
  · rcases hl y hy with h2 | ⟨y', hy', e'⟩
    · exact .inl (by omega)
    · exact .inr ⟨y', hy', e'.trans e⟩
/-- A block that is none of them. -/
theorem Frs.ne {w w' : World} {l t' : Tn} {g : Nat} (h : Frs w' l t') (hl : Nd w l) (hg : w.heap.size ≤ g) (hg' : g < w'.heap.size) : ∀ z ∈ t'.nds, z.1 ≠ g := fun z hz e => by
  rcases h z hz with h1 | ⟨y, hy, e'⟩
  · omega
  · have := hl.lt y hy
    omega
theorem Nd.set {w : World} {t : Tn} {g : Nat} (h : Nd w t) (hn : ∀ z ∈ t.nds, z.1 ≠ g) (i : Nat) (v : Value) : Nd (w.setCell ⟨g, i, none⟩ v) t := h.at (fun z hz => Below.heap_setCell _ _ _ _ (hn z hz))
theorem px_same {x p : Wy} (h : x.sm p = true) : { x with K := p.K } = p := by
  rw [sm_iff] at h
  obtain ⟨F, H, L, B, K⟩ := x
  obtain ⟨F', H', L', B', K'⟩ := p
  simp only at h
  obtain ⟨rfl, rfl, rfl, rfl⟩ := h
  rfl
theorem bitw (F : Int) (x : Wy) (n : Int) (w : World) (hx : Nk F x) (hn : 0 ≤ n ∧ n < nb F) :
    Calls Try.prog 54 #[.agg #[.int .i64 x.F, .int .u64 x.H, .int .u64 x.L], .int .i64 n] w fun e w' => e = .returned (.int .i64 (bi (nb F) x.A n.toNat)) ∧ Below w.heap.size w w' := by
  have hF := hx.2.2.2
  have hva := hx.va
  have h1 := hx.1
  subst hF
  exact bit_ x.F x.H x.L n w h1.2.1 h1.2.2.1 hva hn
theorem eqp_sm (x y : Wy) (w : World) : (binOp .eql 32 (.agg #[.int .i64 x.F, .int .u64 x.H, .int .u64 x.L, .int .i64 x.B]) (.agg #[.int .i64 y.F, .int .u64 y.H, .int .u64 y.L, .int .i64 y.B])).run Try.prog w = .ok (.bool (x.sm y)) w := by
  rw [eqp, spx_sm]
set_option maxHeartbeats 1000000 in
theorem with_nil (p : Wy) (w : World) : Calls Try.prog 43 #[.pointer none, p.px, .int .i64 p.K] w fun e w' => (∃ g, e = .returned (.pointer (some ⟨g, 0, none⟩)) ∧ Nm w' g p (.pointer none) (.pointer none) ∧ w.heap.size ≤ g) ∧ Below w.heap.size w w' := by
  unfold Wy.px
  have m0 := Pm.new w p.F p.H p.L p.B
  have c0 := m0.c0
  have c1 := m0.c1
  have c2 := m0.c2
  have c3 := m0.c3
  go_enter Try.func43, Try.ntmps43
  go_wp2_with fail
  go_ret
  refine ⟨⟨_, rfl, by have := Nm.new (w.alloc (.cells #[.int .i64 p.F, .int .u64 p.H, .int .u64 p.L, .int .i64 p.B] 32)) p (.pointer none) (.pointer none); simpa using this, by omega⟩, ?_⟩
  exact ((Below.refl _ _).alloc (Nat.le_refl _) _).alloc (by simp) _
set_option maxHeartbeats 8000000 in
theorem with_ (p : Wy) (hp : p.Ok) : ∀ (t : Tn), Wf p.F t → (∀ y ∈ t.ws, y.sm p = false) → ∀ (w : World), Nd w t → Calls Try.prog 43 #[t.v, p.px, .int .i64 p.K] w fun e w' => (∃ t', e = .returned t'.v ∧ Nd w' t' ∧ Wth p.F p t t' ∧ Frs w t t') ∧ Below w.heap.size w w'
  | .nil, _, _, w, _ => by
    refine (with_nil p w).mono ?_
    rintro e w' ⟨⟨g, rfl, h1, h3⟩, h2⟩
    exact ⟨⟨.node g p .nil .nil, rfl, ⟨h1, trivial, trivial⟩, wth_nil hp rfl g, Frs.node h3 (Frs.nil _ _) (Frs.nil _ _)⟩, h2⟩
  | .node b x l r, hwf, hno, w, hnd => by
    have kl := fun h1 w h2 => with_ p hp l hwf.2.2.2.1 h1 w h2
    have kr := fun h1 w h2 => with_ p hp r hwf.2.2.2.2 h1 w h2
    have kn := with_nil p
    have hpk := Nk.of hp rfl
    have hck := cmn_nk hwf.1 hpk
    have kc := fun w => common_ p.F x p w hwf.1 hpk
    have HCS := hid (cmn_cases hwf.1 hpk)
    have HCB : Hid (cB (nb p.F) x p = (cmn (nb p.F) x p).B) := rfl
    rw [HCB.out] at HCS
    obtain ⟨C, hC⟩ : ∃ C, cmn (nb p.F) x p = C := ⟨_, rfl⟩
    rw [hC] at kc hck HCS
    have HC0 : Hid (({ C with K := 0 } : Wy) = C) := by
      show _ = _
      rw [← hC]
      rfl
    have HCK : Hid (Nk p.F C) := hck
    clear hC HCB hck
    have m0 := Pm.new w p.F p.H p.L p.B
    have n0 := hnd.1.alloc (.cells #[.int .i64 p.F, .int .u64 p.H, .int .u64 p.L, .int .i64 p.B] 32)
    have B0 := pnew w p.F p.H p.L p.B
    have HND := hid hnd
    have HWF := hid hwf
    have HNO := hid hno
    have HPK := hid hpk
    have KL := hid kl
    have KR := hid kr
    have KN := hid kn
    obtain ⟨lp, hlp⟩ := l.vp
    obtain ⟨rp, hrp⟩ := r.vp
    have HLP := hid hlp
    have HRP := hid hrp
    unfold Wy.px at kc ⊢
    simp only [Tn.v]
    rw [hlp, hrp] at n0
    clear hnd hwf hno kl kr kn hlp hrp hpk
    go_enter Try.func43, Try.ntmps43
    go_wp2_with fail
    generalize hw1 : w.alloc (.cells #[.int .i64 p.F, .int .u64 p.H, .int .u64 p.L, .int .i64 p.B] 32) = w1 at *
    have hs1 : w1.heap.size = w.heap.size + 1 := by rw [← hw1]; simp
    clear hw1
    go_cut [7] from 15 (fun v wx => ∃ g, v = .pointer (some ⟨g, 0, none⟩) ∧ w.heap.size < g ∧ Nm wx g C (.pointer none) (.pointer none) ∧ Nm wx b x (.pointer lp) (.pointer rp) ∧ Pm wx w.heap.size p.F p.H p.L p.B ∧ Below w.heap.size w wx)
    case first =>
      refine wp_region_held_drew (S := fun wx => Nm wx b x (.pointer lp) (.pointer rp) ∧ Pm wx w.heap.size p.F p.H p.L p.B) (by kernel_rfl) ⟨n0.drew, m0.drew⟩ (fun hHeld => ?_)
      replace n0 := n0.drew
      replace m0 := m0.drew
      replace B0 := bel_drew1 B0
      have hs2 : w.heap.size < w1.drew.heap.size := by show w.heap.size < w1.heap.size; omega
      clear hs1
      generalize w1.drew = wd at *
      refine take_to 0 15 (.pointer (some ⟨b, 0, none⟩)) rfl rfl (by kernel_rfl) (by kernel_rfl) (by kernel_rfl) (fun _ _ _ h => h) (Or.inl ⟨by rfl, fun w' h => ?_⟩) hHeld ?_
      · go_simp
      try simp only [List.setIfInBounds_toArray, List.set_cons_zero, List.set_cons_succ]
      refine take_to 1 16 (.pointer (some ⟨b, 0, none⟩)) rfl rfl (by kernel_rfl) (by kernel_rfl) (by kernel_rfl) (fun _ _ _ h => h) (Or.inl ⟨by rfl, fun w' h => ?_⟩) hHeld ?_
      · go_simp
      try simp only [List.setIfInBounds_toArray, List.set_cons_zero, List.set_cons_succ]
      refine take_to 2 17 (.pointer (some ⟨b, 0, none⟩)) rfl rfl (by kernel_rfl) (by kernel_rfl) (by kernel_rfl) (fun _ _ _ h => h) (Or.inl ⟨by rfl, fun w' h => ?_⟩) hHeld ?_
      · go_simp
      try simp only [List.setIfInBounds_toArray, List.set_cons_zero, List.set_cons_succ]
      refine take_to 3 18 (.agg #[.int .i64 x.F, .int .u64 x.H, .int .u64 x.L, .int .i64 x.B]) rfl rfl (by kernel_rfl) (by kernel_rfl) (by kernel_rfl) (fun _ _ _ h => h) (Or.inl ⟨by rfl, fun w' h => ?_⟩) hHeld ?_
      · have x0 := Nm.c0 h.1; have x1 := Nm.c1 h.1; have x2 := Nm.c2 h.1; have x3 := Nm.c3 h.1
        go_simp
      try simp only [List.setIfInBounds_toArray, List.set_cons_zero, List.set_cons_succ]
      refine take_to 4 19 (.agg #[.int .i64 p.F, .int .u64 p.H, .int .u64 p.L, .int .i64 p.B]) rfl rfl (by kernel_rfl) (by kernel_rfl) (by kernel_rfl) (fun _ _ _ h => h) (Or.inl ⟨by rfl, fun w' h => ?_⟩) hHeld ?_
      · have x0 := Pm.c0 h.2; have x1 := Pm.c1 h.2; have x2 := Pm.c2 h.2; have x3 := Pm.c3 h.2
        go_simp
      try simp only [List.setIfInBounds_toArray, List.set_cons_zero, List.set_cons_succ]
      refine wpAnyH_ready (rs := [5, 7]) (by kernel_rfl) (by simp) ?_
      refine AllReadyH.cons rfl (fun K hK => ?_) (AllReadyH.cons rfl (fun K hK => ?_) AllReadyH.nil)
      · rw [if_pos (by rfl)]
        go_wp2_with fail
        refine (kc _).mono ?_
        rintro e wa ⟨rfl, g2⟩
        have hsa := g2.size
        replace n0 := n0.kept g2
        replace m0 := m0.kept g2
        replace B0 := bel_bel B0 B0.size g2
        clear hHeld
        try go_wp2_with fail
        refine hK.out _ _ ⟨n0, m0⟩ (fun hHeld => ?_)
        clear hK K
        try simp only [Act.put, List.setIfInBounds_toArray, List.set_cons_zero, List.set_cons_succ]
        refine take_to 6 21 (.agg #[.int .i64 C.F, .int .u64 C.H, .int .u64 C.L, .int .i64 C.B, .int .i64 0, .pointer none, .pointer none]) rfl rfl (by kernel_rfl) (by kernel_rfl) (by kernel_rfl) (fun _ _ _ h => h) (Or.inl ⟨by rfl, fun w' h => ?_⟩) hHeld ?_
        · go_simp
        try simp only [List.setIfInBounds_toArray, List.set_cons_zero, List.set_cons_succ]
        refine wpAnyH_ready (rs := [7]) (by kernel_rfl) (by simp) ?_
        refine AllReadyH.cons rfl (fun K hK => ?_) AllReadyH.nil
        rw [if_pos (by rfl)]
        go_wp2_with fail
        have hg : w.heap.size < wa.heap.size := by omega
        have hbg : b < wa.heap.size := n0.lt
        have mg := Nm.new wa ⟨0, 0, 0, 0, 0⟩ (.pointer none) (.pointer none)
        replace n0 := n0.alloc (.cells #[.int .i64 0, .int .u64 0, .int .u64 0, .int .i64 0, .int .i64 0, .pointer none, .pointer none] 81)
        replace m0 := m0.alloc (.cells #[.int .i64 0, .int .u64 0, .int .u64 0, .int .i64 0, .int .i64 0, .pointer none, .pointer none] 81)
        replace B0 := B0.alloc B0.size (.cells #[.int .i64 0, .int .u64 0, .int .u64 0, .int .i64 0, .int .i64 0, .pointer none, .pointer none] 81)
        have hsb : (wa.alloc (.cells #[.int .i64 0, .int .u64 0, .int .u64 0, .int .i64 0, .int .i64 0, .pointer none, .pointer none] 81)).heap.size = wa.heap.size + 1 := by simp
        refine hK.out _ _ ⟨n0, m0⟩ (fun hHeld => ?_)
        clear hK K
        try simp only [Act.put, List.setIfInBounds_toArray, List.set_cons_zero, List.set_cons_succ]
        generalize wa.heap.size = g at *
        generalize wa.alloc (.cells #[.int .i64 0, .int .u64 0, .int .u64 0, .int .i64 0, .int .i64 0, .pointer none, .pointer none] 81) = wb at *
        refine wpAnyH_ready (rs := [8]) (by kernel_rfl) (by simp) ?_
        refine AllReadyH.cons rfl (fun K hK => ?_) AllReadyH.nil
        rw [if_pos (by rfl)]
        refine wp_snd rfl _ _ rfl g { C with K := 0 } none none rfl rfl _ _ _ (by with_reducible exact mg) ?_
        replace mg := mg.row { C with K := 0 } (.pointer none) (.pointer none)
        replace n0 := n0.orow (g := g) (by omega) #[.int .i64 C.F, .int .u64 C.H, .int .u64 C.L, .int .i64 C.B, .int .i64 0, .pointer none, .pointer none]
        replace m0 := m0.orow (g := g) (by omega) #[.int .i64 C.F, .int .u64 C.H, .int .u64 C.L, .int .i64 C.B, .int .i64 0, .pointer none, .pointer none]
        replace B0 := bel_row (g := g) B0 (by omega) #[.int .i64 C.F, .int .u64 C.H, .int .u64 C.L, .int .i64 C.B, .int .i64 0, .pointer none, .pointer none]
        refine hK.out _ _ ⟨n0, m0⟩ (fun hHeld => ?_)
        clear hK K
        refine wpAnyH_done (by kernel_rfl) ?_ _
        go_wp2_with fail
        go_meet
        case rel => exact ⟨g, rfl, by omega, by rw [show ({ C with K := 0 } : Wy) = C from HC0.out] at mg; exact mg, n0, m0, B0⟩
      · rw [if_pos (by rfl)]
        go_wp2_with fail
        have hg : w.heap.size < wd.heap.size := by omega
        have hbg : b < wd.heap.size := n0.lt
        have mg := Nm.new wd ⟨0, 0, 0, 0, 0⟩ (.pointer none) (.pointer none)
        replace n0 := n0.alloc (.cells #[.int .i64 0, .int .u64 0, .int .u64 0, .int .i64 0, .int .i64 0, .pointer none, .pointer none] 81)
        replace m0 := m0.alloc (.cells #[.int .i64 0, .int .u64 0, .int .u64 0, .int .i64 0, .int .i64 0, .pointer none, .pointer none] 81)
        replace B0 := B0.alloc B0.size (.cells #[.int .i64 0, .int .u64 0, .int .u64 0, .int .i64 0, .int .i64 0, .pointer none, .pointer none] 81)
        have hsb : (wd.alloc (.cells #[.int .i64 0, .int .u64 0, .int .u64 0, .int .i64 0, .int .i64 0, .pointer none, .pointer none] 81)).heap.size = wd.heap.size + 1 := by simp
        refine hK.out _ _ ⟨n0, m0⟩ (fun hHeld => ?_)
        clear hK K
        try simp only [Act.put, List.setIfInBounds_toArray, List.set_cons_zero, List.set_cons_succ]
        generalize wd.heap.size = g at *
        generalize wd.alloc (.cells #[.int .i64 0, .int .u64 0, .int .u64 0, .int .i64 0, .int .i64 0, .pointer none, .pointer none] 81) = wb at *
        refine wpAnyH_ready (rs := [5]) (by kernel_rfl) (by simp) ?_
        refine AllReadyH.cons rfl (fun K hK => ?_) AllReadyH.nil
        rw [if_pos (by rfl)]
        go_wp2_with fail
        refine (kc _).mono ?_
        rintro e wa ⟨rfl, g2⟩
        have hsa := g2.size
        replace n0 := n0.kept g2
        replace m0 := m0.kept g2
        replace B0 := bel_bel B0 B0.size g2
        replace mg := mg.kept g2
        clear hHeld
        try go_wp2_with fail
        refine hK.out _ _ ⟨n0, m0⟩ (fun hHeld => ?_)
        clear hK K
        try simp only [Act.put, List.setIfInBounds_toArray, List.set_cons_zero, List.set_cons_succ]
        refine take_to 6 21 (.agg #[.int .i64 C.F, .int .u64 C.H, .int .u64 C.L, .int .i64 C.B, .int .i64 0, .pointer none, .pointer none]) rfl rfl (by kernel_rfl) (by kernel_rfl) (by kernel_rfl) (fun _ _ _ h => h) (Or.inl ⟨by rfl, fun w' h => ?_⟩) hHeld ?_
        · go_simp
        try simp only [List.setIfInBounds_toArray, List.set_cons_zero, List.set_cons_succ]
        refine wpAnyH_ready (rs := [8]) (by kernel_rfl) (by simp) ?_
        refine AllReadyH.cons rfl (fun K hK => ?_) AllReadyH.nil
        rw [if_pos (by rfl)]
        refine wp_snd rfl _ _ rfl g { C with K := 0 } none none rfl rfl _ _ _ (by with_reducible exact mg) ?_
        replace mg := mg.row { C with K := 0 } (.pointer none) (.pointer none)
        replace n0 := n0.orow (g := g) (by omega) #[.int .i64 C.F, .int .u64 C.H, .int .u64 C.L, .int .i64 C.B, .int .i64 0, .pointer none, .pointer none]
        replace m0 := m0.orow (g := g) (by omega) #[.int .i64 C.F, .int .u64 C.H, .int .u64 C.L, .int .i64 C.B, .int .i64 0, .pointer none, .pointer none]
        replace B0 := bel_row (g := g) B0 (by omega) #[.int .i64 C.F, .int .u64 C.H, .int .u64 C.L, .int .i64 C.B, .int .i64 0, .pointer none, .pointer none]
        refine hK.out _ _ ⟨n0, m0⟩ (fun hHeld => ?_)
        clear hK K
        refine wpAnyH_done (by kernel_rfl) ?_ _
        go_wp2_with fail
        go_meet
        case rel => exact ⟨g, rfl, by omega, by rw [show ({ C with K := 0 } : Wy) = C from HC0.out] at mg; exact mg, n0, m0, B0⟩
    case rest =>
      obtain ⟨g, rfl, hg, mg, n0, m0, B0⟩ := hcut
      clear kc hs1
      have hbg : b ≠ g := by have := HND.out.1.lt; omega
      rcases HCS.out with ⟨s1, s2⟩ | ⟨s1, s2, u1⟩ | ⟨s1, s2, u1⟩ | ⟨s1, s2, u1, u2, u3⟩
      · have a0 := mg.c0
        have a1 := mg.c1
        have a2 := mg.c2
        have a3 := mg.c3
        have e0 := n0.c0
        have e1 := n0.c1
        have e2 := n0.c2
        have e3 := n0.c3
        have q1 := fun w => eqp_sm C x w
        rw [s1] at q1
        go_wp2_with fail
        go_quiet (fail)
        clear a0 a1 a2 a3
        clear e0 e1 e2 e3
        replace mg : Nm (wc.drewN nq) g C (.pointer none) (.pointer none) := mg
        replace n0 : Nm (wc.drewN nq) b x (.pointer lp) (.pointer rp) := n0
        replace m0 : Pm (wc.drewN nq) w.heap.size p.F p.H p.L p.B := m0
        replace B0 : Below w.heap.size w (wc.drewN nq) := bel_drawn B0 nq
        generalize wc.drewN nq = wq at *
        clear q1
        have mg2 := mg.row x (.pointer lp) (.pointer rp)
        have m2 := m0.orow (g := g) (by omega) #[.int .i64 x.F, .int .u64 x.H, .int .u64 x.L, .int .i64 x.B, .int .i64 x.K, .pointer lp, .pointer rp]
        have B2 := bel_row (g := g) B0 (by omega) #[.int .i64 x.F, .int .u64 x.H, .int .u64 x.L, .int .i64 x.B, .int .i64 x.K, .pointer lp, .pointer rp]
        have e0 := n0.c0
        have e1 := n0.c1
        have e2 := n0.c2
        have e3 := n0.c3
        have e4 := n0.c4
        have e5 := n0.c5
        have e6 := n0.c6
        have a0 := mg2.c0
        have a1 := mg2.c1
        have a2 := mg2.c2
        have a3 := mg2.c3
        have a4 := mg2.c4
        have f0 := m2.c0
        have f1 := m2.c1
        have f2 := m2.c2
        have f3 := m2.c3
        have z4 := mg2.fz 4
        have q2 := fun w => eqp_sm x p w
        rw [s2] at q2
        go_wp2_with (refine wpList_snd rfl rfl _ _ rfl g x lp rp rfl rfl _ _ _ mg ?_)
        go_ret
        have mk := mg2.setK p.K
        rw [px_same s2] at mk
        replace B2 := B2.setCell (p := ⟨g, 4, none⟩) (Nat.le_of_lt hg) (.int .i64 p.K)
        refine ⟨⟨.node g p l r, rfl, ⟨by rw [HLP.out, HRP.out]; exact mk, HND.out.2.1.at (fun z hz => B2.block _ (HND.out.2.1.lt z hz)), HND.out.2.2.at (fun z hz => B2.block _ (HND.out.2.2.lt z hz))⟩, wth_same HWF.out hp rfl s2 ?_ g, Frs.node (Nat.le_of_lt hg) (Frs.l _ _ _ _ _) (Frs.r _ _ _ _ _)⟩, B2⟩
        refine Decidable.byContradiction (fun hk => ?_)
        have := HNO.out x ((ws_node x b x l r).2 (.inl ⟨rfl, hk⟩))
        rw [s2] at this
        cases this
      · clear HCS
        rcases bi_or (nb p.F) p.A x.B.toNat with hi | hi
        · have a0 := mg.c0
          have a1 := mg.c1
          have a2 := mg.c2
          have a3 := mg.c3
          have e0 := n0.c0
          have e1 := n0.c1
          have e2 := n0.c2
          have e3 := n0.c3
          have q1 := fun w => eqp_sm C x w
          rw [s1] at q1
          go_wp2_with fail
          go_quiet (fail)
          clear a0 a1 a2 a3
          clear e0 e1 e2 e3
          replace mg : Nm (wc.drewN nq) g C (.pointer none) (.pointer none) := mg
          replace n0 : Nm (wc.drewN nq) b x (.pointer lp) (.pointer rp) := n0
          replace m0 : Pm (wc.drewN nq) w.heap.size p.F p.H p.L p.B := m0
          replace B0 : Below w.heap.size w (wc.drewN nq) := bel_drawn B0 nq
          generalize wc.drewN nq = wq at *
          clear q1
          have mg2 := mg.row x (.pointer lp) (.pointer rp)
          have m2 := m0.orow (g := g) (by omega) #[.int .i64 x.F, .int .u64 x.H, .int .u64 x.L, .int .i64 x.B, .int .i64 x.K, .pointer lp, .pointer rp]
          have B2 := bel_row (g := g) B0 (by omega) #[.int .i64 x.F, .int .u64 x.H, .int .u64 x.L, .int .i64 x.B, .int .i64 x.K, .pointer lp, .pointer rp]
          have e0 := n0.c0
          have e1 := n0.c1
          have e2 := n0.c2
          have e3 := n0.c3
          have e4 := n0.c4
          have e5 := n0.c5
          have e6 := n0.c6
          have a0 := mg2.c0
          have a1 := mg2.c1
          have a2 := mg2.c2
          have a3 := mg2.c3
          have a4 := mg2.c4
          have f0 := m2.c0
          have f1 := m2.c1
          have f2 := m2.c2
          have f3 := m2.c3
          have z4 := mg2.fz 4
          have q2 := fun w => eqp_sm x p w
          rw [s2] at q2
          have kb := fun w => bitw p.F p x.B w HPK.out ⟨HWF.out.1.b.1, by have h1 := u1.1; have h2 := HPK.out.b; omega⟩
          rw [hi] at kb
          rw [hi] at u1
          go_wp2_with (first | (refine wpList_snd rfl rfl _ _ rfl g x lp rp rfl rfl _ _ _ mg ?_) | (go_at_call 54; refine (kb _).mono ?_; rintro e wb ⟨rfl, g2⟩))
          clear e0 e1 e2 e3 e4 e5 e6 a0 a1 a2 a3 a4 f0 f1 f2 f3 z4 q2 mg m0 B0
          have mg := mg2.kept g2
          have m0 := m2.kept g2
          have B0 := bel_bel B2 B2.size g2
          clear mg2 m2 B2 g2
          have kk := fun w h => KL.out (fun y hy => HNO.out y ((ws_node y b x l r).2 (.inr (.inl hy)))) w h
          rw [HLP.out] at kk
          unfold Wy.px at kk
          refine wp_region_held_drew (S := fun wx => Pm wx w.heap.size p.F p.H p.L p.B) (by kernel_rfl) m0.drew (fun hHeld => ?_)
          replace mg := mg.drew
          replace m0 := m0.drew
          replace B0 := bel_drew1 B0
          generalize wb.drew = wv at *
          refine take_to 0 56 (.int .i64 0) rfl rfl (by kernel_rfl) (by kernel_rfl) (by kernel_rfl) (fun _ _ _ h => h) (Or.inl ⟨by rfl, fun w' h => ?_⟩) hHeld ?_
          · go_simp
          try simp only [List.setIfInBounds_toArray, List.set_cons_zero, List.set_cons_succ]
          refine take_to 1 57 (.int .i64 0) rfl rfl (by kernel_rfl) (by kernel_rfl) (by kernel_rfl) (fun _ _ _ h => h) (Or.inl ⟨by rfl, fun w' h => ?_⟩) hHeld ?_
          · go_simp
          try simp only [List.setIfInBounds_toArray, List.set_cons_zero, List.set_cons_succ]
          refine take_to 2 58 (.pointer (some ⟨g, 5, none⟩)) rfl rfl (by kernel_rfl) (by kernel_rfl) (by kernel_rfl) (fun _ _ _ h => h) (Or.inl ⟨by rfl, fun w' h => ?_⟩) hHeld ?_
          · go_simp
          try simp only [List.setIfInBounds_toArray, List.set_cons_zero, List.set_cons_succ]
          refine take_to 3 59 (.pointer (some ⟨g, 5, none⟩)) rfl rfl (by kernel_rfl) (by kernel_rfl) (by kernel_rfl) (fun _ _ _ h => h) (Or.inl ⟨by rfl, fun w' h => ?_⟩) hHeld ?_
          · go_simp
          try simp only [List.setIfInBounds_toArray, List.set_cons_zero, List.set_cons_succ]
          refine take_to 5 61 (.agg #[.int .i64 p.F, .int .u64 p.H, .int .u64 p.L, .int .i64 p.B]) rfl rfl (by kernel_rfl) (by kernel_rfl) (by kernel_rfl) (fun _ _ _ h => h) (Or.inl ⟨by rfl, fun w' h => ?_⟩) hHeld ?_
          · have x0 := Pm.c0 h; have x1 := Pm.c1 h; have x2 := Pm.c2 h; have x3 := Pm.c3 h
            go_simp
          try simp only [List.setIfInBounds_toArray, List.set_cons_zero, List.set_cons_succ]
          refine take_to 6 62 (.int .i64 p.K) rfl rfl (by kernel_rfl) (by kernel_rfl) (by kernel_rfl) (fun _ _ _ h => h) (Or.inl ⟨by rfl, fun w' h => ?_⟩) hHeld ?_
          · go_simp
          try simp only [List.setIfInBounds_toArray, List.set_cons_zero, List.set_cons_succ]
          refine take_to 8 64 (.pointer (some ⟨g, 5, none⟩)) rfl rfl (by kernel_rfl) (by kernel_rfl) (by kernel_rfl) (fun _ _ _ h => h) (Or.inl ⟨by rfl, fun w' h => ?_⟩) hHeld ?_
          · go_simp
          try simp only [List.setIfInBounds_toArray, List.set_cons_zero, List.set_cons_succ]
          refine wpAnyH_ready (rs := [4]) (by kernel_rfl) (by simp) ?_
          refine AllReadyH.cons rfl (fun K hK => ?_) AllReadyH.nil
          rw [if_pos (by rfl)]
          have k5 := mg.c5
          go_wp2_with fail
          refine hK.out _ _ m0 (fun hHeld => ?_)
          clear hK K k5
          try simp only [Act.put, List.setIfInBounds_toArray, List.set_cons_zero, List.set_cons_succ]
          refine wpAnyH_ready (rs := [7]) (by kernel_rfl) (by simp) ?_
          refine AllReadyH.cons rfl (fun K hK => ?_) AllReadyH.nil
          rw [if_pos (by rfl)]
          go_wp2_with fail
          have hgv : g < wv.heap.size := mg.lt
          refine (kk wv (HND.out.2.1.at (fun z hz => B0.block _ (HND.out.2.1.lt z hz)))).mono ?_
          rintro e we ⟨⟨t1, rfl, hn1, ht1, hf1⟩, g3⟩
          obtain ⟨vp, hvp⟩ := t1.vp
          simp only [hvp]
          have hsv := g3.size
          replace mg := mg.kept g3
          replace m0 := m0.kept g3
          have HB3 := hid B0.size
          replace B0 := bel_bel B0 B0.size g3
          clear hHeld
          try go_wp2_with fail
          refine hK.out _ _ m0 (fun hHeld => ?_)
          clear hK K
          try simp only [Act.put, List.setIfInBounds_toArray, List.set_cons_zero, List.set_cons_succ]
          refine take_to 9 65 (.pointer (some ⟨g, 5, none⟩)) rfl rfl (by kernel_rfl) (by kernel_rfl) (by kernel_rfl) (fun _ _ _ h => h) (Or.inl ⟨by rfl, fun w' h => ?_⟩) hHeld ?_
          · go_simp
          try simp only [List.setIfInBounds_toArray, List.set_cons_zero, List.set_cons_succ]
          refine wpAnyH_ready (rs := [10]) (by kernel_rfl) (by simp) ?_
          refine AllReadyH.cons rfl (fun K hK => ?_) AllReadyH.nil
          rw [if_pos (by rfl)]
          have k5 := mg.c5
          have z5 := mg.fz 5
          go_wp2_with fail
          replace mg := mg.set5 (.pointer vp)
          replace m0 := m0.other (g' := g) (by omega) 5 (.pointer vp)
          replace B0 := B0.setCell (p := ⟨g, 5, none⟩) (Nat.le_of_lt hg) (.pointer vp)
          refine hK.out _ _ m0 (fun hHeld => ?_)
          clear hK K k5 z5
          try simp only [Act.put, List.setIfInBounds_toArray, List.set_cons_zero, List.set_cons_succ]
          refine wpAnyH_done (by kernel_rfl) ?_ _
          go_wp2_with fail
          go_ret
          have hne := hf1.ne HND.out.2.1 (Nat.le_of_lt hg) hgv
          replace hn1 := hn1.set hne 5 (.pointer vp)
          refine ⟨⟨.node g x t1 r, rfl, ⟨by rw [hvp, HRP.out]; exact mg, hn1, HND.out.2.2.at (fun z hz => B0.block _ (HND.out.2.2.lt z hz))⟩, wth_left HWF.out u1 ht1 g, Frs.node (Nat.le_of_lt hg) (hf1.up HB3.out (Frs.l _ _ _ _ _)) (Frs.r _ _ _ _ _)⟩, B0⟩
        · have a0 := mg.c0
          have a1 := mg.c1
          have a2 := mg.c2
          have a3 := mg.c3
          have e0 := n0.c0
          have e1 := n0.c1
          have e2 := n0.c2
          have e3 := n0.c3
          have q1 := fun w => eqp_sm C x w
          rw [s1] at q1
          go_wp2_with fail
          go_quiet (fail)
          clear a0 a1 a2 a3
          clear e0 e1 e2 e3
          replace mg : Nm (wc.drewN nq) g C (.pointer none) (.pointer none) := mg
          replace n0 : Nm (wc.drewN nq) b x (.pointer lp) (.pointer rp) := n0
          replace m0 : Pm (wc.drewN nq) w.heap.size p.F p.H p.L p.B := m0
          replace B0 : Below w.heap.size w (wc.drewN nq) := bel_drawn B0 nq
          generalize wc.drewN nq = wq at *
          clear q1
          have mg2 := mg.row x (.pointer lp) (.pointer rp)
          have m2 := m0.orow (g := g) (by omega) #[.int .i64 x.F, .int .u64 x.H, .int .u64 x.L, .int .i64 x.B, .int .i64 x.K, .pointer lp, .pointer rp]
          have B2 := bel_row (g := g) B0 (by omega) #[.int .i64 x.F, .int .u64 x.H, .int .u64 x.L, .int .i64 x.B, .int .i64 x.K, .pointer lp, .pointer rp]
          have e0 := n0.c0
          have e1 := n0.c1
          have e2 := n0.c2
          have e3 := n0.c3
          have e4 := n0.c4
          have e5 := n0.c5
          have e6 := n0.c6
          have a0 := mg2.c0
          have a1 := mg2.c1
          have a2 := mg2.c2
          have a3 := mg2.c3
          have a4 := mg2.c4
          have f0 := m2.c0
          have f1 := m2.c1
          have f2 := m2.c2
          have f3 := m2.c3
          have z4 := mg2.fz 4
          have q2 := fun w => eqp_sm x p w
          rw [s2] at q2
          have kb := fun w => bitw p.F p x.B w HPK.out ⟨HWF.out.1.b.1, by have h1 := u1.1; have h2 := HPK.out.b; omega⟩
          rw [hi] at kb
          rw [hi] at u1
          go_wp2_with (first | (refine wpList_snd rfl rfl _ _ rfl g x lp rp rfl rfl _ _ _ mg ?_) | (go_at_call 54; refine (kb _).mono ?_; rintro e wb ⟨rfl, g2⟩))
          clear e0 e1 e2 e3 e4 e5 e6 a0 a1 a2 a3 a4 f0 f1 f2 f3 z4 q2 mg m0 B0
          have mg := mg2.kept g2
          have m0 := m2.kept g2
          have B0 := bel_bel B2 B2.size g2
          clear mg2 m2 B2 g2
          have kk := fun w h => KR.out (fun y hy => HNO.out y ((ws_node y b x l r).2 (.inr (.inr hy)))) w h
          rw [HRP.out] at kk
          unfold Wy.px at kk
          refine wp_region_held_drew (S := fun wx => Pm wx w.heap.size p.F p.H p.L p.B) (by kernel_rfl) m0.drew (fun hHeld => ?_)
          replace mg := mg.drew
          replace m0 := m0.drew
          replace B0 := bel_drew1 B0
          generalize wb.drew = wv at *
          refine take_to 0 56 (.int .i64 1) rfl rfl (by kernel_rfl) (by kernel_rfl) (by kernel_rfl) (fun _ _ _ h => h) (Or.inl ⟨by rfl, fun w' h => ?_⟩) hHeld ?_
          · go_simp
          try simp only [List.setIfInBounds_toArray, List.set_cons_zero, List.set_cons_succ]
          refine take_to 1 57 (.int .i64 1) rfl rfl (by kernel_rfl) (by kernel_rfl) (by kernel_rfl) (fun _ _ _ h => h) (Or.inl ⟨by rfl, fun w' h => ?_⟩) hHeld ?_
          · go_simp
          try simp only [List.setIfInBounds_toArray, List.set_cons_zero, List.set_cons_succ]
          refine take_to 2 58 (.pointer (some ⟨g, 5, none⟩)) rfl rfl (by kernel_rfl) (by kernel_rfl) (by kernel_rfl) (fun _ _ _ h => h) (Or.inl ⟨by rfl, fun w' h => ?_⟩) hHeld ?_
          · go_simp
          try simp only [List.setIfInBounds_toArray, List.set_cons_zero, List.set_cons_succ]
          refine take_to 3 59 (.pointer (some ⟨g, 6, none⟩)) rfl rfl (by kernel_rfl) (by kernel_rfl) (by kernel_rfl) (fun _ _ _ h => h) (Or.inl ⟨by rfl, fun w' h => ?_⟩) hHeld ?_
          · go_simp
          try simp only [List.setIfInBounds_toArray, List.set_cons_zero, List.set_cons_succ]
          refine take_to 5 61 (.agg #[.int .i64 p.F, .int .u64 p.H, .int .u64 p.L, .int .i64 p.B]) rfl rfl (by kernel_rfl) (by kernel_rfl) (by kernel_rfl) (fun _ _ _ h => h) (Or.inl ⟨by rfl, fun w' h => ?_⟩) hHeld ?_
          · have x0 := Pm.c0 h; have x1 := Pm.c1 h; have x2 := Pm.c2 h; have x3 := Pm.c3 h
            go_simp
          try simp only [List.setIfInBounds_toArray, List.set_cons_zero, List.set_cons_succ]
          refine take_to 6 62 (.int .i64 p.K) rfl rfl (by kernel_rfl) (by kernel_rfl) (by kernel_rfl) (fun _ _ _ h => h) (Or.inl ⟨by rfl, fun w' h => ?_⟩) hHeld ?_
          · go_simp
          try simp only [List.setIfInBounds_toArray, List.set_cons_zero, List.set_cons_succ]
          refine take_to 8 64 (.pointer (some ⟨g, 5, none⟩)) rfl rfl (by kernel_rfl) (by kernel_rfl) (by kernel_rfl) (fun _ _ _ h => h) (Or.inl ⟨by rfl, fun w' h => ?_⟩) hHeld ?_
          · go_simp
          try simp only [List.setIfInBounds_toArray, List.set_cons_zero, List.set_cons_succ]
          refine wpAnyH_ready (rs := [4]) (by kernel_rfl) (by simp) ?_
          refine AllReadyH.cons rfl (fun K hK => ?_) AllReadyH.nil
          rw [if_pos (by rfl)]
          have k5 := mg.c6
          go_wp2_with fail
          refine hK.out _ _ m0 (fun hHeld => ?_)
          clear hK K k5
          try simp only [Act.put, List.setIfInBounds_toArray, List.set_cons_zero, List.set_cons_succ]
          refine wpAnyH_ready (rs := [7]) (by kernel_rfl) (by simp) ?_
          refine AllReadyH.cons rfl (fun K hK => ?_) AllReadyH.nil
          rw [if_pos (by rfl)]
          go_wp2_with fail
          have hgv : g < wv.heap.size := mg.lt
          refine (kk wv (HND.out.2.2.at (fun z hz => B0.block _ (HND.out.2.2.lt z hz)))).mono ?_
          rintro e we ⟨⟨t1, rfl, hn1, ht1, hf1⟩, g3⟩
          obtain ⟨vp, hvp⟩ := t1.vp
          simp only [hvp]
          have hsv := g3.size
          replace mg := mg.kept g3
          replace m0 := m0.kept g3
          have HB3 := hid B0.size
          replace B0 := bel_bel B0 B0.size g3
          clear hHeld
          try go_wp2_with fail
          refine hK.out _ _ m0 (fun hHeld => ?_)
          clear hK K
          try simp only [Act.put, List.setIfInBounds_toArray, List.set_cons_zero, List.set_cons_succ]
          refine take_to 9 65 (.pointer (some ⟨g, 6, none⟩)) rfl rfl (by kernel_rfl) (by kernel_rfl) (by kernel_rfl) (fun _ _ _ h => h) (Or.inl ⟨by rfl, fun w' h => ?_⟩) hHeld ?_
          · go_simp
          try simp only [List.setIfInBounds_toArray, List.set_cons_zero, List.set_cons_succ]
          refine wpAnyH_ready (rs := [10]) (by kernel_rfl) (by simp) ?_
          refine AllReadyH.cons rfl (fun K hK => ?_) AllReadyH.nil
          rw [if_pos (by rfl)]
          have k5 := mg.c6
          have z5 := mg.fz 6
          go_wp2_with fail
          replace mg := mg.set6 (.pointer vp)
          replace m0 := m0.other (g' := g) (by omega) 6 (.pointer vp)
          replace B0 := B0.setCell (p := ⟨g, 6, none⟩) (Nat.le_of_lt hg) (.pointer vp)
          refine hK.out _ _ m0 (fun hHeld => ?_)
          clear hK K k5 z5
          try simp only [Act.put, List.setIfInBounds_toArray, List.set_cons_zero, List.set_cons_succ]
          refine wpAnyH_done (by kernel_rfl) ?_ _
          go_wp2_with fail
          go_ret
          have hne := hf1.ne HND.out.2.2 (Nat.le_of_lt hg) hgv
          replace hn1 := hn1.set hne 6 (.pointer vp)
          refine ⟨⟨.node g x l t1, rfl, ⟨by rw [hvp, HLP.out]; exact mg, HND.out.2.1.at (fun z hz => B0.block _ (HND.out.2.1.lt z hz)), hn1⟩, wth_right HWF.out u1 ht1 g, Frs.node (Nat.le_of_lt hg) (Frs.l _ _ _ _ _) (hf1.up HB3.out (Frs.r _ _ _ _ _))⟩, B0⟩
      · clear HCS
        have hcb := (sm_A s2).2
        rw [← hcb] at u1
        have hlx : C.B < nb p.F := by have h1 := u1.1; have h2 := HWF.out.1.b; omega
        clear hcb
        rcases bi_or (nb p.F) x.A C.B.toNat with hj | hj
        · rw [hj] at u1
          have a0 := mg.c0
          have a1 := mg.c1
          have a2 := mg.c2
          have a3 := mg.c3
          have e0 := n0.c0
          have e1 := n0.c1
          have e2 := n0.c2
          have e3 := n0.c3
          have q1 := fun w => eqp_sm C x w
          rw [s1] at q1
          go_wp2_with fail
          go_quiet (fail)
          clear a0 a1 a2 a3
          clear e0 e1 e2 e3
          replace mg : Nm (wc.drewN nq) g C (.pointer none) (.pointer none) := mg
          replace n0 : Nm (wc.drewN nq) b x (.pointer lp) (.pointer rp) := n0
          replace m0 : Pm (wc.drewN nq) w.heap.size p.F p.H p.L p.B := m0
          replace B0 : Below w.heap.size w (wc.drewN nq) := bel_drawn B0 nq
          generalize wc.drewN nq = wq at *
          clear q1
          have kx := fun w => bitw p.F x C.B w HWF.out.1 ⟨HCK.out.b.1, hlx⟩
          rw [hj] at kx
          go_wp2_with fail
          refine wp_region_held_drew (S := fun wx => Nm wx b x (.pointer lp) (.pointer rp) ∧ wx.cell? ⟨g, 3, none⟩ = some (.int .i64 C.B)) (by kernel_rfl) ⟨n0.drew, mg.drew.c3⟩ (fun hHeld => ?_)
          replace mg := mg.drew
          replace n0 := n0.drew
          replace m0 := m0.drew
          replace B0 := bel_drew1 B0
          generalize wq.drew = wd at *
          refine take_to 0 32 (.pointer (some ⟨b, 0, none⟩)) rfl rfl (by kernel_rfl) (by kernel_rfl) (by kernel_rfl) (fun _ _ _ h => h) (Or.inl ⟨by rfl, fun w' h => ?_⟩) hHeld ?_
          · go_simp
          try simp only [List.setIfInBounds_toArray, List.set_cons_zero, List.set_cons_succ]
          refine take_to 1 33 (.pointer (some ⟨b, 0, none⟩)) rfl rfl (by kernel_rfl) (by kernel_rfl) (by kernel_rfl) (fun _ _ _ h => h) (Or.inl ⟨by rfl, fun w' h => ?_⟩) hHeld ?_
          · go_simp
          try simp only [List.setIfInBounds_toArray, List.set_cons_zero, List.set_cons_succ]
          refine take_to 2 34 (.pointer (some ⟨b, 0, none⟩)) rfl rfl (by kernel_rfl) (by kernel_rfl) (by kernel_rfl) (fun _ _ _ h => h) (Or.inl ⟨by rfl, fun w' h => ?_⟩) hHeld ?_
          · go_simp
          try simp only [List.setIfInBounds_toArray, List.set_cons_zero, List.set_cons_succ]
          refine take_to 3 35 (.pointer (some ⟨b, 0, none⟩)) rfl rfl (by kernel_rfl) (by kernel_rfl) (by kernel_rfl) (fun _ _ _ h => h) (Or.inl ⟨by rfl, fun w' h => ?_⟩) hHeld ?_
          · go_simp
          try simp only [List.setIfInBounds_toArray, List.set_cons_zero, List.set_cons_succ]
          refine take_to 4 36 (.agg #[.int .i64 x.F, .int .u64 x.H, .int .u64 x.L]) rfl rfl (by kernel_rfl) (by kernel_rfl) (by kernel_rfl) (fun _ _ _ h => h) (Or.inl ⟨by rfl, fun w' h => ?_⟩) hHeld ?_
          · have x0 := Nm.c0 h.1; have x1 := Nm.c1 h.1; have x2 := Nm.c2 h.1
            go_simp
          try simp only [List.setIfInBounds_toArray, List.set_cons_zero, List.set_cons_succ]
          refine take_to 5 37 (.pointer (some ⟨g, 0, none⟩)) rfl rfl (by kernel_rfl) (by kernel_rfl) (by kernel_rfl) (fun _ _ _ h => h) (Or.inl ⟨by rfl, fun w' h => ?_⟩) hHeld ?_
          · go_simp
          try simp only [List.setIfInBounds_toArray, List.set_cons_zero, List.set_cons_succ]
          refine take_to 6 38 (.pointer (some ⟨g, 3, none⟩)) rfl rfl (by kernel_rfl) (by kernel_rfl) (by kernel_rfl) (fun _ _ _ h => h) (Or.inl ⟨by rfl, fun w' h => ?_⟩) hHeld ?_
          · go_simp
          try simp only [List.setIfInBounds_toArray, List.set_cons_zero, List.set_cons_succ]
          refine take_to 7 39 (.int .i64 C.B) rfl rfl (by kernel_rfl) (by kernel_rfl) (by kernel_rfl) (fun _ _ _ h => h) (Or.inl ⟨by rfl, fun w' h => ?_⟩) hHeld ?_
          · have x0 := h.2
            go_simp
          try simp only [List.setIfInBounds_toArray, List.set_cons_zero, List.set_cons_succ]
          refine take_to 9 41 (.pointer (some ⟨b, 0, none⟩)) rfl rfl (by kernel_rfl) (by kernel_rfl) (by kernel_rfl) (fun _ _ _ h => h) (Or.inl ⟨by rfl, fun w' h => ?_⟩) hHeld ?_
          · go_simp
          try simp only [List.setIfInBounds_toArray, List.set_cons_zero, List.set_cons_succ]
          refine take_to 10 42 (.pointer (some ⟨g, 5, none⟩)) rfl rfl (by kernel_rfl) (by kernel_rfl) (by kernel_rfl) (fun _ _ _ h => h) (Or.inl ⟨by rfl, fun w' h => ?_⟩) hHeld ?_
          · go_simp
          try simp only [List.setIfInBounds_toArray, List.set_cons_zero, List.set_cons_succ]
          refine wpAnyH_ready (rs := [8]) (by kernel_rfl) (by simp) ?_
          refine AllReadyH.cons rfl (fun K hK => ?_) AllReadyH.nil
          rw [if_pos (by rfl)]
          go_wp2_with fail
          refine (kx _).mono ?_
          rintro e wa ⟨rfl, g2⟩
          replace n0 := n0.kept g2
          replace mg := mg.kept g2
          replace m0 := m0.kept g2
          replace B0 := bel_bel B0 B0.size g2
          clear hHeld g2
          try go_wp2_with fail
          refine hK.out _ _ ⟨n0, mg.c3⟩ (fun hHeld => ?_)
          clear hK K
          try simp only [Act.put, List.setIfInBounds_toArray, List.set_cons_zero, List.set_cons_succ]
          refine take_to 11 43 (.pointer (some ⟨g, 5, none⟩)) rfl rfl (by kernel_rfl) (by kernel_rfl) (by kernel_rfl) (fun _ _ _ h => h) (Or.inl ⟨by rfl, fun w' h => ?_⟩) hHeld ?_
          · go_simp
          try simp only [List.setIfInBounds_toArray, List.set_cons_zero, List.set_cons_succ]
          refine wpAnyH_ready (rs := [12]) (by kernel_rfl) (by simp) ?_
          refine AllReadyH.cons rfl (fun K hK => ?_) AllReadyH.nil
          rw [if_pos (by rfl)]
          have k5 := mg.c5
          have z5 := mg.fz 5
          go_wp2_with fail
          replace mg := mg.set5 (.pointer (some ⟨b, 0, none⟩))
          replace n0 := n0.other (g := g) hbg 5 (.pointer (some ⟨b, 0, none⟩))
          replace m0 := m0.other (g' := g) (by omega) 5 (.pointer (some ⟨b, 0, none⟩))
          replace B0 := B0.setCell (p := ⟨g, 5, none⟩) (Nat.le_of_lt hg) (.pointer (some ⟨b, 0, none⟩))
          refine hK.out _ _ ⟨n0, mg.c3⟩ (fun hHeld => ?_)
          clear hK K k5 z5 hHeld
          try simp only [Act.put, List.setIfInBounds_toArray, List.set_cons_zero, List.set_cons_succ]
          refine wpAnyH_done (by kernel_rfl) ?_ _
          generalize wa.setCell ⟨g, 5, none⟩ (.pointer (some ⟨b, 0, none⟩)) = we at *
          have a0 := mg.c0
          have a1 := mg.c1
          have a2 := mg.c2
          have a3 := mg.c3
          have a4 := mg.c4
          have f0 := m0.c0
          have f1 := m0.c1
          have f2 := m0.c2
          have f3 := m0.c3
          have z4 := mg.fz 4
          have q2 := fun w => eqp_sm C p w
          rw [s2] at q2
          go_wp2_with fail
          go_ret
          have mk := mg.setK p.K
          rw [px_same s2] at mk
          replace B0 := B0.setCell (p := ⟨g, 4, none⟩) (Nat.le_of_lt hg) (.int .i64 p.K)
          exact ⟨⟨.node g p (.node b x l r) .nil, rfl, ⟨mk, HND.out.at (fun z hz => B0.block _ (HND.out.lt z hz)), trivial⟩, (wth_top HWF.out hp rfl u1 g).1 rfl, Frs.node (Nat.le_of_lt hg) (Frs.self _ _) (Frs.nil _ _)⟩, B0⟩
        · rw [hj] at u1
          have a0 := mg.c0
          have a1 := mg.c1
          have a2 := mg.c2
          have a3 := mg.c3
          have e0 := n0.c0
          have e1 := n0.c1
          have e2 := n0.c2
          have e3 := n0.c3
          have q1 := fun w => eqp_sm C x w
          rw [s1] at q1
          go_wp2_with fail
          go_quiet (fail)
          clear a0 a1 a2 a3
          clear e0 e1 e2 e3
          replace mg : Nm (wc.drewN nq) g C (.pointer none) (.pointer none) := mg
          replace n0 : Nm (wc.drewN nq) b x (.pointer lp) (.pointer rp) := n0
          replace m0 : Pm (wc.drewN nq) w.heap.size p.F p.H p.L p.B := m0
          replace B0 : Below w.heap.size w (wc.drewN nq) := bel_drawn B0 nq
          generalize wc.drewN nq = wq at *
          clear q1
          have kx := fun w => bitw p.F x C.B w HWF.out.1 ⟨HCK.out.b.1, hlx⟩
          rw [hj] at kx
          go_wp2_with fail
          refine wp_region_held_drew (S := fun wx => Nm wx b x (.pointer lp) (.pointer rp) ∧ wx.cell? ⟨g, 3, none⟩ = some (.int .i64 C.B)) (by kernel_rfl) ⟨n0.drew, mg.drew.c3⟩ (fun hHeld => ?_)
          replace mg := mg.drew
          replace n0 := n0.drew
          replace m0 := m0.drew
          replace B0 := bel_drew1 B0
          generalize wq.drew = wd at *
          refine take_to 0 32 (.pointer (some ⟨b, 0, none⟩)) rfl rfl (by kernel_rfl) (by kernel_rfl) (by kernel_rfl) (fun _ _ _ h => h) (Or.inl ⟨by rfl, fun w' h => ?_⟩) hHeld ?_
          · go_simp
          try simp only [List.setIfInBounds_toArray, List.set_cons_zero, List.set_cons_succ]
          refine take_to 1 33 (.pointer (some ⟨b, 0, none⟩)) rfl rfl (by kernel_rfl) (by kernel_rfl) (by kernel_rfl) (fun _ _ _ h => h) (Or.inl ⟨by rfl, fun w' h => ?_⟩) hHeld ?_
          · go_simp
          try simp only [List.setIfInBounds_toArray, List.set_cons_zero, List.set_cons_succ]
          refine take_to 2 34 (.pointer (some ⟨b, 0, none⟩)) rfl rfl (by kernel_rfl) (by kernel_rfl) (by kernel_rfl) (fun _ _ _ h => h) (Or.inl ⟨by rfl, fun w' h => ?_⟩) hHeld ?_
          · go_simp
          try simp only [List.setIfInBounds_toArray, List.set_cons_zero, List.set_cons_succ]
          refine take_to 3 35 (.pointer (some ⟨b, 0, none⟩)) rfl rfl (by kernel_rfl) (by kernel_rfl) (by kernel_rfl) (fun _ _ _ h => h) (Or.inl ⟨by rfl, fun w' h => ?_⟩) hHeld ?_
          · go_simp
          try simp only [List.setIfInBounds_toArray, List.set_cons_zero, List.set_cons_succ]
          refine take_to 4 36 (.agg #[.int .i64 x.F, .int .u64 x.H, .int .u64 x.L]) rfl rfl (by kernel_rfl) (by kernel_rfl) (by kernel_rfl) (fun _ _ _ h => h) (Or.inl ⟨by rfl, fun w' h => ?_⟩) hHeld ?_
          · have x0 := Nm.c0 h.1; have x1 := Nm.c1 h.1; have x2 := Nm.c2 h.1
            go_simp
          try simp only [List.setIfInBounds_toArray, List.set_cons_zero, List.set_cons_succ]
          refine take_to 5 37 (.pointer (some ⟨g, 0, none⟩)) rfl rfl (by kernel_rfl) (by kernel_rfl) (by kernel_rfl) (fun _ _ _ h => h) (Or.inl ⟨by rfl, fun w' h => ?_⟩) hHeld ?_
          · go_simp
          try simp only [List.setIfInBounds_toArray, List.set_cons_zero, List.set_cons_succ]
          refine take_to 6 38 (.pointer (some ⟨g, 3, none⟩)) rfl rfl (by kernel_rfl) (by kernel_rfl) (by kernel_rfl) (fun _ _ _ h => h) (Or.inl ⟨by rfl, fun w' h => ?_⟩) hHeld ?_
          · go_simp
          try simp only [List.setIfInBounds_toArray, List.set_cons_zero, List.set_cons_succ]
          refine take_to 7 39 (.int .i64 C.B) rfl rfl (by kernel_rfl) (by kernel_rfl) (by kernel_rfl) (fun _ _ _ h => h) (Or.inl ⟨by rfl, fun w' h => ?_⟩) hHeld ?_
          · have x0 := h.2
            go_simp
          try simp only [List.setIfInBounds_toArray, List.set_cons_zero, List.set_cons_succ]
          refine take_to 9 41 (.pointer (some ⟨b, 0, none⟩)) rfl rfl (by kernel_rfl) (by kernel_rfl) (by kernel_rfl) (fun _ _ _ h => h) (Or.inl ⟨by rfl, fun w' h => ?_⟩) hHeld ?_
          · go_simp
          try simp only [List.setIfInBounds_toArray, List.set_cons_zero, List.set_cons_succ]
          refine take_to 10 42 (.pointer (some ⟨g, 5, none⟩)) rfl rfl (by kernel_rfl) (by kernel_rfl) (by kernel_rfl) (fun _ _ _ h => h) (Or.inl ⟨by rfl, fun w' h => ?_⟩) hHeld ?_
          · go_simp
          try simp only [List.setIfInBounds_toArray, List.set_cons_zero, List.set_cons_succ]
          refine wpAnyH_ready (rs := [8]) (by kernel_rfl) (by simp) ?_
          refine AllReadyH.cons rfl (fun K hK => ?_) AllReadyH.nil
          rw [if_pos (by rfl)]
          go_wp2_with fail
          refine (kx _).mono ?_
          rintro e wa ⟨rfl, g2⟩
          replace n0 := n0.kept g2
          replace mg := mg.kept g2
          replace m0 := m0.kept g2
          replace B0 := bel_bel B0 B0.size g2
          clear hHeld g2
          try go_wp2_with fail
          refine hK.out _ _ ⟨n0, mg.c3⟩ (fun hHeld => ?_)
          clear hK K
          try simp only [Act.put, List.setIfInBounds_toArray, List.set_cons_zero, List.set_cons_succ]
          refine take_to 11 43 (.pointer (some ⟨g, 6, none⟩)) rfl rfl (by kernel_rfl) (by kernel_rfl) (by kernel_rfl) (fun _ _ _ h => h) (Or.inl ⟨by rfl, fun w' h => ?_⟩) hHeld ?_
          · go_simp
          try simp only [List.setIfInBounds_toArray, List.set_cons_zero, List.set_cons_succ]
          refine wpAnyH_ready (rs := [12]) (by kernel_rfl) (by simp) ?_
          refine AllReadyH.cons rfl (fun K hK => ?_) AllReadyH.nil
          rw [if_pos (by rfl)]
          have k5 := mg.c6
          have z5 := mg.fz 6
          go_wp2_with fail
          replace mg := mg.set6 (.pointer (some ⟨b, 0, none⟩))
          replace n0 := n0.other (g := g) hbg 6 (.pointer (some ⟨b, 0, none⟩))
          replace m0 := m0.other (g' := g) (by omega) 6 (.pointer (some ⟨b, 0, none⟩))
          replace B0 := B0.setCell (p := ⟨g, 6, none⟩) (Nat.le_of_lt hg) (.pointer (some ⟨b, 0, none⟩))
          refine hK.out _ _ ⟨n0, mg.c3⟩ (fun hHeld => ?_)
          clear hK K k5 z5 hHeld
          try simp only [Act.put, List.setIfInBounds_toArray, List.set_cons_zero, List.set_cons_succ]
          refine wpAnyH_done (by kernel_rfl) ?_ _
          generalize wa.setCell ⟨g, 6, none⟩ (.pointer (some ⟨b, 0, none⟩)) = we at *
          have a0 := mg.c0
          have a1 := mg.c1
          have a2 := mg.c2
          have a3 := mg.c3
          have a4 := mg.c4
          have f0 := m0.c0
          have f1 := m0.c1
          have f2 := m0.c2
          have f3 := m0.c3
          have z4 := mg.fz 4
          have q2 := fun w => eqp_sm C p w
          rw [s2] at q2
          go_wp2_with fail
          go_ret
          have mk := mg.setK p.K
          rw [px_same s2] at mk
          replace B0 := B0.setCell (p := ⟨g, 4, none⟩) (Nat.le_of_lt hg) (.int .i64 p.K)
          exact ⟨⟨.node g p .nil (.node b x l r), rfl, ⟨mk, trivial, HND.out.at (fun z hz => B0.block _ (HND.out.lt z hz))⟩, (wth_top HWF.out hp rfl u1 g).2 rfl, Frs.node (Nat.le_of_lt hg) (Frs.nil _ _) (Frs.self _ _)⟩, B0⟩
      · clear HCS
        have hlx : C.B < nb p.F := by have h1 := u1.1; have h2 := HWF.out.1.b; omega
        have hlp2 : C.B < nb p.F := by have h1 := u2.1; have h2 := HPK.out.b; omega
        rcases bi_or (nb p.F) x.A C.B.toNat with hj | hj
        · have hi : bi (nb p.F) p.A C.B.toNat = 1 := by have := bi_or (nb p.F) p.A C.B.toNat; omega
          rw [hj] at u1
          rw [hi] at u2
          clear u3
          have a0 := mg.c0
          have a1 := mg.c1
          have a2 := mg.c2
          have a3 := mg.c3
          have e0 := n0.c0
          have e1 := n0.c1
          have e2 := n0.c2
          have e3 := n0.c3
          have q1 := fun w => eqp_sm C x w
          rw [s1] at q1
          go_wp2_with fail
          go_quiet (fail)
          clear a0 a1 a2 a3
          clear e0 e1 e2 e3
          replace mg : Nm (wc.drewN nq) g C (.pointer none) (.pointer none) := mg
          replace n0 : Nm (wc.drewN nq) b x (.pointer lp) (.pointer rp) := n0
          replace m0 : Pm (wc.drewN nq) w.heap.size p.F p.H p.L p.B := m0
          replace B0 : Below w.heap.size w (wc.drewN nq) := bel_drawn B0 nq
          generalize wc.drewN nq = wq at *
          clear q1
          have kx := fun w => bitw p.F x C.B w HWF.out.1 ⟨HCK.out.b.1, hlx⟩
          rw [hj] at kx
          go_wp2_with fail
          refine wp_region_held_drew (S := fun wx => Nm wx b x (.pointer lp) (.pointer rp) ∧ wx.cell? ⟨g, 3, none⟩ = some (.int .i64 C.B)) (by kernel_rfl) ⟨n0.drew, mg.drew.c3⟩ (fun hHeld => ?_)
          replace mg := mg.drew
          replace n0 := n0.drew
          replace m0 := m0.drew
          replace B0 := bel_drew1 B0
          generalize wq.drew = wd at *
          refine take_to 0 32 (.pointer (some ⟨b, 0, none⟩)) rfl rfl (by kernel_rfl) (by kernel_rfl) (by kernel_rfl) (fun _ _ _ h => h) (Or.inl ⟨by rfl, fun w' h => ?_⟩) hHeld ?_
          · go_simp
          try simp only [List.setIfInBounds_toArray, List.set_cons_zero, List.set_cons_succ]
          refine take_to 1 33 (.pointer (some ⟨b, 0, none⟩)) rfl rfl (by kernel_rfl) (by kernel_rfl) (by kernel_rfl) (fun _ _ _ h => h) (Or.inl ⟨by rfl, fun w' h => ?_⟩) hHeld ?_
          · go_simp
          try simp only [List.setIfInBounds_toArray, List.set_cons_zero, List.set_cons_succ]
          refine take_to 2 34 (.pointer (some ⟨b, 0, none⟩)) rfl rfl (by kernel_rfl) (by kernel_rfl) (by kernel_rfl) (fun _ _ _ h => h) (Or.inl ⟨by rfl, fun w' h => ?_⟩) hHeld ?_
          · go_simp
          try simp only [List.setIfInBounds_toArray, List.set_cons_zero, List.set_cons_succ]
          refine take_to 3 35 (.pointer (some ⟨b, 0, none⟩)) rfl rfl (by kernel_rfl) (by kernel_rfl) (by kernel_rfl) (fun _ _ _ h => h) (Or.inl ⟨by rfl, fun w' h => ?_⟩) hHeld ?_
          · go_simp
          try simp only [List.setIfInBounds_toArray, List.set_cons_zero, List.set_cons_succ]
          refine take_to 4 36 (.agg #[.int .i64 x.F, .int .u64 x.H, .int .u64 x.L]) rfl rfl (by kernel_rfl) (by kernel_rfl) (by kernel_rfl) (fun _ _ _ h => h) (Or.inl ⟨by rfl, fun w' h => ?_⟩) hHeld ?_
          · have x0 := Nm.c0 h.1; have x1 := Nm.c1 h.1; have x2 := Nm.c2 h.1
            go_simp
          try simp only [List.setIfInBounds_toArray, List.set_cons_zero, List.set_cons_succ]
          refine take_to 5 37 (.pointer (some ⟨g, 0, none⟩)) rfl rfl (by kernel_rfl) (by kernel_rfl) (by kernel_rfl) (fun _ _ _ h => h) (Or.inl ⟨by rfl, fun w' h => ?_⟩) hHeld ?_
          · go_simp
          try simp only [List.setIfInBounds_toArray, List.set_cons_zero, List.set_cons_succ]
          refine take_to 6 38 (.pointer (some ⟨g, 3, none⟩)) rfl rfl (by kernel_rfl) (by kernel_rfl) (by kernel_rfl) (fun _ _ _ h => h) (Or.inl ⟨by rfl, fun w' h => ?_⟩) hHeld ?_
          · go_simp
          try simp only [List.setIfInBounds_toArray, List.set_cons_zero, List.set_cons_succ]
          refine take_to 7 39 (.int .i64 C.B) rfl rfl (by kernel_rfl) (by kernel_rfl) (by kernel_rfl) (fun _ _ _ h => h) (Or.inl ⟨by rfl, fun w' h => ?_⟩) hHeld ?_
          · have x0 := h.2
            go_simp
          try simp only [List.setIfInBounds_toArray, List.set_cons_zero, List.set_cons_succ]
          refine take_to 9 41 (.pointer (some ⟨b, 0, none⟩)) rfl rfl (by kernel_rfl) (by kernel_rfl) (by kernel_rfl) (fun _ _ _ h => h) (Or.inl ⟨by rfl, fun w' h => ?_⟩) hHeld ?_
          · go_simp
          try simp only [List.setIfInBounds_toArray, List.set_cons_zero, List.set_cons_succ]
          refine take_to 10 42 (.pointer (some ⟨g, 5, none⟩)) rfl rfl (by kernel_rfl) (by kernel_rfl) (by kernel_rfl) (fun _ _ _ h => h) (Or.inl ⟨by rfl, fun w' h => ?_⟩) hHeld ?_
          · go_simp
          try simp only [List.setIfInBounds_toArray, List.set_cons_zero, List.set_cons_succ]
          refine wpAnyH_ready (rs := [8]) (by kernel_rfl) (by simp) ?_
          refine AllReadyH.cons rfl (fun K hK => ?_) AllReadyH.nil
          rw [if_pos (by rfl)]
          go_wp2_with fail
          refine (kx _).mono ?_
          rintro e wa ⟨rfl, g2⟩
          replace n0 := n0.kept g2
          replace mg := mg.kept g2
          replace m0 := m0.kept g2
          replace B0 := bel_bel B0 B0.size g2
          clear hHeld g2
          try go_wp2_with fail
          refine hK.out _ _ ⟨n0, mg.c3⟩ (fun hHeld => ?_)
          clear hK K
          try simp only [Act.put, List.setIfInBounds_toArray, List.set_cons_zero, List.set_cons_succ]
          refine take_to 11 43 (.pointer (some ⟨g, 5, none⟩)) rfl rfl (by kernel_rfl) (by kernel_rfl) (by kernel_rfl) (fun _ _ _ h => h) (Or.inl ⟨by rfl, fun w' h => ?_⟩) hHeld ?_
          · go_simp
          try simp only [List.setIfInBounds_toArray, List.set_cons_zero, List.set_cons_succ]
          refine wpAnyH_ready (rs := [12]) (by kernel_rfl) (by simp) ?_
          refine AllReadyH.cons rfl (fun K hK => ?_) AllReadyH.nil
          rw [if_pos (by rfl)]
          have k5 := mg.c5
          have z5 := mg.fz 5
          go_wp2_with fail
          replace mg := mg.set5 (.pointer (some ⟨b, 0, none⟩))
          replace n0 := n0.other (g := g) hbg 5 (.pointer (some ⟨b, 0, none⟩))
          replace m0 := m0.other (g' := g) (by omega) 5 (.pointer (some ⟨b, 0, none⟩))
          replace B0 := B0.setCell (p := ⟨g, 5, none⟩) (Nat.le_of_lt hg) (.pointer (some ⟨b, 0, none⟩))
          refine hK.out _ _ ⟨n0, mg.c3⟩ (fun hHeld => ?_)
          clear hK K k5 z5 hHeld
          try simp only [Act.put, List.setIfInBounds_toArray, List.set_cons_zero, List.set_cons_succ]
          refine wpAnyH_done (by kernel_rfl) ?_ _
          generalize wa.setCell ⟨g, 5, none⟩ (.pointer (some ⟨b, 0, none⟩)) = we at *
          have a0 := mg.c0
          have a1 := mg.c1
          have a2 := mg.c2
          have a3 := mg.c3
          have f0 := m0.c0
          have f1 := m0.c1
          have f2 := m0.c2
          have f3 := m0.c3
          have q2 := fun w => eqp_sm C p w
          rw [s2] at q2
          have kb := fun w => bitw p.F p C.B w HPK.out ⟨HCK.out.b.1, hlp2⟩
          rw [hi] at kb
          go_wp2_with (go_at_call 54; refine (kb _).mono ?_; rintro e wb ⟨rfl, g2⟩)
          clear a0 a1 a2 a3 f0 f1 f2 f3 q2
          replace mg := mg.kept g2
          replace m0 := m0.kept g2
          replace n0 := n0.kept g2
          replace B0 := bel_bel B0 B0.size g2
          clear g2
          have kk := KN.out
          unfold Wy.px at kk
          refine wp_region_held_drew (S := fun wx => Pm wx w.heap.size p.F p.H p.L p.B) (by kernel_rfl) m0.drew (fun hHeld => ?_)
          replace mg := mg.drew
          replace m0 := m0.drew
          replace B0 := bel_drew1 B0
          generalize wb.drew = wv at *
          refine take_to 0 56 (.int .i64 1) rfl rfl (by kernel_rfl) (by kernel_rfl) (by kernel_rfl) (fun _ _ _ h => h) (Or.inl ⟨by rfl, fun w' h => ?_⟩) hHeld ?_
          · go_simp
          try simp only [List.setIfInBounds_toArray, List.set_cons_zero, List.set_cons_succ]
          refine take_to 1 57 (.int .i64 1) rfl rfl (by kernel_rfl) (by kernel_rfl) (by kernel_rfl) (fun _ _ _ h => h) (Or.inl ⟨by rfl, fun w' h => ?_⟩) hHeld ?_
          · go_simp
          try simp only [List.setIfInBounds_toArray, List.set_cons_zero, List.set_cons_succ]
          refine take_to 2 58 (.pointer (some ⟨g, 5, none⟩)) rfl rfl (by kernel_rfl) (by kernel_rfl) (by kernel_rfl) (fun _ _ _ h => h) (Or.inl ⟨by rfl, fun w' h => ?_⟩) hHeld ?_
          · go_simp
          try simp only [List.setIfInBounds_toArray, List.set_cons_zero, List.set_cons_succ]
          refine take_to 3 59 (.pointer (some ⟨g, 6, none⟩)) rfl rfl (by kernel_rfl) (by kernel_rfl) (by kernel_rfl) (fun _ _ _ h => h) (Or.inl ⟨by rfl, fun w' h => ?_⟩) hHeld ?_
          · go_simp
          try simp only [List.setIfInBounds_toArray, List.set_cons_zero, List.set_cons_succ]
          refine take_to 5 61 (.agg #[.int .i64 p.F, .int .u64 p.H, .int .u64 p.L, .int .i64 p.B]) rfl rfl (by kernel_rfl) (by kernel_rfl) (by kernel_rfl) (fun _ _ _ h => h) (Or.inl ⟨by rfl, fun w' h => ?_⟩) hHeld ?_
          · have x0 := Pm.c0 h; have x1 := Pm.c1 h; have x2 := Pm.c2 h; have x3 := Pm.c3 h
            go_simp
          try simp only [List.setIfInBounds_toArray, List.set_cons_zero, List.set_cons_succ]
          refine take_to 6 62 (.int .i64 p.K) rfl rfl (by kernel_rfl) (by kernel_rfl) (by kernel_rfl) (fun _ _ _ h => h) (Or.inl ⟨by rfl, fun w' h => ?_⟩) hHeld ?_
          · go_simp
          try simp only [List.setIfInBounds_toArray, List.set_cons_zero, List.set_cons_succ]
          refine take_to 8 64 (.pointer (some ⟨g, 5, none⟩)) rfl rfl (by kernel_rfl) (by kernel_rfl) (by kernel_rfl) (fun _ _ _ h => h) (Or.inl ⟨by rfl, fun w' h => ?_⟩) hHeld ?_
          · go_simp
          try simp only [List.setIfInBounds_toArray, List.set_cons_zero, List.set_cons_succ]
          refine wpAnyH_ready (rs := [4]) (by kernel_rfl) (by simp) ?_
          refine AllReadyH.cons rfl (fun K hK => ?_) AllReadyH.nil
          rw [if_pos (by rfl)]
          have k5 := mg.c6
          go_wp2_with fail
          refine hK.out _ _ m0 (fun hHeld => ?_)
          clear hK K k5
          try simp only [Act.put, List.setIfInBounds_toArray, List.set_cons_zero, List.set_cons_succ]
          refine wpAnyH_ready (rs := [7]) (by kernel_rfl) (by simp) ?_
          refine AllReadyH.cons rfl (fun K hK => ?_) AllReadyH.nil
          rw [if_pos (by rfl)]
          go_wp2_with fail
          have hgv : g < wv.heap.size := mg.lt
          refine (kk wv).mono ?_
          rintro e we ⟨⟨g2, rfl, hn1, hge⟩, g3⟩
          obtain ⟨vp, HVP⟩ : ∃ vp, Hid (vp = some (⟨g2, 0, none⟩ : Addr)) := ⟨_, rfl⟩
          rw [← HVP.out]
          have hsv := g3.size
          replace mg := mg.kept g3
          replace m0 := m0.kept g3
          have HB3 := hid B0.size
          replace B0 := bel_bel B0 B0.size g3
          clear hHeld
          try go_wp2_with fail
          refine hK.out _ _ m0 (fun hHeld => ?_)
          clear hK K
          try simp only [Act.put, List.setIfInBounds_toArray, List.set_cons_zero, List.set_cons_succ]
          refine take_to 9 65 (.pointer (some ⟨g, 6, none⟩)) rfl rfl (by kernel_rfl) (by kernel_rfl) (by kernel_rfl) (fun _ _ _ h => h) (Or.inl ⟨by rfl, fun w' h => ?_⟩) hHeld ?_
          · go_simp
          try simp only [List.setIfInBounds_toArray, List.set_cons_zero, List.set_cons_succ]
          refine wpAnyH_ready (rs := [10]) (by kernel_rfl) (by simp) ?_
          refine AllReadyH.cons rfl (fun K hK => ?_) AllReadyH.nil
          rw [if_pos (by rfl)]
          have k5 := mg.c6
          have z5 := mg.fz 6
          go_wp2_with fail
          replace mg := mg.set6 (.pointer vp)
          replace m0 := m0.other (g' := g) (by omega) 6 (.pointer vp)
          replace B0 := B0.setCell (p := ⟨g, 6, none⟩) (Nat.le_of_lt hg) (.pointer vp)
          refine hK.out _ _ m0 (fun hHeld => ?_)
          clear hK K k5 z5
          try simp only [Act.put, List.setIfInBounds_toArray, List.set_cons_zero, List.set_cons_succ]
          refine wpAnyH_done (by kernel_rfl) ?_ _
          go_wp2_with fail
          go_ret
          replace hn1 := hn1.other (g := g) (by omega) 6 (.pointer vp)
          have hvp := HVP.out
          subst hvp
          refine ⟨⟨.node g C (.node b x l r) (.node g2 p .nil .nil), rfl, ⟨mg, HND.out.at (fun z hz => B0.block _ (HND.out.lt z hz)), ⟨hn1, trivial, trivial⟩⟩, (wth_fork HWF.out hp rfl HCK.out ?_ u1 u2 (.inl rfl) (by omega) g g2).1 rfl rfl, Frs.node (Nat.le_of_lt hg) (Frs.self _ _) (Frs.node (Nat.le_trans HB3.out hge) (Frs.nil _ _) (Frs.nil _ _))⟩, B0⟩
          have := HC0.out
          rw [← this]
        · have hi : bi (nb p.F) p.A C.B.toNat = 0 := by have := bi_or (nb p.F) p.A C.B.toNat; omega
          rw [hj] at u1
          rw [hi] at u2
          clear u3
          have a0 := mg.c0
          have a1 := mg.c1
          have a2 := mg.c2
          have a3 := mg.c3
          have e0 := n0.c0
          have e1 := n0.c1
          have e2 := n0.c2
          have e3 := n0.c3
          have q1 := fun w => eqp_sm C x w
          rw [s1] at q1
          go_wp2_with fail
          go_quiet (fail)
          clear a0 a1 a2 a3
          clear e0 e1 e2 e3
          replace mg : Nm (wc.drewN nq) g C (.pointer none) (.pointer none) := mg
          replace n0 : Nm (wc.drewN nq) b x (.pointer lp) (.pointer rp) := n0
          replace m0 : Pm (wc.drewN nq) w.heap.size p.F p.H p.L p.B := m0
          replace B0 : Below w.heap.size w (wc.drewN nq) := bel_drawn B0 nq
          generalize wc.drewN nq = wq at *
          clear q1
          have kx := fun w => bitw p.F x C.B w HWF.out.1 ⟨HCK.out.b.1, hlx⟩
          rw [hj] at kx
          go_wp2_with fail
          refine wp_region_held_drew (S := fun wx => Nm wx b x (.pointer lp) (.pointer rp) ∧ wx.cell? ⟨g, 3, none⟩ = some (.int .i64 C.B)) (by kernel_rfl) ⟨n0.drew, mg.drew.c3⟩ (fun hHeld => ?_)
          replace mg := mg.drew
          replace n0 := n0.drew
          replace m0 := m0.drew
          replace B0 := bel_drew1 B0
          generalize wq.drew = wd at *
          refine take_to 0 32 (.pointer (some ⟨b, 0, none⟩)) rfl rfl (by kernel_rfl) (by kernel_rfl) (by kernel_rfl) (fun _ _ _ h => h) (Or.inl ⟨by rfl, fun w' h => ?_⟩) hHeld ?_
          · go_simp
          try simp only [List.setIfInBounds_toArray, List.set_cons_zero, List.set_cons_succ]
          refine take_to 1 33 (.pointer (some ⟨b, 0, none⟩)) rfl rfl (by kernel_rfl) (by kernel_rfl) (by kernel_rfl) (fun _ _ _ h => h) (Or.inl ⟨by rfl, fun w' h => ?_⟩) hHeld ?_
          · go_simp
          try simp only [List.setIfInBounds_toArray, List.set_cons_zero, List.set_cons_succ]
          refine take_to 2 34 (.pointer (some ⟨b, 0, none⟩)) rfl rfl (by kernel_rfl) (by kernel_rfl) (by kernel_rfl) (fun _ _ _ h => h) (Or.inl ⟨by rfl, fun w' h => ?_⟩) hHeld ?_
          · go_simp
          try simp only [List.setIfInBounds_toArray, List.set_cons_zero, List.set_cons_succ]
          refine take_to 3 35 (.pointer (some ⟨b, 0, none⟩)) rfl rfl (by kernel_rfl) (by kernel_rfl) (by kernel_rfl) (fun _ _ _ h => h) (Or.inl ⟨by rfl, fun w' h => ?_⟩) hHeld ?_
          · go_simp
          try simp only [List.setIfInBounds_toArray, List.set_cons_zero, List.set_cons_succ]
          refine take_to 4 36 (.agg #[.int .i64 x.F, .int .u64 x.H, .int .u64 x.L]) rfl rfl (by kernel_rfl) (by kernel_rfl) (by kernel_rfl) (fun _ _ _ h => h) (Or.inl ⟨by rfl, fun w' h => ?_⟩) hHeld ?_
          · have x0 := Nm.c0 h.1; have x1 := Nm.c1 h.1; have x2 := Nm.c2 h.1
            go_simp
          try simp only [List.setIfInBounds_toArray, List.set_cons_zero, List.set_cons_succ]
          refine take_to 5 37 (.pointer (some ⟨g, 0, none⟩)) rfl rfl (by kernel_rfl) (by kernel_rfl) (by kernel_rfl) (fun _ _ _ h => h) (Or.inl ⟨by rfl, fun w' h => ?_⟩) hHeld ?_
          · go_simp
          try simp only [List.setIfInBounds_toArray, List.set_cons_zero, List.set_cons_succ]
          refine take_to 6 38 (.pointer (some ⟨g, 3, none⟩)) rfl rfl (by kernel_rfl) (by kernel_rfl) (by kernel_rfl) (fun _ _ _ h => h) (Or.inl ⟨by rfl, fun w' h => ?_⟩) hHeld ?_
          · go_simp
          try simp only [List.setIfInBounds_toArray, List.set_cons_zero, List.set_cons_succ]
          refine take_to 7 39 (.int .i64 C.B) rfl rfl (by kernel_rfl) (by kernel_rfl) (by kernel_rfl) (fun _ _ _ h => h) (Or.inl ⟨by rfl, fun w' h => ?_⟩) hHeld ?_
          · have x0 := h.2
            go_simp
          try simp only [List.setIfInBounds_toArray, List.set_cons_zero, List.set_cons_succ]
          refine take_to 9 41 (.pointer (some ⟨b, 0, none⟩)) rfl rfl (by kernel_rfl) (by kernel_rfl) (by kernel_rfl) (fun _ _ _ h => h) (Or.inl ⟨by rfl, fun w' h => ?_⟩) hHeld ?_
          · go_simp
          try simp only [List.setIfInBounds_toArray, List.set_cons_zero, List.set_cons_succ]
          refine take_to 10 42 (.pointer (some ⟨g, 5, none⟩)) rfl rfl (by kernel_rfl) (by kernel_rfl) (by kernel_rfl) (fun _ _ _ h => h) (Or.inl ⟨by rfl, fun w' h => ?_⟩) hHeld ?_
          · go_simp
          try simp only [List.setIfInBounds_toArray, List.set_cons_zero, List.set_cons_succ]
          refine wpAnyH_ready (rs := [8]) (by kernel_rfl) (by simp) ?_
          refine AllReadyH.cons rfl (fun K hK => ?_) AllReadyH.nil
          rw [if_pos (by rfl)]
          go_wp2_with fail
          refine (kx _).mono ?_
          rintro e wa ⟨rfl, g2⟩
          replace n0 := n0.kept g2
          replace mg := mg.kept g2
          replace m0 := m0.kept g2
          replace B0 := bel_bel B0 B0.size g2
          clear hHeld g2
          try go_wp2_with fail
          refine hK.out _ _ ⟨n0, mg.c3⟩ (fun hHeld => ?_)
          clear hK K
          try simp only [Act.put, List.setIfInBounds_toArray, List.set_cons_zero, List.set_cons_succ]
          refine take_to 11 43 (.pointer (some ⟨g, 6, none⟩)) rfl rfl (by kernel_rfl) (by kernel_rfl) (by kernel_rfl) (fun _ _ _ h => h) (Or.inl ⟨by rfl, fun w' h => ?_⟩) hHeld ?_
          · go_simp
          try simp only [List.setIfInBounds_toArray, List.set_cons_zero, List.set_cons_succ]
          refine wpAnyH_ready (rs := [12]) (by kernel_rfl) (by simp) ?_
          refine AllReadyH.cons rfl (fun K hK => ?_) AllReadyH.nil
          rw [if_pos (by rfl)]
          have k5 := mg.c6
          have z5 := mg.fz 6
          go_wp2_with fail
          replace mg := mg.set6 (.pointer (some ⟨b, 0, none⟩))
          replace n0 := n0.other (g := g) hbg 6 (.pointer (some ⟨b, 0, none⟩))
          replace m0 := m0.other (g' := g) (by omega) 6 (.pointer (some ⟨b, 0, none⟩))
          replace B0 := B0.setCell (p := ⟨g, 6, none⟩) (Nat.le_of_lt hg) (.pointer (some ⟨b, 0, none⟩))
          refine hK.out _ _ ⟨n0, mg.c3⟩ (fun hHeld => ?_)
          clear hK K k5 z5 hHeld
          try simp only [Act.put, List.setIfInBounds_toArray, List.set_cons_zero, List.set_cons_succ]
          refine wpAnyH_done (by kernel_rfl) ?_ _
          generalize wa.setCell ⟨g, 6, none⟩ (.pointer (some ⟨b, 0, none⟩)) = we at *
          have a0 := mg.c0
          have a1 := mg.c1
          have a2 := mg.c2
          have a3 := mg.c3
          have f0 := m0.c0
          have f1 := m0.c1
          have f2 := m0.c2
          have f3 := m0.c3
          have q2 := fun w => eqp_sm C p w
          rw [s2] at q2
          have kb := fun w => bitw p.F p C.B w HPK.out ⟨HCK.out.b.1, hlp2⟩
          rw [hi] at kb
          go_wp2_with (go_at_call 54; refine (kb _).mono ?_; rintro e wb ⟨rfl, g2⟩)
          clear a0 a1 a2 a3 f0 f1 f2 f3 q2
          replace mg := mg.kept g2
          replace m0 := m0.kept g2
          replace n0 := n0.kept g2
          replace B0 := bel_bel B0 B0.size g2
          clear g2
          have kk := KN.out
          unfold Wy.px at kk
          refine wp_region_held_drew (S := fun wx => Pm wx w.heap.size p.F p.H p.L p.B) (by kernel_rfl) m0.drew (fun hHeld => ?_)
          replace mg := mg.drew
          replace m0 := m0.drew
          replace B0 := bel_drew1 B0
          generalize wb.drew = wv at *
          refine take_to 0 56 (.int .i64 0) rfl rfl (by kernel_rfl) (by kernel_rfl) (by kernel_rfl) (fun _ _ _ h => h) (Or.inl ⟨by rfl, fun w' h => ?_⟩) hHeld ?_
          · go_simp
          try simp only [List.setIfInBounds_toArray, List.set_cons_zero, List.set_cons_succ]
          refine take_to 1 57 (.int .i64 0) rfl rfl (by kernel_rfl) (by kernel_rfl) (by kernel_rfl) (fun _ _ _ h => h) (Or.inl ⟨by rfl, fun w' h => ?_⟩) hHeld ?_
          · go_simp
          try simp only [List.setIfInBounds_toArray, List.set_cons_zero, List.set_cons_succ]
          refine take_to 2 58 (.pointer (some ⟨g, 5, none⟩)) rfl rfl (by kernel_rfl) (by kernel_rfl) (by kernel_rfl) (fun _ _ _ h => h) (Or.inl ⟨by rfl, fun w' h => ?_⟩) hHeld ?_
          · go_simp
          try simp only [List.setIfInBounds_toArray, List.set_cons_zero, List.set_cons_succ]
          refine take_to 3 59 (.pointer (some ⟨g, 5, none⟩)) rfl rfl (by kernel_rfl) (by kernel_rfl) (by kernel_rfl) (fun _ _ _ h => h) (Or.inl ⟨by rfl, fun w' h => ?_⟩) hHeld ?_
          · go_simp
          try simp only [List.setIfInBounds_toArray, List.set_cons_zero, List.set_cons_succ]
          refine take_to 5 61 (.agg #[.int .i64 p.F, .int .u64 p.H, .int .u64 p.L, .int .i64 p.B]) rfl rfl (by kernel_rfl) (by kernel_rfl) (by kernel_rfl) (fun _ _ _ h => h) (Or.inl ⟨by rfl, fun w' h => ?_⟩) hHeld ?_
          · have x0 := Pm.c0 h; have x1 := Pm.c1 h; have x2 := Pm.c2 h; have x3 := Pm.c3 h
            go_simp
          try simp only [List.setIfInBounds_toArray, List.set_cons_zero, List.set_cons_succ]
          refine take_to 6 62 (.int .i64 p.K) rfl rfl (by kernel_rfl) (by kernel_rfl) (by kernel_rfl) (fun _ _ _ h => h) (Or.inl ⟨by rfl, fun w' h => ?_⟩) hHeld ?_
          · go_simp
          try simp only [List.setIfInBounds_toArray, List.set_cons_zero, List.set_cons_succ]
          refine take_to 8 64 (.pointer (some ⟨g, 5, none⟩)) rfl rfl (by kernel_rfl) (by kernel_rfl) (by kernel_rfl) (fun _ _ _ h => h) (Or.inl ⟨by rfl, fun w' h => ?_⟩) hHeld ?_
          · go_simp
          try simp only [List.setIfInBounds_toArray, List.set_cons_zero, List.set_cons_succ]
          refine wpAnyH_ready (rs := [4]) (by kernel_rfl) (by simp) ?_
          refine AllReadyH.cons rfl (fun K hK => ?_) AllReadyH.nil
          rw [if_pos (by rfl)]
          have k5 := mg.c5
          go_wp2_with fail
          refine hK.out _ _ m0 (fun hHeld => ?_)
          clear hK K k5
          try simp only [Act.put, List.setIfInBounds_toArray, List.set_cons_zero, List.set_cons_succ]
          refine wpAnyH_ready (rs := [7]) (by kernel_rfl) (by simp) ?_
          refine AllReadyH.cons rfl (fun K hK => ?_) AllReadyH.nil
          rw [if_pos (by rfl)]
          go_wp2_with fail
          have hgv : g < wv.heap.size := mg.lt
          refine (kk wv).mono ?_
          rintro e we ⟨⟨g2, rfl, hn1, hge⟩, g3⟩
          obtain ⟨vp, HVP⟩ : ∃ vp, Hid (vp = some (⟨g2, 0, none⟩ : Addr)) := ⟨_, rfl⟩
          rw [← HVP.out]
          have hsv := g3.size
          replace mg := mg.kept g3
          replace m0 := m0.kept g3
          have HB3 := hid B0.size
          replace B0 := bel_bel B0 B0.size g3
          clear hHeld
          try go_wp2_with fail
          refine hK.out _ _ m0 (fun hHeld => ?_)
          clear hK K
          try simp only [Act.put, List.setIfInBounds_toArray, List.set_cons_zero, List.set_cons_succ]
          refine take_to 9 65 (.pointer (some ⟨g, 5, none⟩)) rfl rfl (by kernel_rfl) (by kernel_rfl) (by kernel_rfl) (fun _ _ _ h => h) (Or.inl ⟨by rfl, fun w' h => ?_⟩) hHeld ?_
          · go_simp
          try simp only [List.setIfInBounds_toArray, List.set_cons_zero, List.set_cons_succ]
          refine wpAnyH_ready (rs := [10]) (by kernel_rfl) (by simp) ?_
          refine AllReadyH.cons rfl (fun K hK => ?_) AllReadyH.nil
          rw [if_pos (by rfl)]
          have k5 := mg.c5
          have z5 := mg.fz 5
          go_wp2_with fail
          replace mg := mg.set5 (.pointer vp)
          replace m0 := m0.other (g' := g) (by omega) 5 (.pointer vp)
          replace B0 := B0.setCell (p := ⟨g, 5, none⟩) (Nat.le_of_lt hg) (.pointer vp)
          refine hK.out _ _ m0 (fun hHeld => ?_)
          clear hK K k5 z5
          try simp only [Act.put, List.setIfInBounds_toArray, List.set_cons_zero, List.set_cons_succ]
          refine wpAnyH_done (by kernel_rfl) ?_ _
          go_wp2_with fail
          go_ret
          replace hn1 := hn1.other (g := g) (by omega) 5 (.pointer vp)
          have hvp := HVP.out
          subst hvp
          refine ⟨⟨.node g C (.node g2 p .nil .nil) (.node b x l r), rfl, ⟨mg, ⟨hn1, trivial, trivial⟩, HND.out.at (fun z hz => B0.block _ (HND.out.lt z hz))⟩, (wth_fork HWF.out hp rfl HCK.out ?_ u1 u2 (.inr rfl) (by omega) g g2).2 rfl rfl, Frs.node (Nat.le_of_lt hg) (Frs.node (Nat.le_trans HB3.out hge) (Frs.nil _ _) (Frs.nil _ _)) (Frs.self _ _)⟩, B0⟩
          have := HC0.out
          rw [← this]
end Go.Proofs.Ytcaecfdeieoenaa
