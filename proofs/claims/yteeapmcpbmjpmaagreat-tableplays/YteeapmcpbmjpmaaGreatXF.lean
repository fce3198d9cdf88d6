import Derived.Test.YteeapmcpbmjpmaaGreatXE
namespace Go.Proofs.YteeapmcpbmjpmaaGreat
set_option maxRecDepth 100000
open Go.RowKit Go.Shelf Go.Maps
set_option linter.unusedVariables false
attribute [local go_sem ↓] Go.wp_at_zero Go.wp_at_succ

set_option maxHeartbeats 2000000 in
/-- The law's held: what was lent is as it was; then it is written over. -/
theorem held_ (w0 W : World) (m : Nat) (vs vk vv : Value) (es : List LE) (U : Nat → Prop) (a : Option Addr) (n c : Nat) (l : List Sx) (h : Ln w0 W m vs vk vv (es.map leS ++ [endS']) es es es) (hl : Sl W U a n l) (hes : es.map (·.s) = l) (hU : ∀ x, x < W.heap.size → U x → (∀ e ∈ es, x ≠ e.gk ∧ x ≠ e.gv) ∧ vs.ownBlock ≠ some x) (hn : n ≤ 10000000) (hsh : ∀ s ∈ l, s.k.length ≤ 2000 ∧ s.v.length ≤ 2000) :
    Calls Tryz.prog 35 #[.pointer (some ⟨m, 0, none⟩), .slice a n c] W fun e W' => e = .returned (.bool true) ∧ Below w0.heap.size w0 W' ∧ W.heap.size ≤ W'.heap.size ∧ (∀ x, x < W.heap.size → (∀ e ∈ es, x ≠ e.gk ∧ x ≠ e.gv) → vs.ownBlock ≠ some x → W'.heap[x]? = W.heap[x]?) := by
  obtain ⟨gs, cs, hvs, hcs, hcm, hsl⟩ := h.sl
  have hen : es.length = n := by rw [← hl.len, ← hes, List.length_map]
  rw [hen] at hvs hcs hsl
  have hgs : vs.ownBlock = some gs := by rw [hvs]; rfl
  have HGS : Hid (w0.heap.size ≤ gs) := (h.os.lt gs hgs).1
  obtain ⟨crow, hcrow⟩ := own_type h.os hgs
  have hrs : (es.length + 1) * 3 ≤ crow.size := by
    have h1 := h.os
    rcases h1.2 with ⟨e, _⟩ | ⟨g, cap, cur, e, _, hg, hnc, _, hcs', _⟩
    · rw [hvs] at e; simp at e
    · rw [hvs] at e
      simp only [Value.slice.injEq, Option.some.injEq, Addr.mk.injEq] at e
      obtain ⟨⟨rfl, _⟩, _, _⟩ := e
      rw [hg] at hcrow
      simp at hcrow
      obtain ⟨rfl, _⟩ := hcrow
      rw [hcs', hen]
      have : (es.map leS ++ [endS']).length = n + 1 := by simp [hen]
      rw [this] at hnc
      exact Nat.mul_le_mul_right _ hnc
  have H0 : Hid (Hd w0 W W m gs vs vk vv es 0) := ⟨h.var, ⟨crow, hcrow, hrs⟩, h.ok, h.ov, fun j _ e he => h.y e (List.mem_of_getElem? he), h.bel, fun x _ _ _ => rfl, Nat.le_refl _⟩
  have HND := hid h.nd
  have HL := hid hl
  have HES := hid hes
  have HEN := hid hen
  have HUU : Hid (∀ x, x < W.heap.size → U x → (∀ e ∈ es, x ≠ e.gk ∧ x ≠ e.gv) ∧ x ≠ gs) := fun x hx hu => ⟨(hU x hx hu).1, fun e => (hU x hx hu).2 (by rw [hgs, e])⟩
  have HSH := hid hsh
  have HVS := hid hvs
  have HOUT : Hid (∀ x, vs.ownBlock ≠ some x ↔ x ≠ gs) := fun x => by rw [hgs]; exact ⟨fun h e => h (by rw [e]), fun h e => h (Option.some.inj e).symm⟩
  have HS1 := hid (hsl.cut (k := n) (by omega))
  have hcut : (es.map (·.s) ++ [(⟨[], [], true⟩ : Sx)]).take n = l := by rw [hes, ← hl.len]; simp
  rw [hcut] at HS1
  have cA : W.cell? ⟨gs, n * 3 + 2, none⟩ = some (.bool true) ∧ W.cell? ⟨gs, n * 3, none⟩ = some (.slice none 0 0) := by
    have hh := h.os
    obtain ⟨a', c', hv', -, -, -, hx⟩ := own_addr hh
    rw [hvs] at hv'
    simp only [Value.slice.injEq] at hv'
    obtain ⟨rfl, _, rfl⟩ := hv'
    rcases hx with ⟨e, _⟩ | ⟨g, e, _, _, hx⟩
    · cases e
    · simp at e
      subst e
      have hl2 : (es.map leS ++ [endS']).length = n + 1 := by simp [hen]
      have hi : n < (es.map leS ++ [endS']).length := by omega
      have hg : (es.map leS ++ [endS'])[n] = endS' := by rw [List.getElem_append_right (by simp [hen])]; simp [hen]
      refine ⟨hx _ _ ?_, ?_⟩
      · rw [sds_get _ n hi 2 (by omega), hg]; rfl
      · have := hx (n * 3 + 0) (.slice none 0 0) (by rw [sds_get _ n hi 0 (by omega), hg]; rfl)
        simpa using this
  have HCA := hid cA
  have cv0 : W.cell? ⟨m, 0, none⟩ = some (.slice (some ⟨gs, 0, none⟩) (n + 1) cs) := by
    rw [cell_of_row W m 0 _ 82 (0, 0) h.var, hvs]; rfl
  have HC0 := hid cv0
  have hml : m < W.heap.size := h.mlt
  have hgl : gs < W.heap.size := (h.os.lt gs hgs).2
  unfold maxLen at hcm
  have i1 : (0 : Int) ≤ n := by omega
  have i2 : (n : Int) ≤ cs := by omega
  have i3 : ¬ cs = 0 := by omega
  have i4 : (n : Int) < (n : Int) + 1 := by omega
  clear h hl hes hU hsl hcut cA hvs hgs hrs hcrow hsh hen
  have ks := fun wx (hb : Below W.heap.size W wx) => s_sameSets (w0 := W) (w := wx) cs c true hb (HS1.out.below hb) (HL.out.below hb) (by omega) (by omega) (by simp [sameS])
  go_enter Tryz.func35, Tryz.ntmps35
  go_wp2_with fail
  clear cv0
  refine (ks _ (Below.refl _ _)).mono ?_
  rintro e w1 ⟨rfl, -, bb⟩
  have y0 := (bb.cell hml).trans HC0.out
  have y1 := (bb.cell hgl).trans HCA.out.1
  have y2 := (bb.cell hgl).trans HCA.out.2
  have H1 := hid (H0.out.below bb)
  clear ks bb H0 HS1
  go_wp2_with fail
  clear y0 y1 y2
  go_loopw [6, 7] (fun o i wr => ∃ k : Nat, k ≤ n ∧ o = .bool true ∧ i = .int .i64 k ∧ Hid (Hd w0 W wr m gs vs vk vv es k)) (fun _ i _ => n - (intOf i).toNat)
  case atStart => exact ⟨0, by omega, rfl, rfl, H1⟩
  case round =>
    obtain ⟨k, hk, rfl, rfl, HH⟩ := hrel
    by_cases hlt : k < n
    · have hI : (k : Int) < n := by omega
      have hkE : k < es.length := by rw [HEN.out]; exact hlt
      have hkL : k < l.length := by rw [← HES.out, List.length_map]; exact hkE
      obtain ⟨e, HE⟩ : ∃ e, Hid (es[k]? = some e) := ⟨es[k], List.getElem?_eq_getElem hkE⟩
      have hem : e ∈ es := List.mem_of_getElem? HE.out
      have hsl := (HL.out.wide (V' := fun x => U x ∧ x < W.heap.size) fun x hx hu => ⟨hu, hx⟩).step (w' := wr) fun x _ hu _ => HH.out.same x hu.2 (HUU.out x hu.2 hu.1).1 (HUU.out x hu.2 hu.1).2
      have hsU : ∀ x, U x → x < W.heap.size → ∀ e ∈ es, x ≠ e.gk ∧ x ≠ e.gv := fun x hu hx => (HUU.out x hx hu).1
      obtain ⟨bl, off, ka, kc, va, vc, kn, vn, rfl, hkn, hvn, c0, c1, c2, v1, v2⟩ := hsl.at hlt
      have hbl : bl < W.heap.size ∧ U bl := by
        rcases HL.out.cells with h0 | ⟨b', o', e', hb', hh⟩
        · omega
        · obtain ⟨rfl, rfl⟩ : bl = b' ∧ off = o' := by simpa using e'
          exact ⟨(hh 0 (by omega)).lt, hb'⟩
      have hse : l.getD k default = e.s := by
        have h1 := HE.out
        rw [← HES.out]
        simp [List.getD, h1]
      rw [hse] at hkn hvn v1 v2
      have hsz := HSH.out _ (by rw [← hse]; exact getD_mem hkL : e.s ∈ l)
      obtain ⟨qk, cK, hvk, hqk, hck⟩ := own_cell HH.out.ok (by omega)
      obtain ⟨qv, cV, hvv, hqv, hcv⟩ := own_cell HH.out.ov (by omega)
      have ly := HH.out.y k (Nat.le_refl _) e HE.out
      have z1 : wr.cell? ⟨m, 1, none⟩ = some (.slice (some ⟨qk, 0, none⟩) n cK) := by
        rw [cell_of_row wr m 1 _ 82 (0, 0) HH.out.var, hvk, HEN.out]; rfl
      have z2 : wr.cell? ⟨m, 2, none⟩ = some (.slice (some ⟨qv, 0, none⟩) n cV) := by
        rw [cell_of_row wr m 2 _ 82 (0, 0) HH.out.var, hvv, HEN.out]; rfl
      have z3 : wr.cell? ⟨qk, k, none⟩ = some (.slice (some ⟨e.gk, 0, none⟩) (kn + 2) e.kc) := hck k _ (by rw [List.getElem?_map, HE.out, hkn]; rfl)
      have z4 : wr.cell? ⟨qv, k, none⟩ = some (.slice (some ⟨e.gv, 0, none⟩) (vn + 2) e.vc) := hcv k _ (by rw [List.getElem?_map, HE.out, hvn]; rfl)
      have hne1 := nd_own HND.out HE.out
      have hyk := ly.k
      have hyv := ly.v
      rw [← hkn] at hyk
      rw [← hvn] at hyv
      have hck' := ly.ck
      have hcv' := ly.cv
      rw [← hkn] at hck'
      rw [← hvn] at hcv'
      rw [← hkn, ← hvn] at hsz
      have hgk0 := ly.bk
      have hgv0 := ly.bv
      obtain ⟨gk, Hgk⟩ : ∃ g, Hid (e.gk = g) := ⟨_, rfl⟩
      obtain ⟨gv, Hgv⟩ : ∃ g, Hid (e.gv = g) := ⟨_, rfl⟩
      obtain ⟨ec, Hec⟩ : ∃ g, Hid (e.kc = g) := ⟨_, rfl⟩
      obtain ⟨ev, Hev⟩ : ∃ g, Hid (e.vc = g) := ⟨_, rfl⟩
      obtain ⟨zk, Hzk⟩ : ∃ g, Hid (e.s.k = g) := ⟨_, rfl⟩
      obtain ⟨zv, Hzv⟩ : ∃ g, Hid (e.s.v = g) := ⟨_, rfl⟩
      rw [Hgk.out] at z3 hyk hgk0 hne1
      rw [Hgv.out] at z4 hyv hgv0 hne1
      rw [Hec.out] at z3 hck'
      rw [Hev.out] at z4 hcv'
      rw [Hzk.out] at hyk v1
      rw [Hzv.out] at hyv v2
      have HMK : Hid (∃ e ∈ es, gk = e.gk ∨ gk = e.gv) := ⟨e, hem, .inl Hgk.out.symm⟩
      have HMV : Hid (∃ e ∈ es, gv = e.gk ∨ gv = e.gv) := ⟨e, hem, .inr Hgv.out.symm⟩
      have HNK : Hid (∀ j, k + 1 ≤ j → ∀ f, es[j]? = some f → (f.gk ≠ gk ∧ f.gv ≠ gk) ∧ (f.gk ≠ gv ∧ f.gv ≠ gv)) := fun j hj f hf => by
        have := nd_at HND.out HE.out hf (by omega)
        rw [Hgk.out, Hgv.out] at this
        exact ⟨⟨this.1.symm, this.2.1.symm⟩, ⟨this.2.2.1.symm, this.2.2.2.symm⟩⟩
      -- blocks that the marks' writing leaves
      have hbk : ∀ {x : Nat} {cs : Array Value} {T : TypeId} {fz : Nat × Nat}, wr.heap[x]? = some (.cells cs T fz) → T ≠ 5 → x ≠ gk ∧ x ≠ gv := fun {x cs T fz} hx hT => by
        obtain ⟨cy, hcy⟩ := hyk.blk
        obtain ⟨cz, hcz⟩ := hyv.blk
        exact ⟨fun e => by rw [e, hcy] at hx; simp at hx; exact hT hx.2.1.symm, fun e => by rw [e, hcz] at hx; simp at hx; exact hT hx.2.1.symm⟩
      have hnm : m ≠ gk ∧ m ≠ gv := hbk HH.out.var (by decide)
      have hnq : (qk ≠ gk ∧ qk ≠ gv) ∧ (qv ≠ gk ∧ qv ≠ gv) := by
        obtain ⟨c1, hc1⟩ := own_type HH.out.ok (q := qk) (by rw [hvk]; rfl)
        obtain ⟨c2, hc2⟩ := own_type HH.out.ov (q := qv) (by rw [hvv]; rfl)
        exact ⟨hbk hc1 (by decide), hbk hc2 (by decide)⟩
      have hnb : bl ≠ gk ∧ bl ≠ gv := by
        have := hsU bl hbl.2 hbl.1 e hem
        rw [Hgk.out, Hgv.out] at this
        exact this
      have hvg : ∀ x, U x ∧ x < W.heap.size → x ≠ gk ∧ x ≠ gv := fun x hu => by
        have := hsU x hu.1 hu.2 e hem
        rw [Hgk.out, Hgv.out] at this
        exact this
      have hgkl := hyk.lt
      have hgvl := hyv.lt
      have kmk := fun wx (hb : Below wr.heap.size wr wx) => marked_ gk kn ec 0 kc ka zk 161 162 wx (hyk.below hb) hck'.1 hck'.2 (v1.bs.below hb) (by omega)
      have HDR := hid (below_drew wr)
      have HC0 := hid c0
      have HC1 := hid c1
      have HZ1 := hid z1
      have HZ2 := hid z2
      have HZ3 := hid z3
      have HZ4 := hid z4
      have HYV := hid hyv
      have HYK := hid hyk
      have HV2 := hid v2
      have HLT : Hid (m < wr.heap.size ∧ qk < wr.heap.size ∧ qv < wr.heap.size ∧ bl < wr.heap.size) := ⟨World.block_lt_of_cell? _ _ z1, World.block_lt_of_cell? _ _ z3, World.block_lt_of_cell? _ _ z4, World.block_lt_of_cell? _ _ c0⟩
      have hkI0 : (0 : Int) ≤ (k : Int) := by omega
      clear hkn hvn v1 v2 hyk hyv c1 c2 z2 z4 hck hcv hsl ly hse hem hbk
      go_wp2_with fail
      go_region_held (fun wx => wx.cell? ⟨m, 1, none⟩ = some (.slice (some ⟨qk, 0, none⟩) n cK) ∧ wx.cell? ⟨qk, k, none⟩ = some (.slice (some ⟨gk, 0, none⟩) (kn + 2) ec) ∧ wx.cell? ⟨bl, off + k * 3, none⟩ = some (.slice ka kn kc)) (go_keep) (first | (go_at_call 25; refine (kmk _ (by exact HDR.out)).mono ?_; rintro e' w2 ⟨rfl, wm, ys, b1, g1, y1⟩; have HB1 := hid (bel_bel HDR.out HDR.out.size b1); have HG1 := hid g1; have HK2 : Hid (∀ x, x < wr.heap.size → x ≠ gk → w2.heap[x]? = wr.heap[x]?) := (fun x hx hn => (g1.block x (by have := HB1.out.size; omega) (fun e => hn (Option.some.inj e))).trans (HB1.out.block x hx)); have r1 := (World.cell?_of_block (w := wr) (w' := w2) (a := ⟨m, 1, none⟩) (HK2.out m HLT.out.1 hnm.1)).trans HZ1.out; have r3 := (World.cell?_of_block (w := wr) (w' := w2) (a := ⟨qk, k, none⟩) (HK2.out qk HLT.out.2.1 hnq.1.1)).trans HZ3.out; have r0 := (World.cell?_of_block (w := wr) (w' := w2) (a := ⟨bl, off + k * 3, none⟩) (HK2.out bl HLT.out.2.2.2 hnb.1)).trans HC0.out; clear b1 g1 y1))
      clear r1 r3 r0 z1 z3 c0 kmk
      have H2 := hid (HH.out.mark (i' := k + 1) (by omega) HB1.out HG1.out (HYK.out.below HB1.out) HMK.out hgk0 (fun j hj f hf => (HNK.out j hj f hf).1))
      have HYV2 := hid (HYV.out.same (HK2.out gv hgvl (Ne.symm hne1)))
      have HV22 := hid (HV2.out.step (w' := w2) fun x hx hu _ => HK2.out x hx (hvg x hu).1)
      have s1 := (World.cell?_of_block (w := wr) (w' := w2) (a := ⟨m, 2, none⟩) (HK2.out m HLT.out.1 hnm.1)).trans HZ2.out
      have s3 := (World.cell?_of_block (w := wr) (w' := w2) (a := ⟨qv, k, none⟩) (HK2.out qv HLT.out.2.2.1 hnq.2.1)).trans HZ4.out
      have s0 := (World.cell?_of_block (w := wr) (w' := w2) (a := ⟨bl, off + k * 3 + 1, none⟩) (HK2.out bl HLT.out.2.2.2 hnb.1)).trans HC1.out
      have HS1 := hid s1
      have HS3 := hid s3
      have HS0 := hid s0
      have HLT2 : Hid (m < w2.heap.size ∧ qv < w2.heap.size ∧ bl < w2.heap.size) := ⟨World.block_lt_of_cell? _ _ s1, World.block_lt_of_cell? _ _ s3, World.block_lt_of_cell? _ _ s0⟩
      have kmv := fun wx (hb : Below w2.heap.size w2 wx) => marked_ gv vn ev 0 vc va zv 163 164 wx (HYV2.out.below hb) hcv'.1 hcv'.2 (HV22.out.bs.below hb) (by omega)
      have HDR2 := hid (below_drew w2)
      clear HB1 HG1 HK2 HYK HYV HV2 HZ1 HZ2 HZ3 HZ4 HC0 HC1 HLT HDR
      go_wp2_with fail
      go_region_held (fun wx => wx.cell? ⟨m, 2, none⟩ = some (.slice (some ⟨qv, 0, none⟩) n cV) ∧ wx.cell? ⟨qv, k, none⟩ = some (.slice (some ⟨gv, 0, none⟩) (vn + 2) ev) ∧ wx.cell? ⟨bl, off + k * 3 + 1, none⟩ = some (.slice va vn vc)) (go_keep) (first | (go_at_call 25; refine (kmv _ (by exact HDR2.out)).mono ?_; rintro e' w4 ⟨rfl, wm4, ys4, b4, g4, y4⟩; have HB4 := hid (bel_bel HDR2.out HDR2.out.size b4); have HG4 := hid g4; have HK4 : Hid (∀ x, x < w2.heap.size → x ≠ gv → w4.heap[x]? = w2.heap[x]?) := (fun x hx hn => (g4.block x (by have := HB4.out.size; omega) (fun e => hn (Option.some.inj e))).trans (HB4.out.block x hx)); have r1 := (World.cell?_of_block (w := w2) (w' := w4) (a := ⟨m, 2, none⟩) (HK4.out m HLT2.out.1 hnm.2)).trans HS1.out; have r3 := (World.cell?_of_block (w := w2) (w' := w4) (a := ⟨qv, k, none⟩) (HK4.out qv HLT2.out.2.1 hnq.2.2)).trans HS3.out; have r0 := (World.cell?_of_block (w := w2) (w' := w4) (a := ⟨bl, off + k * 3 + 1, none⟩) (HK4.out bl HLT2.out.2.2 hnb.2)).trans HS0.out; clear b4 g4 y4))
      clear r1 r3 r0 s1 s3 s0 kmv
      have H4 := hid (H2.out.mark (i' := k + 1) (Nat.le_refl _) HB4.out HG4.out (HYV2.out.below HB4.out) HMV.out hgv0 (fun j hj f hf => (HNK.out j hj f hf).2))
      clear HB4 HG4 HK4 HYV2 HV22 HS1 HS3 HS0 HLT2 HDR2 H2
      have x0 : w4.cell? ⟨m, 0, none⟩ = some (.slice (some ⟨gs, 0, none⟩) (n + 1) cs) := by
        rw [cell_of_row w4 m 0 _ 82 (0, 0) H4.out.var, HVS.out]; rfl
      have hk3 : (n + 1) * 3 ≤ (es.length + 1) * 3 := by rw [HEN.out]; exact Nat.le_refl _
      obtain ⟨⟨u0, t0⟩, f0⟩ := H4.out.cells (o := k * 3) (by omega)
      obtain ⟨⟨u1, t1⟩, f1⟩ := H4.out.cells (o := k * 3 + 1) (by omega)
      obtain ⟨⟨u2, t2⟩, f2⟩ := H4.out.cells (o := k * 3 + 2) (by omega)
      have hI1 : (k : Int) < (n : Int) + 1 := by omega
      have H5 := hid (((H4.out.set (o := k * 3) (u := .slice none 0 0) HGS.out).set (o := k * 3 + 1) (u := .slice none 0 0) HGS.out).set (o := k * 3 + 2) (u := .bool false) HGS.out)
      go_wp2_with fail
      go_roundw
      case rel => exact ⟨k + 1, by omega, by first | rfl | simp, by go_num, H5⟩
      case measure => simp [intOf]; omega
    · have hI : ¬ (k : Int) < n := by omega
      clear hlt
      go_wp2_with fail
      go_ret
      exact ⟨by first | rfl | simp, HH.out.bel, HH.out.size, fun x hx h1 h2 => HH.out.same x hx h1 ((HOUT.out x).1 h2)⟩
end Go.Proofs.YteeapmcpbmjpmaaGreat
