import Derived.Test.YtnmklleoilicdaaVI
namespace Go.Proofs.Ytnmklleoilicdaa
set_option maxRecDepth 100000
open Go.RowKit Go.Shelf Go.Maps
set_option linter.unusedVariables false

/-- The rows that a walk has gathered, apart from the blocks X. -/
structure Wg (w0 : World) (X : Nat → Prop) (lv nb B2 : Nat) (N : Int) (M : Tab) (k : Nat) (W : World) (v : Value) (ds : List RD) : Prop where
  var : W.heap[lv]? = some (.cells #[v] 51 (0, 0))
  cnt : W.heap[nb]? = some (.cells #[.int .i64 N] 3 (0, 0))
  own : W.ownsRow B2 78 2 v ds.length (rds ds)
  is : ds.map (·.s) = M.take k
  rv : ∀ d ∈ ds, RV2 W (fun x => w0.heap.size ≤ x ∧ x ≠ lv ∧ v.ownBlock ≠ some x ∧ ¬ X x) d
  bel : Below w0.heap.size w0 W
  base : B2 ≤ W.heap.size
theorem Wg.below {w0 W W' : World} {X : Nat → Prop} {lv nb B2 k : Nat} {N : Int} {M : Tab} {v : Value} {ds : List RD} (h : Wg w0 X lv nb B2 N M k W v ds) (hb : Below W.heap.size W W') : Wg w0 X lv nb B2 N M k W' v ds :=
  ⟨(hb.block _ (Array.getElem?_eq_some_iff.1 h.var).1).trans h.var, (hb.block _ (Array.getElem?_eq_some_iff.1 h.cnt).1).trans h.cnt, own_bel h.own hb, h.is, fun d hd => (h.rv d hd).below hb, bel_bel h.bel h.bel.size hb, Nat.le_trans h.base hb.size⟩
theorem Wg.wide {w0 W : World} {X X' : Nat → Prop} {lv nb B2 k : Nat} {N : Int} {M : Tab} {v : Value} {ds : List RD} (h : Wg w0 X lv nb B2 N M k W v ds) (hX : ∀ x, x < W.heap.size → X' x → X x) : Wg w0 X' lv nb B2 N M k W v ds :=
  ⟨h.var, h.cnt, h.own, h.is, fun d hd => (h.rv d hd).wide fun x hx hh => ⟨hh.1, hh.2.1, hh.2.2.1, fun e => hh.2.2.2 (hX x hx e)⟩, h.bel, h.base⟩
/-- It stands while a block of X is written. -/
theorem Wg.by {w0 W W' : World} {X : Nat → Prop} {lv nb B2 k g : Nat} {N : Int} {M : Tab} {v : Value} {ds : List RD} (h : Wg w0 X lv nb B2 N M k W v ds) (hg : W.grownBy W' (some g)) (h1 : lv ≠ g) (h2 : nb ≠ g) (h3 : v.ownBlock ≠ some g) (h4 : w0.heap.size ≤ g) (hX : X g) : Wg w0 X lv nb B2 N M k W' v ds :=
  ⟨(hg.block _ (Array.getElem?_eq_some_iff.1 h.var).1 (fun e => h1 (Option.some.inj e))).trans h.var, (hg.block _ (Array.getElem?_eq_some_iff.1 h.cnt).1 (fun e => h2 (Option.some.inj e))).trans h.cnt, h.own.kept hg (.inr h3), h.is, fun d hd => (h.rv d hd).step fun x hx hh _ => hg.block x hx (fun e => hh.2.2.2 (by rw [Option.some.inj e]; exact hX)), bel_by h.bel hg h4, Nat.le_trans h.base hg.size⟩
theorem Wg.app {w0 W W3 w5 : World} {X : Nat → Prop} {lv nb B2 k : Nat} {N : Int} {M : Tab} {v v5 : Value} {ds : List RD} {d : RD} (h : Wg w0 X lv nb B2 N M k W v ds) (hk : k < M.length) (hd : d.s = M.getD k ([], [])) (hlv : lv < B2) (hnb : nb < B2) (hne : lv ≠ nb) (h0 : w0.heap.size ≤ lv) (hB : Below W.heap.size W W3) (hs : W.heap.size < W3.heap.size) (hdv : RV2 W3 (fun x => W.heap.size ≤ x) d) (hX : ∀ x, X x → x < W.heap.size)
    (ho : w5.ownsRow B2 78 2 v5 (ds ++ [d]).length (rds (ds ++ [d]))) (hg : W3.grownBy w5 v.ownBlock) (hl : v5.ownBlock = v.ownBlock ∨ v5.ownBlock = some W3.heap.size) :
    Wg w0 X lv nb B2 N M (k + 1) (w5.setCell ⟨lv, 0, none⟩ v5) v5 (ds ++ [d]) ∧ ∀ x, x < W.heap.size → x ≠ lv → v.ownBlock ≠ some x → (w5.setCell ⟨lv, 0, none⟩ v5).heap[x]? = W.heap[x]? := by
  have hown : ∀ q, v.ownBlock = some q → B2 ≤ q := fun q e => (h.own.lt q e).1
  have hown5 : ∀ q, v5.ownBlock = some q → B2 ≤ q := fun q e => (ho.lt q e).1
  have hset : ∀ x, x ≠ lv → (w5.setCell ⟨lv, 0, none⟩ v5).heap[x]? = w5.heap[x]? := fun x hx => by simp [World.setCell, Array.getElem?_modify, Ne.symm hx]
  have hsame3 : ∀ x, x < W3.heap.size → x ≠ lv → v.ownBlock ≠ some x → (w5.setCell ⟨lv, 0, none⟩ v5).heap[x]? = W3.heap[x]? := fun x hx h1 h2 => (hset x h1).trans (hg.block x hx (fun e => h2 e.symm))
  have hsame : ∀ x, x < W.heap.size → x ≠ lv → v.ownBlock ≠ some x → (w5.setCell ⟨lv, 0, none⟩ v5).heap[x]? = W.heap[x]? := fun x hx h1 h2 => (hsame3 x (by omega) h1 h2).trans (hB.block x hx)
  have hv3 : W3.heap[lv]? = some (.cells #[v] 51 (0, 0)) := (hB.block _ (Array.getElem?_eq_some_iff.1 h.var).1).trans h.var
  have hv5 : w5.heap[lv]? = some (.cells #[v] 51 (0, 0)) := (hg.block lv (Array.getElem?_eq_some_iff.1 hv3).1 (fun e => by have := hown lv e.symm; omega)).trans hv3
  have hsz : (w5.setCell ⟨lv, 0, none⟩ v5).heap.size = w5.heap.size := by simp [World.setCell]
  have hbase := h.base
  refine ⟨⟨?_, ?_, ?_, ?_, ?_, ?_, ?_⟩, hsame⟩
  · simp [World.setCell, Array.getElem?_modify, hv5]
  · exact (hsame nb (Array.getElem?_eq_some_iff.1 h.cnt).1 (Ne.symm hne) (fun e => by have := hown nb e; omega)).trans h.cnt
  · refine ho.kept (row := some lv) ⟨rfl, rfl, rfl, by rw [hsz]; exact Nat.le_refl _, fun x _ hx => hset x (fun e => hx (by rw [e]))⟩ (.inr fun e => ?_)
    have := hown5 _ e
    omega
  · rw [List.map_append, h.is, List.take_succ_eq_append_getElem hk]
    simp [hd, List.getD, hk]
  · have hw : ∀ x, x < W3.heap.size → v.ownBlock ≠ some x → v5.ownBlock ≠ some x := fun x hx hn e => by
      rcases hl with h | h
      · exact hn (by rw [← h]; exact e)
      · rw [h] at e
        have := Option.some.inj e
        omega
    have hvs : ∀ {a : Option Addr} {n c : Nat} {z : List Int}, Vs W3 (fun x => w0.heap.size ≤ x ∧ x ≠ lv ∧ v.ownBlock ≠ some x ∧ ¬ X x) a n c z → Vs (w5.setCell ⟨lv, 0, none⟩ v5) (fun x => w0.heap.size ≤ x ∧ x ≠ lv ∧ v5.ownBlock ≠ some x ∧ ¬ X x) a n c z := fun {a n c z} h => by
      have h2 := h.wide (V' := fun x => x < W3.heap.size ∧ w0.heap.size ≤ x ∧ x ≠ lv ∧ v.ownBlock ≠ some x ∧ ¬ X x) fun x hx hh => ⟨hx, hh⟩
      have h3 := h2.step (w' := w5.setCell ⟨lv, 0, none⟩ v5) fun x hx hh _ => hsame3 x hx hh.2.2.1 hh.2.2.2.1
      exact h3.wide fun x _ hh => ⟨hh.2.1, hh.2.2.1, hw x hh.1 hh.2.2.2.1, hh.2.2.2.2⟩
    intro d' hd'
    rcases List.mem_append.1 hd' with hd' | hd'
    · have := (h.rv d' hd').below hB
      exact ⟨hvs this.1, hvs this.2⟩
    · rw [List.mem_singleton] at hd'
      subst hd'
      have hnew : ∀ x, W.heap.size ≤ x → w0.heap.size ≤ x ∧ x ≠ lv ∧ v.ownBlock ≠ some x ∧ ¬ X x := fun x hx => ⟨by have := h.bel.size; omega, by omega, fun e => by have := (h.own.lt x e).2; omega, fun e => by have := hX x e; omega⟩
      exact ⟨hvs (hdv.1.wide fun x _ hx => hnew x hx), hvs (hdv.2.wide fun x _ hx => hnew x hx)⟩
  · have hsz5 := hg.size
    exact h.bel.trans ⟨hg.os.trans hB.os, hg.tape.trans hB.tape, hg.output.trans hB.output, by rw [hsz]; omega, fun x hx => hsame x (by have := h.bel.size; omega) (by omega) (fun e => by have := hown x e; have := h.bel.size; have : lv < W.heap.size := (Array.getElem?_eq_some_iff.1 h.var).1; omega)⟩
  · have := hg.size
    rw [hsz]
    omega
set_option maxHeartbeats 2000000 in
theorem walked1_ (w0 : World) (lv nb B2 k gk gv : Nat) (N : Int) (M : Tab) (W : World) (v : Value) (ds : List RD) (K U : List Int) (va : Option Addr) (kc vc : Nat) (h : Wg w0 (fun x => x = gk ∨ x = gv) lv nb B2 N M k W v ds) (hk : k < M.length) (hMB : M.length ≤ 1000000000) (hKU : M.getD k ([], []) = (K, U)) (hlv : w0.heap.size ≤ lv) (hlvB : lv < B2) (hnbB : nb < B2) (hne : lv ≠ nb)
    (yk : Yr W gk K.length K) (b2 : Bs W va U.length U) (yv : U.length = 0 ∨ (va = some ⟨gv, 0, none⟩ ∧ Yr W gv U.length U)) (n1 : K.length ≤ 1000000) (n2 : U.length ≤ 1000000) (hgk : B2 ≤ gk) (hgv : B2 ≤ gv) (hgv2 : gv < W.heap.size) (hkv : U.length = 0 ∨ gk ≠ gv) (o1 : v.ownBlock ≠ some gk) (o2 : v.ownBlock ≠ some gv) :
    Calls Try.prog 56 #[.slice (some ⟨gk, 0, none⟩) K.length kc, .slice va U.length vc, .pointer (some ⟨lv, 0, none⟩), .pointer (some ⟨nb, 0, none⟩)] W fun e W' => e = .returned (.bool (decide (((k + 1 : Nat) : Int) < N))) ∧ ∃ v' ds', Wg w0 (fun x => x = gk ∨ x = gv) lv nb B2 N M (k + 1) W' v' ds' ∧ (∀ x, x < W.heap.size → x ≠ lv → v.ownBlock ≠ some x → x ≠ gk → x ≠ gv → W'.heap[x]? = W.heap[x]?) := by
  have cv : W.cell? ⟨lv, 0, none⟩ = some v := by rw [cell_of_row W lv 0 _ 51 (0, 0) h.var]; rfl
  have HH := hid h
  have b1 := yk.bs
  have k1 := fun wx (a : Bs wx (some ⟨gk, 0, none⟩) K.length K) => refBytes (some ⟨gk, 0, none⟩) K.length kc K wx a (by omega)
  have k2 := fun wx (a : Bs wx va U.length U) => refBytes va U.length vc U wx a (by omega)
  have H1 := hid b1
  have H2 := hid b2
  have HYK := hid yk
  have HYV := hid yv
  have HGK := hid yk.lt
  obtain ⟨kn, HKN⟩ : ∃ x, Hid (K.length = x) := ⟨_, rfl⟩
  obtain ⟨un, HUN⟩ : ∃ x, Hid (U.length = x) := ⟨_, rfl⟩
  rw [HKN.out] at k1 H1 HYK ⊢
  rw [HUN.out] at k2 H2 HYV hkv ⊢
  have n1' : kn ≤ 1000000 := by rw [← HKN.out]; exact n1
  have n2' : un ≤ 1000000 := by rw [← HUN.out]; exact n2
  clear h b1 b2 yk yv
  go_enter Try.func56, Try.ntmps56
  have HDE : Hid (ds.length = k) := by
    have h1 := congrArg List.length HH.out.is
    rw [List.length_map, List.length_take] at h1
    show _ = _
    omega
  have HDL : Hid (ds.length ≤ 1000000000) := by have := HDE.out; show _ ≤ _; omega
  obtain ⟨n', HN'⟩ : ∃ n', Hid (ds.length + 1 = n') := ⟨_, rfl⟩
  have HOK1 := hid H1.out.2.1
  have HOK2 := hid H2.out.2.1
  go_wp2_with fail
  go_region_law (first
    | (go_simp; go_at_call 16; have HQ := G1; refine (k2 _ (by exact H2.out.below HQ.out)).mono ?_; rintro e w3 ⟨v3, rfl, o3, g3⟩; obtain ⟨a3, c3, hv3, vs3⟩ := Vs.ofOwn o3 HOK2.out; subst hv3; have HB3 : Hid (Below W.heap.size W w3) := (bel_bel HQ.out HQ.out.size g3); have y3 := (HB3.out.cell (p := ⟨lv, 0, none⟩) (Array.getElem?_eq_some_iff.1 HH.out.var).1).trans cv; have HVK3 := hid (HVK.out.step fun x hx _ _ => g3.block x hx); have HVU3 := hid (vs3.wide (V' := fun x => W.heap.size ≤ x) fun x _ h => Nat.le_trans HQ.out.size h); have y4 := (((Below.refl w3.heap.size w3).alloc (Nat.le_refl _) (.cells #[.slice a2 kn c2, .slice a3 un c3] 78)).cell (p := ⟨lv, 0, none⟩) (World.block_lt_of_cell? w3 _ y3)).trans y3; clear o3 g3 vs3 G1 HVK y2)
    | (go_simp; go_at_call 16; refine (k1 _ (by exact H1.out)).mono ?_; rintro e w2 ⟨v2, rfl, o2, g2⟩; obtain ⟨a2, c2, hv2, vs2⟩ := Vs.ofOwn o2 HOK1.out; subst hv2; have G1 : Hid (Below W.heap.size W w2) := (⟨g2.os, g2.tape, g2.output, g2.size, g2.block⟩ : Below W.heap.size W w2); have y2 := (G1.out.cell (p := ⟨lv, 0, none⟩) (Array.getElem?_eq_some_iff.1 HH.out.var).1).trans cv; have HVK : Hid (Vs w2 (fun x => W.heap.size ≤ x) a2 kn c2 K) := vs2; clear o2 g2 vs2)
    | (refine step_appRow rfl (.tmp 9) (.tmp 15) rfl B2 v ds rfl (by exact (own_bel HH.out.own HB3.out).alloc _) w3.heap.size ⟨a2, c2, a3, c3, (K, U)⟩ rfl (by exact fun j u hj => by simp only [rdc, HKN.out, HUN.out] at hj; rw [cell_of_row _ w3.heap.size j _ 78 (0, 0) (heap_alloc_new w3 _)]; simpa using hj) HDL.out (by have := HH.out.base; have := HB3.out.size; simp; omega) n' HN' ?_; intro g5 cap5 w5 HO5 HG5 HL5; have hv5 : w5.heap[lv]? = some (.cells #[v] 51 (0, 0)) := ((HG5.out.block lv (by have := (Array.getElem?_eq_some_iff.1 HH.out.var).1; have := HB3.out.size; simp; omega) (fun e => by have := (HH.out.own.lt lv e.symm).1; omega)).trans ((Below.heap_alloc w3 _ lv (by have := (Array.getElem?_eq_some_iff.1 HH.out.var).1; have := HB3.out.size; omega)).trans ((HB3.out.block lv (Array.getElem?_eq_some_iff.1 HH.out.var).1).trans HH.out.var))); have x5 : w5.cell? ⟨lv, 0, none⟩ = some v := (by rw [cell_of_row w5 lv 0 _ 51 (0, 0) hv5]; rfl); have f5 : w5.frozen? ⟨lv, 0, none⟩ = false := (by simp [World.frozen?, hv5]); clear hv5))
  all_goals
    have HRG := hid (HH.out.app (w5 := w5) (W3 := w3.alloc (.cells #[.slice a2 kn c2, .slice a3 un c3] 78)) (v5 := .slice (some ⟨g5, 0, none⟩) n' cap5) (d := ⟨a2, c2, a3, c3, (K, U)⟩) hk hKU.symm hlvB hnbB hne hlv (bel_bel HB3.out HB3.out.size ((Below.refl w3.heap.size w3).alloc (Nat.le_refl _) _)) (by have := HB3.out.size; simp; omega) ((show RV2 w3 (fun x => W.heap.size ≤ x) ⟨a2, c2, a3, c3, (K, U)⟩ from ⟨by show Vs _ _ _ K.length _ _; rw [HKN.out]; exact HVK3.out, by show Vs _ _ _ U.length _ _; rw [HUN.out]; exact HVU3.out⟩).below ((Below.refl w3.heap.size w3).alloc (Nat.le_refl _) _)) (fun x hx => by rcases hx with e | e <;> subst e; exact HGK.out; exact hgv2) HO5.out HG5.out (HL5.out.elim (fun e => .inl e.symm) (fun e => .inr (by rw [e]; rfl))))
    have HQ5 : Hid ((Value.slice (some ⟨g5, 0, none⟩) n' cap5).ownBlock ≠ some gk ∧ (Value.slice (some ⟨g5, 0, none⟩) n' cap5).ownBlock ≠ some gv) := by
      have hbig : W.heap.size ≤ (w3.alloc (.cells #[.slice a2 kn c2, .slice a3 un c3] 78)).heap.size := by have := HB3.out.size; simp; omega
      rcases HL5.out with e | e
      · exact ⟨fun h => o1 (e.trans h), fun h => o2 (e.trans h)⟩
      · have hg : (Value.slice (some ⟨g5, 0, none⟩) n' cap5).ownBlock = some g5 := rfl
        rw [hg]
        exact ⟨fun h => by have := Option.some.inj h; have := HGK.out; omega, fun h => by have := Option.some.inj h; omega⟩
    clear x5 f5 y3 y4 k1 k2 cv HVK3 HVU3 HO5 HG5 HL5 HB3
    generalize w5.setCell ⟨lv, 0, none⟩ (.slice (some ⟨g5, 0, none⟩) n' cap5) = w6 at *
    have HYK6 := hid (HYK.out.same (HRG.out.2 gk HGK.out (by omega) o1))
    have HYV6 : Hid (un = 0 ∨ (va = some ⟨gv, 0, none⟩ ∧ Yr w6 gv un U)) := HYV.out.elim .inl fun h => .inr ⟨h.1, h.2.same (HRG.out.2 gv hgv2 (by omega) o2)⟩
    go_wp2_with fail
    go_loopw [7] (fun i wr => ∃ (j : Nat) (us : List Int), j ≤ kn ∧ i = .int .i64 j ∧ Hid (Yr wr gk kn us) ∧ Hid (w6.grownBy wr (some gk))) (fun i _ => kn - (intOf i).toNat)
    case atStart => exact ⟨0, _, by omega, rfl, HYK6, ⟨rfl, rfl, rfl, Nat.le_refl _, fun _ _ _ => rfl⟩⟩
    case round =>
      obtain ⟨j, us, hj, rfl, HU, HGR⟩ := hrel
      by_cases hlt : j < kn
      · have hjI : (j : Int) < kn := by omega
        have cj := HU.out.cell (i := j) (by omega)
        have fj := HU.out.fz j
        have HU2 := hid (HU.out.set (i := j) (z := 35) (by omega) (by omega))
        have HG2 := hid (by_trans HGR.out (set_by wr gk j (.int .u8 35)))
        go_wp2_with fail
        go_roundw
        case rel => exact ⟨j + 1, _, by omega, by go_num, HU2, HG2⟩
        case measure => simp [intOf]; omega
      · have hjI : ¬ (j : Int) < kn := by omega
        have HGV7 : Hid (un = 0 ∨ (va = some ⟨gv, 0, none⟩ ∧ Yr wr gv un U)) := HYV6.out.elim .inl fun h => hkv.elim .inl fun hn => .inr ⟨h.1, h.2.same (HGR.out.block gv h.2.lt (fun e => hn (Option.some.inj e).symm))⟩
        have HW7 := hid (HRG.out.1.by HGR.out (by omega) (by omega) HQ5.out.1 (by omega) (.inl rfl))
        have HSM : Hid (∀ x, x < W.heap.size → x ≠ lv → v.ownBlock ≠ some x → x ≠ gk → wr.heap[x]? = W.heap[x]?) := fun x hx h1 h2 h3 => (HGR.out.block x (by have := HRG.out.1.base; by_cases hx6 : x < w6.heap.size; exact hx6; exfalso; have hb := HRG.out.2 x hx h1 h2; rw [Array.getElem?_eq_none (by omega)] at hb; have := Array.getElem?_eq_some_iff.2 ⟨hx, rfl⟩; rw [← hb] at this; cases this) (fun e => h3 (Option.some.inj e))).trans (HRG.out.2 x hx h1 h2)
        clear hlt hj HU
        obtain ⟨w7, HWE⟩ : ∃ w7, w7 = wr := ⟨_, rfl⟩
        rw [← HWE] at HGV7 HW7 HSM ⊢
        clear HGR HWE
        go_wp2_with fail
        go_loopw [8] (fun i wr => ∃ (j : Nat) (us : List Int), j ≤ un ∧ i = .int .i64 j ∧ Hid (un = 0 ∨ (va = some ⟨gv, 0, none⟩ ∧ Yr wr gv un us)) ∧ Hid (w7.grownBy wr (some gv))) (fun i _ => un - (intOf i).toNat)
        case atStart => exact ⟨0, _, by omega, rfl, HGV7, ⟨rfl, rfl, rfl, Nat.le_refl _, fun _ _ _ => rfl⟩⟩
        case round =>
          obtain ⟨j, us, hj, rfl, HU, HGR⟩ := hrel
          by_cases hlt : j < un
          · have hjI : (j : Int) < un := by omega
            obtain ⟨rfl, hyr⟩ := HU.out.resolve_left (by omega)
            have cj := hyr.cell (i := j) (by omega)
            have fj := hyr.fz j
            have HU2 : Hid (un = 0 ∨ ((some ⟨gv, 0, none⟩ : Option Addr) = some ⟨gv, 0, none⟩ ∧ Yr (wr.setCell ⟨gv, j, none⟩ (.int .u8 35)) gv un (us.set j 35))) := .inr ⟨rfl, hyr.set (i := j) (z := 35) (by omega) (by omega)⟩
            have HG2 := hid (by_trans HGR.out (set_by wr gv j (.int .u8 35)))
            clear hyr
            go_wp2_with fail
            go_roundw
            case rel => exact ⟨j + 1, us.set j 35, by omega, by go_num, (by first | exact HU2 | exact (HU2.out.imp_right fun h => ⟨trivial, h.2⟩)), HG2⟩
            case measure => simp [intOf]; omega
          · have hjI : ¬ (j : Int) < un := by omega
            have HW8 := hid (HW7.out.by HGR.out (by omega) (by omega) HQ5.out.2 (by omega) (.inr rfl))
            have HSM8 : Hid (∀ x, x < W.heap.size → x ≠ lv → v.ownBlock ≠ some x → x ≠ gk → x ≠ gv → wr.heap[x]? = W.heap[x]?) := fun x hx h1 h2 h3 h4 => (HGR.out.block x (by by_cases hx6 : x < w7.heap.size; exact hx6; exfalso; have hb := HSM.out x hx h1 h2 h3; rw [Array.getElem?_eq_none (by omega)] at hb; have := Array.getElem?_eq_some_iff.2 ⟨hx, rfl⟩; rw [← hb] at this; cases this) (fun e => h4 (Option.some.inj e))).trans (HSM.out x hx h1 h2 h3)
            have z0 : wr.cell? ⟨lv, 0, none⟩ = some (.slice (some ⟨g5, 0, none⟩) n' cap5) := by rw [cell_of_row wr lv 0 _ 51 (0, 0) HW8.out.var]; rfl
            have z1 : wr.cell? ⟨nb, 0, none⟩ = some (.int .i64 N) := by rw [cell_of_row wr nb 0 _ 3 (0, 0) HW8.out.cnt]; rfl
            have HNK : Hid (n' = k + 1) := by have := HN'.out; have := HDE.out; show _ = _; omega
            clear hlt hj HU HGR
            go_wp2_with fail
            go_ret
            refine ⟨?_, ⟨_, _, HW8.out⟩, HSM8.out⟩
            have e := HNK.out
            rw [e]
            first | rfl | simp
end Go.Proofs.Ytnmklleoilicdaa
