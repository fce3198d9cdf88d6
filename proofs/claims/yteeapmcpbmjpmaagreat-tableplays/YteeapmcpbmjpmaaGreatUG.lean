import Derived.Test.YteeapmcpbmjpmaaGreatUD
namespace Go.Proofs.YteeapmcpbmjpmaaGreat
set_option maxRecDepth 100000
open Go.RowKit Go.Shelf Go.Maps
set_option linter.unusedVariables false

/-- The rows that a walk has gathered. -/
structure Rg (w0 : World) (lv nb B2 : Nat) (N : Int) (M : Tab) (k : Nat) (W : World) (v : Value) (ds : List RD) : Prop where
  var : W.heap[lv]? = some (.cells #[v] 28 (0, 0))
  cnt : W.heap[nb]? = some (.cells #[.int .i64 N] 3 (0, 0))
  own : W.ownsRow B2 55 2 v ds.length (rds ds)
  is : ds.map (·.s) = M.take k
  rv : ∀ d ∈ ds, RV2 W (fun x => w0.heap.size ≤ x ∧ x ≠ lv ∧ v.ownBlock ≠ some x) d
  bel : Below w0.heap.size w0 W
  base : B2 ≤ W.heap.size
theorem Rg.below {w0 W W' : World} {lv nb B2 k : Nat} {N : Int} {M : Tab} {v : Value} {ds : List RD} (h : Rg w0 lv nb B2 N M k W v ds) (hb : Below W.heap.size W W') : Rg w0 lv nb B2 N M k W' v ds :=
  ⟨(hb.block _ (Array.getElem?_eq_some_iff.1 h.var).1).trans h.var, (hb.block _ (Array.getElem?_eq_some_iff.1 h.cnt).1).trans h.cnt, own_bel h.own hb, h.is, fun d hd => (h.rv d hd).below hb, bel_bel h.bel h.bel.size hb, Nat.le_trans h.base hb.size⟩
theorem step_appRow {w : World} {ops : Array Oper} {o : Oper} {act : Act} {K : Act → World → Prop} {Q : Exit → Act → World → Prop} {E : Prop} (hgd : o.guard = none) (s x : Operand)
    (ho : o.op = .call { callee := .builtin .append, args := #[s, x], argTypes := #[28, 28] })
    (base : Nat) (v : Value) (ds : List RD) (hs : act.eval s = v) (hown : w.ownsRow base 55 2 v ds.length (rds ds)) (g : Nat) (d : RD) (hx : act.eval x = .slice (some ⟨g, 0, none⟩) 1 1)
    (hg : ∀ j u, (rdc d)[j]? = some u → w.cell? ⟨g, j, none⟩ = some u) (hlen : ds.length ≤ 1000000000) (hbase : base ≤ w.heap.size) (n' : Nat) (hn' : Hid (ds.length + 1 = n'))
    (h : ∀ g' cap w', Hid (w'.ownsRow base 55 2 (.slice (some ⟨g', 0, none⟩) n' cap) (ds ++ [d]).length (rds (ds ++ [d]))) → Hid (w.grownBy w' v.ownBlock) → Hid (v.ownBlock = some g' ∨ g' = w.heap.size) → K (act.put o.dst (.slice (some ⟨g', 0, none⟩) n' cap)) w') : if Region.wanted o (yielded ops act.tmps) = true then Oper.wp Tryz.prog o act w K Q else E := by
  obtain ⟨i, hi, hz0, hz1, hz2⟩ := info_parts infoR
  refine step_append_lies _ hgd s x 28 ho base 55 i _ 2 48 Tryz.underlying28 hi hz0 hz1 hz2 rfl (by decide) v ds.length (rds ds) hs hown ⟨g, 0, none⟩ 1 1 (rdc d) hx rfl ?c1 ?c2 (by decide) (by unfold maxLen; omega) (by omega) hbase _ rfl ?_
  case c1 =>
    intro j u hj
    rw [Addr.add_lit, Nat.zero_add]
    exact hg j u hj
  case c2 =>
    intro u hu
    exact rds_one [d] u (by simpa [rds] using hu)
  intro g' cap w' h1 h2 h3 _
  rw [hn'.out] at h1 ⊢
  refine h g' cap w' ?_ h2 h3
  show w'.ownsRow _ _ _ _ _ _
  rw [List.length_append, List.length_singleton, rds_app, hn'.out]
  simpa [rds] using h1
theorem Rg.app {w0 W W3 w5 : World} {lv nb B2 k : Nat} {N : Int} {M : Tab} {v v5 : Value} {ds : List RD} {d : RD} (h : Rg w0 lv nb B2 N M k W v ds) (hk : k < M.length) (hd : d.s = M.getD k ([], [])) (hlv : lv < B2) (hnb : nb < B2) (hne : lv ≠ nb) (h0 : w0.heap.size ≤ lv) (hB : Below W.heap.size W W3) (hs : W.heap.size < W3.heap.size) (hdv : RV2 W3 (fun x => W.heap.size ≤ x) d)
    (ho : w5.ownsRow B2 55 2 v5 (ds ++ [d]).length (rds (ds ++ [d]))) (hg : W3.grownBy w5 v.ownBlock) (hl : v5.ownBlock = v.ownBlock ∨ v5.ownBlock = some W3.heap.size) :
    Rg w0 lv nb B2 N M (k + 1) (w5.setCell ⟨lv, 0, none⟩ v5) v5 (ds ++ [d]) ∧ ∀ x, x < W.heap.size → x ≠ lv → v.ownBlock ≠ some x → (w5.setCell ⟨lv, 0, none⟩ v5).heap[x]? = W.heap[x]? := by
  have hown : ∀ q, v.ownBlock = some q → B2 ≤ q := fun q e => (h.own.lt q e).1
  have hown5 : ∀ q, v5.ownBlock = some q → B2 ≤ q := fun q e => (ho.lt q e).1
  have hset : ∀ x, x ≠ lv → (w5.setCell ⟨lv, 0, none⟩ v5).heap[x]? = w5.heap[x]? := fun x hx => by simp [World.setCell, Array.getElem?_modify, Ne.symm hx]
  have hsame3 : ∀ x, x < W3.heap.size → x ≠ lv → v.ownBlock ≠ some x → (w5.setCell ⟨lv, 0, none⟩ v5).heap[x]? = W3.heap[x]? := fun x hx h1 h2 => (hset x h1).trans (hg.block x hx (fun e => h2 e.symm))
  have hsame : ∀ x, x < W.heap.size → x ≠ lv → v.ownBlock ≠ some x → (w5.setCell ⟨lv, 0, none⟩ v5).heap[x]? = W.heap[x]? := fun x hx h1 h2 => (hsame3 x (by omega) h1 h2).trans (hB.block x hx)
  have hv3 : W3.heap[lv]? = some (.cells #[v] 28 (0, 0)) := (hB.block _ (Array.getElem?_eq_some_iff.1 h.var).1).trans h.var
  have hv5 : w5.heap[lv]? = some (.cells #[v] 28 (0, 0)) := (hg.block lv (Array.getElem?_eq_some_iff.1 hv3).1 (fun e => by have := hown lv e.symm; omega)).trans hv3
  have hsz : (w5.setCell ⟨lv, 0, none⟩ v5).heap.size = w5.heap.size := by simp [World.setCell]
  have hbase := h.base
  refine ⟨⟨?_, ?_, ?_, ?_, ?_, ?_, ?_⟩, hsame⟩
  · simp [World.setCell, Array.getElem?_modify, hv5]
  · exact (hsame nb (Array.getElem?_eq_some_iff.1 h.cnt).1 (Ne.symm hne) (fun e => by have := hown nb e; omega)).trans h.cnt
  · refine ho.kept (row := some lv) ⟨rfl, rfl, rfl, by rw [hsz]; exact Nat.le_refl _, fun x _ hx => hset x (fun e => hx (by rw [e]))⟩ (.inr fun e => ?_)
    have := hown5 _ e
    omega
  · rw [List.map_append, h.is, List.take_succ_eq_append_getElem hk]
    simp [hd, List.getD, hk]
  · have hw : ∀ x, x < W3.heap.size → v.ownBlock ≠ some x → v5.ownBlock ≠ some x := fun x hx hn e => by
      rcases hl with h | h
      · exact hn (by rw [← h]; exact e)
      · rw [h] at e
        have := Option.some.inj e
        omega
    have hvs : ∀ {a : Option Addr} {n c : Nat} {z : List Int}, Vs W3 (fun x => w0.heap.size ≤ x ∧ x ≠ lv ∧ v.ownBlock ≠ some x) a n c z → Vs (w5.setCell ⟨lv, 0, none⟩ v5) (fun x => w0.heap.size ≤ x ∧ x ≠ lv ∧ v5.ownBlock ≠ some x) a n c z := fun {a n c z} h => by
      have h2 := h.wide (V' := fun x => x < W3.heap.size ∧ w0.heap.size ≤ x ∧ x ≠ lv ∧ v.ownBlock ≠ some x) fun x hx hh => ⟨hx, hh⟩
      have h3 := h2.step (w' := w5.setCell ⟨lv, 0, none⟩ v5) fun x hx hh _ => hsame3 x hx hh.2.2.1 hh.2.2.2
      exact h3.wide fun x _ hh => ⟨hh.2.1, hh.2.2.1, hw x hh.1 hh.2.2.2⟩
    intro d' hd'
    rcases List.mem_append.1 hd' with hd' | hd'
    · have := (h.rv d' hd').below hB
      exact ⟨hvs this.1, hvs this.2⟩
    · rw [List.mem_singleton] at hd'
      subst hd'
      have hnew : ∀ x, W.heap.size ≤ x → w0.heap.size ≤ x ∧ x ≠ lv ∧ v.ownBlock ≠ some x := fun x hx => ⟨by have := h.bel.size; omega, by omega, fun e => by have := (h.own.lt x e).2; omega⟩
      exact ⟨hvs (hdv.1.wide fun x _ hx => hnew x hx), hvs (hdv.2.wide fun x _ hx => hnew x hx)⟩
  · have hsz5 := hg.size
    exact h.bel.trans ⟨hg.os.trans hB.os, hg.tape.trans hB.tape, hg.output.trans hB.output, by rw [hsz]; omega, fun x hx => hsame x (by have := h.bel.size; omega) (by omega) (fun e => by have := hown x e; have := h.bel.size; have : lv < W.heap.size := (Array.getElem?_eq_some_iff.1 h.var).1; omega)⟩
  · have := hg.size
    rw [hsz]
    omega
set_option maxHeartbeats 2000000 in
theorem rows1_ (w0 : World) (lv nb B2 k : Nat) (N : Int) (M : Tab) (W : World) (v : Value) (ds : List RD) (K U : List Int) (ka va : Option Addr) (kc vc : Nat) (h : Rg w0 lv nb B2 N M k W v ds) (hk : k < M.length) (hMN : (M.length : Int) ≤ N) (hMB : M.length ≤ 1000000000) (hKU : M.getD k ([], []) = (K, U)) (hlv : w0.heap.size ≤ lv) (hlvB : lv < B2) (hnbB : nb < B2) (hne : lv ≠ nb)
    (b1 : Bs W ka K.length K) (b2 : Bs W va U.length U) (n1 : K.length ≤ 100000000) (n2 : U.length ≤ 100000000) :
    Calls Tryz.prog 43 #[.slice ka K.length kc, .slice va U.length vc, .pointer (some ⟨lv, 0, none⟩), .pointer (some ⟨nb, 0, none⟩)] W fun e W' => e = .returned (.bool true) ∧ ∃ v' ds', Rg w0 lv nb B2 N M (k + 1) W' v' ds' ∧ (∀ x, x < W.heap.size → x ≠ lv → v.ownBlock ≠ some x → W'.heap[x]? = W.heap[x]?) := by
  have cv : W.cell? ⟨lv, 0, none⟩ = some v := by rw [cell_of_row W lv 0 _ 28 (0, 0) h.var]; rfl
  have HH := hid h
  have k1 := fun wx (a : Bs wx ka K.length K) => refBytes ka K.length kc K wx a (by omega)
  have k2 := fun wx (a : Bs wx va U.length U) => refBytes va U.length vc U wx a (by omega)
  have H1 := hid b1
  have H2 := hid b2
  obtain ⟨kn, HKN⟩ : ∃ x, Hid (K.length = x) := ⟨_, rfl⟩
  obtain ⟨un, HUN⟩ : ∃ x, Hid (U.length = x) := ⟨_, rfl⟩
  rw [HKN.out] at k1 H1 ⊢
  rw [HUN.out] at k2 H2 ⊢
  clear h b1 b2
  go_enter Tryz.func43, Tryz.ntmps43
  have HDL : Hid (ds.length ≤ 1000000000) := by
    have h1 := congrArg List.length HH.out.is
    rw [List.length_map, List.length_take] at h1
    show _ ≤ _
    omega
  have HDN : Hid ((ds.length : Int) + 1 ≤ N) := by
    have h1 := congrArg List.length HH.out.is
    rw [List.length_map, List.length_take] at h1
    show _ ≤ _
    omega
  obtain ⟨n', HN'⟩ : ∃ n', Hid (ds.length + 1 = n') := ⟨_, rfl⟩
  have HOK1 := hid H1.out.2.1
  have HOK2 := hid H2.out.2.1
  go_wp2_with fail
  go_region_law (first
    | (go_simp; go_at_call 44; have HQ := G1; refine (k2 _ (by exact H2.out.below HQ.out)).mono ?_; rintro e w3 ⟨v3, rfl, o3, g3⟩; obtain ⟨a3, c3, hv3, vs3⟩ := Vs.ofOwn o3 HOK2.out; subst hv3; have HB3 : Hid (Below W.heap.size W w3) := (bel_bel HQ.out HQ.out.size g3); have y3 := (HB3.out.cell (p := ⟨lv, 0, none⟩) (Array.getElem?_eq_some_iff.1 HH.out.var).1).trans cv; have HVK3 := hid (HVK.out.step fun x hx _ _ => g3.block x hx); have HVU3 := hid (vs3.wide (V' := fun x => W.heap.size ≤ x) fun x _ h => Nat.le_trans HQ.out.size h); have y4 := (((Below.refl w3.heap.size w3).alloc (Nat.le_refl _) (.cells #[.slice a2 kn c2, .slice a3 un c3] 55)).cell (p := ⟨lv, 0, none⟩) (World.block_lt_of_cell? w3 _ y3)).trans y3; clear o3 g3 vs3 G1 HVK y2)
    | (go_simp; go_at_call 44; refine (k1 _ (by exact H1.out)).mono ?_; rintro e w2 ⟨v2, rfl, o2, g2⟩; obtain ⟨a2, c2, hv2, vs2⟩ := Vs.ofOwn o2 HOK1.out; subst hv2; have G1 : Hid (Below W.heap.size W w2) := (⟨g2.os, g2.tape, g2.output, g2.size, g2.block⟩ : Below W.heap.size W w2); have y2 := (G1.out.cell (p := ⟨lv, 0, none⟩) (Array.getElem?_eq_some_iff.1 HH.out.var).1).trans cv; have HVK : Hid (Vs w2 (fun x => W.heap.size ≤ x) a2 kn c2 K) := vs2; clear o2 g2 vs2)
    | (refine step_appRow rfl (.tmp 7) (.tmp 13) rfl B2 v ds rfl (by exact (own_bel HH.out.own HB3.out).alloc _) w3.heap.size ⟨a2, c2, a3, c3, (K, U)⟩ rfl (by exact fun j u hj => by simp only [rdc, HKN.out, HUN.out] at hj; rw [cell_of_row _ w3.heap.size j _ 55 (0, 0) (heap_alloc_new w3 _)]; simpa using hj) HDL.out (by have := HH.out.base; have := HB3.out.size; simp; omega) n' HN' ?_; intro g5 cap5 w5 HO5 HG5 HL5; have hv5 : w5.heap[lv]? = some (.cells #[v] 28 (0, 0)) := ((HG5.out.block lv (by have := (Array.getElem?_eq_some_iff.1 HH.out.var).1; have := HB3.out.size; simp; omega) (fun e => by have := (HH.out.own.lt lv e.symm).1; omega)).trans ((Below.heap_alloc w3 _ lv (by have := (Array.getElem?_eq_some_iff.1 HH.out.var).1; have := HB3.out.size; omega)).trans ((HB3.out.block lv (Array.getElem?_eq_some_iff.1 HH.out.var).1).trans HH.out.var))); have x5 : w5.cell? ⟨lv, 0, none⟩ = some v := (by rw [cell_of_row w5 lv 0 _ 28 (0, 0) hv5]; rfl); have f5 : w5.frozen? ⟨lv, 0, none⟩ = false := (by simp [World.frozen?, hv5]); clear hv5))
  all_goals
    have HRG := hid (HH.out.app (w5 := w5) (W3 := w3.alloc (.cells #[.slice a2 kn c2, .slice a3 un c3] 55)) (v5 := .slice (some ⟨g5, 0, none⟩) n' cap5) (d := ⟨a2, c2, a3, c3, (K, U)⟩) hk hKU.symm hlvB hnbB hne hlv (bel_bel HB3.out HB3.out.size ((Below.refl w3.heap.size w3).alloc (Nat.le_refl _) _)) (by have := HB3.out.size; simp; omega) ((show RV2 w3 (fun x => W.heap.size ≤ x) ⟨a2, c2, a3, c3, (K, U)⟩ from ⟨by show Vs _ _ _ K.length _ _; rw [HKN.out]; exact HVK3.out, by show Vs _ _ _ U.length _ _; rw [HUN.out]; exact HVU3.out⟩).below ((Below.refl w3.heap.size w3).alloc (Nat.le_refl _) _)) HO5.out HG5.out (HL5.out.elim (fun e => .inl e.symm) (fun e => .inr (by rw [e]; rfl))))
    clear x5 f5 y3 y4 k1 k2 cv HVK3 HVU3 HO5 HG5 HL5 HB3
    generalize w5.setCell ⟨lv, 0, none⟩ (.slice (some ⟨g5, 0, none⟩) n' cap5) = w6 at *
    have z0 : w6.cell? ⟨lv, 0, none⟩ = some (.slice (some ⟨g5, 0, none⟩) n' cap5) := by rw [cell_of_row w6 lv 0 _ 28 (0, 0) HRG.out.1.var]; rfl
    have z1 : w6.cell? ⟨nb, 0, none⟩ = some (.int .i64 N) := by rw [cell_of_row w6 nb 0 _ 3 (0, 0) HRG.out.1.cnt]; rfl
    have hle : (n' : Int) ≤ N := by have := HDN.out; have := HN'.out; omega
    go_wp2_with fail
    go_ret
    exact ⟨by simp, _, _, HRG.out.1, HRG.out.2⟩
end Go.Proofs.YteeapmcpbmjpmaaGreat
namespace Go.Proofs.YteeapmcpbmjpmaaGreat
set_option maxRecDepth 100000
open Go.RowKit Go.Shelf Go.Maps
set_option linter.unusedVariables false

theorem run_equalIn_func13 (w : World) (d gl : Nat) : (Op.equalIn (d + 1) 87 (.func (.func 61) #[] #[.pointer (some ⟨gl, 0, none⟩)]) .nilFunc).run Tryz.prog w = .ok false w := by
  simp [Op.equalIn, run_underlying Tryz.underlying87]
theorem run_eql_func13 (w : World) (gl : Nat) : (binOp .eql 87 (.func (.func 61) #[] #[.pointer (some ⟨gl, 0, none⟩)]) .nilFunc).run Tryz.prog w = .ok (.bool false) w := by
  simp only [binOp]
  simp [show Op.equal 87 (.func (.func 61) #[] #[.pointer (some ⟨gl, 0, none⟩)]) .nilFunc = Op.equalIn (9999 + 1) 87 (.func (.func 61) #[] #[.pointer (some ⟨gl, 0, none⟩)]) .nilFunc from rfl, run_equalIn_func13 w 9999 gl]
set_option maxHeartbeats 2000000 in
/-- The law's rows: all that a table goes through. -/
theorem rows_ (t b : Nat) (V : Nat → Prop) (M : Tab) (N : Int) (w : World) (h : Tw w t b V M) (hML : M.length ≤ 100000000) (hN : (M.length : Int) ≤ N) :
    Calls Tryz.prog 13 #[.pointer (some ⟨t, 0, none⟩), .int .i64 N] w fun e w' => ∃ a n c, n = M.length ∧ e = .returned (.slice a n c) ∧ Rl w' (fun x => w.heap.size ≤ x) a n M ∧ n ≤ c ∧ c ≤ maxLen ∧ (a = none → c = 0) ∧ Below w.heap.size w w' := by
  have h' : Tw w t b (fun x => V x ∧ x < w.heap.size) M := h.wide fun x hx hv => ⟨hv, hx⟩
  have HT := hid h'
  have B0 : Below w.heap.size w ((w.alloc (.cells #[.int .i64 N] 3)).alloc (.cells #[.slice none 0 0] 28)) := ((Below.refl _ _).alloc (Nat.le_refl _) _).alloc (by simp) _
  have k1 := all_ t b _ M _ (h'.below B0) (by omega)
  have HB0 := hid B0
  have HV0 : Hid (((w.alloc (.cells #[.int .i64 N] 3)).alloc (.cells #[.slice none 0 0] 28)).heap[w.heap.size + 1]? = some (.cells #[.slice none 0 0] 28 (0, 0))) := by
    have := heap_alloc_new (w.alloc (.cells #[.int .i64 N] 3)) (.cells #[.slice none 0 0] 28)
    rw [World.size_alloc] at this
    exact this
  have HC0 : Hid (((w.alloc (.cells #[.int .i64 N] 3)).alloc (.cells #[.slice none 0 0] 28)).heap[w.heap.size]? = some (.cells #[.int .i64 N] 3 (0, 0))) := (Below.heap_alloc _ _ _ (by simp)).trans (heap_alloc_new w _)
  have HS0 : Hid (((w.alloc (.cells #[.int .i64 N] 3)).alloc (.cells #[.slice none 0 0] 28)).heap.size = w.heap.size + 2) := by simp [Hid]
  clear h h' B0
  go_enter Tryz.func13, Tryz.ntmps13
  go_wp2_with fail
  refine k1.mono ?_
  rintro e w2 ⟨gl, a, n, c, hn, rfl, gd2, hgl, g2⟩
  have HGD : Hid (Gd w2 (fun x => ((V x ∧ x < w.heap.size) ∨ w.heap.size + 2 ≤ x) ∧ x < w2.heap.size) gl a n c M) := by
    refine ⟨gd2.cell, gd2.rl.wide fun x hx h => ⟨by rw [HS0.out] at h; exact h, hx⟩, ⟨.inr (by rw [HS0.out] at hgl; exact hgl), gd2.lt⟩⟩
  have HB2 : Hid (Below w.heap.size w w2) := HB0.out.trans ⟨g2.os, g2.tape, g2.output, g2.size, fun x hx => g2.block x (by rw [HS0.out]; omega)⟩
  have HV2 : Hid (w2.heap[w.heap.size + 1]? = some (.cells #[.slice none 0 0] 28 (0, 0))) := (g2.block _ (by rw [HS0.out]; omega)).trans HV0.out
  have HC2 : Hid (w2.heap[w.heap.size]? = some (.cells #[.int .i64 N] 3 (0, 0))) := (g2.block _ (by rw [HS0.out]; omega)).trans HC0.out
  have hs2 : w.heap.size + 2 ≤ w2.heap.size := by have := g2.size; rw [HS0.out] at this; exact this
  have HN := hid hn
  clear gd2 g2 hgl k1 hn HV0 HB0 HC0 HS0
  obtain ⟨V2, HVV⟩ : ∃ V2 : Nat → Prop, Hid (V2 = fun x => ((V x ∧ x < w.heap.size) ∨ w.heap.size + 2 ≤ x) ∧ x < w2.heap.size) := ⟨_, rfl⟩
  rw [← HVV.out] at HGD
  have hV2 : ∀ x, V2 x → x < w2.heap.size ∧ x ≠ w.heap.size + 1 := fun x hx => by
    rw [HVV.out] at hx
    refine ⟨hx.2, ?_⟩
    rcases hx.1 with h | h <;> omega
  have HV2L := hid hV2
  clear HVV hV2
  have HY : Hid (Yld 43 #[.pointer (some ⟨w.heap.size + 1, 0, none⟩), .pointer (some ⟨w.heap.size, 0, none⟩)] M (fun j W => (∃ v ds, Rg w (w.heap.size + 1) w.heap.size w2.heap.size N M j W v ds) ∧ Gd W V2 gl a n c M) (fun _ _ => False)) := by
    rintro j w1 wy B B2 kv vv hj ⟨⟨v, ds, rg⟩, gd⟩ hb hB o1 hBB hkB o2
    have hm := tab_mem hj
    have hkey := HT.out.tok.key _ hm
    have hval := HT.out.tok.val _ hm
    obtain ⟨P, HP⟩ : ∃ P, M.getD j ([], []) = P := ⟨_, rfl⟩
    rw [HP] at o1 o2 hkey hval
    obtain ⟨K, U⟩ := P
    simp only at o1 o2 hkey hval
    obtain ⟨ka, kc, rfl, vk⟩ := Vs.own o1 hkey.1
    obtain ⟨va, vc, rfl, vu⟩ := Vs.own o2 hval.1
    have hlt : w1.heap.size < wy.heap.size := by
      obtain ⟨g, cap, _, _, _, hg, hd, _⟩ := own_head o1 hkey.2.1
      have := hd.lt
      omega
    refine (rows1_ w (w.heap.size + 1) w.heap.size w2.heap.size j N M wy v ds K U ka va kc vc (rg.below hb) hj hN (by omega) HP (by omega) (by omega) (by omega) (by omega) vk.bs vu.bs (by omega) (by omega)).mono ?_
    rintro e W' ⟨rfl, v', ds', rg', hsame⟩
    have hbase := rg.base
    have hown : ∀ q, v.ownBlock = some q → w2.heap.size ≤ q ∧ q < w1.heap.size := fun q e => rg.own.lt q e
    refine ⟨hsame _ hlt (by omega) (fun e => by have := (hown _ e).2; omega), true, rfl, fun _ => ⟨⟨v', ds', rg'⟩, ?_⟩, fun e => by cases e⟩
    exact (gd.below hb).step fun x hx hx' _ => hsame x hx (HV2L.out x hx').2 (fun e => by have := (hown x e).1; have := (HV2L.out x hx').1; omega)
  have k3 := fun wx (h0 : (∃ v ds, Rg w (w.heap.size + 1) w.heap.size w2.heap.size N M 0 wx v ds) ∧ Gd wx V2 gl a n c M) => all1_ gl 43 #[.pointer (some ⟨w.heap.size + 1, 0, none⟩), .pointer (some ⟨w.heap.size, 0, none⟩)] a n c V2 M HT.out.tok (fun j W => (∃ v ds, Rg w (w.heap.size + 1) w.heap.size w2.heap.size N M j W v ds) ∧ Gd W V2 gl a n c M) (fun _ _ => False) HN.out (by have := HN.out; omega) (fun _ _ h => h.2) (fun j A B h hb => by
    obtain ⟨⟨v, ds, rg⟩, gd⟩ := h
    exact ⟨⟨v, ds, rg.below hb⟩, gd.below hb⟩) HY.out (enters_of Tryz.func43 (by kernel_rfl) rfl) wx h0
  have hq := fun wx => run_eql_func13 wx gl
  unfold allF
  go_wp2_with fail
  refine (k3 w2 ⟨⟨.slice none 0 0, [], ⟨HV2.out, HC2.out, World.ownsRow_nil _ _ _ _, rfl, fun d hd => (by simp at hd), HB2.out, Nat.le_refl _⟩⟩, HGD.out⟩).mono ?_
  rintro e w3 ⟨rfl, h3⟩
  obtain ⟨⟨v, ds, rg⟩, _⟩ : (∃ v ds, Rg w (w.heap.size + 1) w.heap.size w2.heap.size N M n w3 v ds) ∧ Gd w3 V2 gl a n c M := by
    rcases h3 with h | ⟨j, _, h⟩
    · exact h
    · exact h.elim
  have hfull : ds.map (·.s) = M := by rw [rg.is, HN.out, List.take_of_length_le (Nat.le_refl _)]
  obtain ⟨al, cl, hv, hrl, h1, h2, h5⟩ := Rl.ofOwn (V := fun x => w.heap.size ≤ x) rg.own (fun d hd => (rg.rv d hd).wide fun x _ h => h.1) (fun x hx => by omega)
  subst hv
  rw [hfull] at hrl
  have hdl : ds.length = M.length := by rw [← hfull, List.length_map]
  have z0 : w3.cell? ⟨w.heap.size + 1, 0, none⟩ = some (.slice al ds.length cl) := by rw [cell_of_row w3 (w.heap.size + 1) 0 _ 28 (0, 0) rg.var]; rfl
  have HRL := hid hrl
  have H1 := hid h1
  have H2 := hid h2
  have H5 := hid h5
  have HBF := hid rg.bel
  have HDL := hid hdl
  clear k3 h3 rg hrl h1 h2 h5 hfull hdl
  obtain ⟨m, HM⟩ : ∃ m, Hid (ds.length = m) := ⟨_, rfl⟩
  rw [HM.out] at z0 HRL H1 HDL
  go_wp2_with fail
  go_ret
  first | exact ⟨al, m, cl, HDL.out, rfl, HRL.out, H1.out, H2.out, H5.out, HBF.out⟩ | exact ⟨m, HDL.out, al, cl, rfl, HRL.out, H1.out, H2.out, H5.out, HBF.out⟩ | exact ⟨al, m, HDL.out, cl, rfl, HRL.out, H1.out, H2.out, H5.out, HBF.out⟩
end Go.Proofs.YteeapmcpbmjpmaaGreat
namespace Go.Proofs.YteeapmcpbmjpmaaGreat
set_option maxRecDepth 100000
open Go.RowKit Go.Shelf Go.Maps
set_option linter.unusedVariables false

theorem Vs.lift {w w' : World} {V V' : Nat → Prop} {a : Option Addr} {n c : Nat} {v : List Int} (h : Vs w V a n c v) (hb : Below w.heap.size w w') (hV : ∀ x, x < w.heap.size → V x → V' x) : Vs w' V' a n c v := (h.wide hV).step fun x hx _ _ => hb.block x hx
set_option maxHeartbeats 1000000 in
theorem lset_ (x y : List UInt8) (w : World) (hx : x.length ≤ 1000) (hy : y.length ≤ 1000) :
    Calls Tryz.prog 10 #[.string ⟨x.toArray⟩, .string ⟨y.toArray⟩] w fun e w' => ∃ ka kc va vc, e = .returned (.agg #[.slice ka x.length kc, .slice va y.length vc, .bool false]) ∧ Vs w' (fun z => w.heap.size ≤ z) ka x.length kc (ofU x) ∧ Vs w' (fun z => w.heap.size ≤ z) va y.length vc (ofU y) ∧ Below w.heap.size w w' := by
  have B0 : Below w.heap.size w (w.alloc (.cells #[.slice none 0 0, .slice none 0 0, .bool false] 44)) := (Below.refl _ _).alloc (Nat.le_refl _) _
  have hnew := heap_alloc_new w (.cells #[.slice none 0 0, .slice none 0 0, .bool false] 44)
  have hs0 : (w.alloc (.cells #[.slice none 0 0, .slice none 0 0, .bool false] 44)).heap.size = w.heap.size + 1 := by simp
  obtain ⟨w1, c1, r1, v1, b1, s1⟩ := run_toB (w.alloc (.cells #[.slice none 0 0, .slice none 0 0, .bool false] 44)) x (by unfold maxLen; omega)
  obtain ⟨w2, c2, r2, v2, b2, s2⟩ := run_toB w1 y (by unfold maxLen; omega)
  rw [hs0] at r1 v1 s1
  rw [ofU_length] at v1 v2
  obtain ⟨s, HS⟩ : ∃ s : ByteArray, Hid ((⟨x.toArray⟩ : ByteArray) = s) := ⟨_, rfl⟩
  obtain ⟨u, HU⟩ : ∃ s : ByteArray, Hid ((⟨y.toArray⟩ : ByteArray) = s) := ⟨_, rfl⟩
  rw [HS.out] at r1 ⊢
  rw [HU.out] at r2 ⊢
  have hn2 : w2.heap[w.heap.size]? = some (.cells #[.slice none 0 0, .slice none 0 0, .bool false] 44 (0, 0)) := (b2.block _ (by omega)).trans ((b1.block _ (by rw [hs0]; omega)).trans hnew)
  have HB2 : Hid (Below w.heap.size w w2) := bel_bel (bel_bel B0 B0.size b1) (by have := b1.size; omega) b2
  have x0 : w2.cell? ⟨w.heap.size, 0, none⟩ = some (.slice none 0 0) := by rw [cell_of_row w2 w.heap.size 0 _ 44 (0, 0) hn2]; rfl
  have x1 : w2.cell? ⟨w.heap.size, 1, none⟩ = some (.slice none 0 0) := by rw [cell_of_row w2 w.heap.size 1 _ 44 (0, 0) hn2]; rfl
  have x2 : w2.cell? ⟨w.heap.size, 2, none⟩ = some (.bool false) := by rw [cell_of_row w2 w.heap.size 2 _ 44 (0, 0) hn2]; rfl
  have f0 : w2.frozen? ⟨w.heap.size, 0, none⟩ = false := by simp [World.frozen?, hn2]
  have f1 : w2.frozen? ⟨w.heap.size, 1, none⟩ = false := by simp [World.frozen?, hn2]
  have f2 : w2.frozen? ⟨w.heap.size, 2, none⟩ = false := by simp [World.frozen?, hn2]
  have HN := hid hn2
  have HV1 := hid (v1.lift (V' := fun z => w.heap.size < z) b2 (fun x _ e => by omega))
  have HV2 := hid (v2.wide (V' := fun z => w.heap.size < z) (fun x _ e => by omega))
  have HS1 := hid s1
  clear v1 v2 b1 b2 B0 hnew hs0 hn2 s2 s1
  obtain ⟨n, HNN⟩ : ∃ n, Hid (x.length = n) := ⟨_, rfl⟩
  obtain ⟨m, HMM⟩ : ∃ n, Hid (y.length = n) := ⟨_, rfl⟩
  rw [HNN.out] at r1 HV1 ⊢
  rw [HMM.out] at r2 HV2 ⊢
  obtain ⟨q, HQ⟩ : ∃ q, Hid (w1.heap.size = q) := ⟨_, rfl⟩
  rw [HQ.out] at r2 HV2
  go_enter Tryz.func10, Tryz.ntmps10
  go_wp2_with fail
  have HRW := hid (set3 (a := .slice (some ⟨w.heap.size + 1, 0, none⟩) n c1) (b := .slice (some ⟨q, 0, none⟩) m c2) (c := .bool false) HN.out)
  have HSO := fun j (h : j ≠ w.heap.size) => set3_other (w := w2) (a := .slice (some ⟨w.heap.size + 1, 0, none⟩) n c1) (b := .slice (some ⟨q, 0, none⟩) m c2) (c := .bool false) h
  refine bodyPost_ret (v := .agg #[.slice (some ⟨w.heap.size + 1, 0, none⟩) n c1, .slice (some ⟨q, 0, none⟩) m c2, .bool false]) ?_ rfl ?_
  · exact results_cell_row rfl _ _ w.heap.size 44 _ (0, 0) _ rfl HRW.out Tryz.underlying44 rfl sizeS
  clear x0 x1 x2 f0 f1 f2
  have hst : ∀ {a : Option Addr} {n' c : Nat} {z : List Int}, Vs w2 (fun z => w.heap.size < z) a n' c z → Vs (((w2.setCell ⟨w.heap.size, 0, none⟩ (.slice (some ⟨w.heap.size + 1, 0, none⟩) n c1)).setCell ⟨w.heap.size, 1, none⟩ (.slice (some ⟨q, 0, none⟩) m c2)).setCell ⟨w.heap.size, 2, none⟩ (.bool false)) (fun z => w.heap.size ≤ z) a n' c z := fun h => (h.step fun x _ hx _ => HSO x (by omega)).wide fun x _ hx => Nat.le_of_lt hx
  refine ⟨_, c1, _, c2, rfl, hst HV1.out, hst HV2.out, HB2.out.trans ⟨rfl, rfl, rfl, by simp, fun x hx => HSO x (by omega)⟩⟩
set_option maxHeartbeats 1000000 in
theorem lgone_ (x : List UInt8) (w : World) (hx : x.length ≤ 1000) :
    Calls Tryz.prog 11 #[.string ⟨x.toArray⟩] w fun e w' => ∃ ka kc, e = .returned (.agg #[.slice ka x.length kc, .slice none 0 0, .bool true]) ∧ Vs w' (fun z => w.heap.size ≤ z) ka x.length kc (ofU x) ∧ Below w.heap.size w w' := by
  have B0 : Below w.heap.size w (w.alloc (.cells #[.slice none 0 0, .slice none 0 0, .bool false] 44)) := (Below.refl _ _).alloc (Nat.le_refl _) _
  have hnew := heap_alloc_new w (.cells #[.slice none 0 0, .slice none 0 0, .bool false] 44)
  have hs0 : (w.alloc (.cells #[.slice none 0 0, .slice none 0 0, .bool false] 44)).heap.size = w.heap.size + 1 := by simp
  obtain ⟨w2, c1, r1, v1, b1, s1⟩ := run_toB (w.alloc (.cells #[.slice none 0 0, .slice none 0 0, .bool false] 44)) x (by unfold maxLen; omega)
  rw [hs0] at r1 v1 s1
  rw [ofU_length] at v1
  obtain ⟨s, HS⟩ : ∃ s : ByteArray, Hid ((⟨x.toArray⟩ : ByteArray) = s) := ⟨_, rfl⟩
  rw [HS.out] at r1 ⊢
  have hn2 : w2.heap[w.heap.size]? = some (.cells #[.slice none 0 0, .slice none 0 0, .bool false] 44 (0, 0)) := (b1.block _ (by rw [hs0]; omega)).trans hnew
  have HB2 : Hid (Below w.heap.size w w2) := bel_bel B0 B0.size b1
  have x0 : w2.cell? ⟨w.heap.size, 0, none⟩ = some (.slice none 0 0) := by rw [cell_of_row w2 w.heap.size 0 _ 44 (0, 0) hn2]; rfl
  have x1 : w2.cell? ⟨w.heap.size, 1, none⟩ = some (.slice none 0 0) := by rw [cell_of_row w2 w.heap.size 1 _ 44 (0, 0) hn2]; rfl
  have x2 : w2.cell? ⟨w.heap.size, 2, none⟩ = some (.bool false) := by rw [cell_of_row w2 w.heap.size 2 _ 44 (0, 0) hn2]; rfl
  have f0 : w2.frozen? ⟨w.heap.size, 0, none⟩ = false := by simp [World.frozen?, hn2]
  have f1 : w2.frozen? ⟨w.heap.size, 1, none⟩ = false := by simp [World.frozen?, hn2]
  have f2 : w2.frozen? ⟨w.heap.size, 2, none⟩ = false := by simp [World.frozen?, hn2]
  have HN := hid hn2
  have HV1 := hid (v1.wide (V' := fun z => w.heap.size < z) (fun x _ e => by omega))
  clear v1 b1 B0 hnew hs0 hn2 s1
  obtain ⟨n, HNN⟩ : ∃ n, Hid (x.length = n) := ⟨_, rfl⟩
  rw [HNN.out] at r1 HV1 ⊢
  go_enter Tryz.func11, Tryz.ntmps11
  go_wp2_with fail
  have HRW := hid (set3 (a := .slice (some ⟨w.heap.size + 1, 0, none⟩) n c1) (b := .slice none 0 0) (c := .bool true) HN.out)
  have HSO := fun j (h : j ≠ w.heap.size) => set3_other (w := w2) (a := .slice (some ⟨w.heap.size + 1, 0, none⟩) n c1) (b := .slice none 0 0) (c := .bool true) h
  refine bodyPost_ret (v := .agg #[.slice (some ⟨w.heap.size + 1, 0, none⟩) n c1, .slice none 0 0, .bool true]) ?_ rfl ?_
  · exact results_cell_row rfl _ _ w.heap.size 44 _ (0, 0) _ rfl HRW.out Tryz.underlying44 rfl sizeS
  clear x0 x1 x2 f0 f1 f2
  have hst : ∀ {a : Option Addr} {n' c : Nat} {z : List Int}, Vs w2 (fun z => w.heap.size < z) a n' c z → Vs (((w2.setCell ⟨w.heap.size, 0, none⟩ (.slice (some ⟨w.heap.size + 1, 0, none⟩) n c1)).setCell ⟨w.heap.size, 1, none⟩ (.slice none 0 0)).setCell ⟨w.heap.size, 2, none⟩ (.bool true)) (fun z => w.heap.size ≤ z) a n' c z := fun h => (h.step fun x _ hx _ => HSO x (by omega)).wide fun x _ hx => Nat.le_of_lt hx
  refine ⟨_, c1, rfl, hst HV1.out, HB2.out.trans ⟨rfl, rfl, rfl, by simp, fun x hx => HSO x (by omega)⟩⟩
end Go.Proofs.YteeapmcpbmjpmaaGreat
