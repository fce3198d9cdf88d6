import Derived.Test.YtghehfhkiknjhaaUD
namespace Go.Proofs.Ytghehfhkiknjhaa
set_option maxRecDepth 100000
open Go.RowKit Go.Shelf Go.Maps
set_option linter.unusedVariables false

/-- The rows that a walk has gathered. -/
structure Rg (w0 : World) (lv nb B2 : Nat) (N : Int) (M : Tab) (k : Nat) (W : World) (v : Value) (ds : List RD) : Prop where
  var : W.heap[lv]? = some (.cells #[v] 51 (0, 0))
  cnt : W.heap[nb]? = some (.cells #[.int .i64 N] 3 (0, 0))
  own : W.ownsRow B2 65 2 v ds.length (rds ds)
  is : ds.map (·.s) = M.take k
  rv : ∀ d ∈ ds, RV2 W (fun x => w0.heap.size ≤ x ∧ x ≠ lv ∧ v.ownBlock ≠ some x) d
  bel : Below w0.heap.size w0 W
  base : B2 ≤ W.heap.size
theorem Rg.below {w0 W W' : World} {lv nb B2 k : Nat} {N : Int} {M : Tab} {v : Value} {ds : List RD} (h : Rg w0 lv nb B2 N M k W v ds) (hb : Below W.heap.size W W') : Rg w0 lv nb B2 N M k W' v ds :=
  ⟨(hb.block _ (Array.getElem?_eq_some_iff.1 h.var).1).trans h.var, (hb.block _ (Array.getElem?_eq_some_iff.1 h.cnt).1).trans h.cnt, own_bel h.own hb, h.is, fun d hd => (h.rv d hd).below hb, bel_bel h.bel h.bel.size hb, Nat.le_trans h.base hb.size⟩
theorem step_appRow {w : World} {ops : Array Oper} {o : Oper} {act : Act} {K : Act → World → Prop} {Q : Exit → Act → World → Prop} {E : Prop} (hgd : o.guard = none) (s x : Operand)
    (ho : o.op = .call { callee := .builtin .append, args := #[s, x], argTypes := #[51, 51] })
    (base : Nat) (v : Value) (ds : List RD) (hs : act.eval s = v) (hown : w.ownsRow base 65 2 v ds.length (rds ds)) (g : Nat) (d : RD) (hx : act.eval x = .slice (some ⟨g, 0, none⟩) 1 1)
    (hg : ∀ j u, (rdc d)[j]? = some u → w.cell? ⟨g, j, none⟩ = some u) (hlen : ds.length ≤ 1000000000) (hbase : base ≤ w.heap.size) (n' : Nat) (hn' : Hid (ds.length + 1 = n'))
    (h : ∀ g' cap w', Hid (w'.ownsRow base 65 2 (.slice (some ⟨g', 0, none⟩) n' cap) (ds ++ [d]).length (rds (ds ++ [d]))) → Hid (w.grownBy w' v.ownBlock) → Hid (v.ownBlock = some g' ∨ g' = w.heap.size) → K (act.put o.dst (.slice (some ⟨g', 0, none⟩) n' cap)) w') : if Region.wanted o (yielded ops act.tmps) = true then Oper.wp Try.prog o act w K Q else E := by
  obtain ⟨i, hi, hz0, hz1, hz2⟩ := info_parts infoR
  refine step_append_lies _ hgd s x 51 ho base 65 i _ 2 48 Try.underlying51 hi hz0 hz1 hz2 rfl (by decide) v ds.length (rds ds) hs hown ⟨g, 0, none⟩ 1 1 (rdc d) hx rfl ?c1 ?c2 (by decide) (by unfold maxLen; omega) (by omega) hbase _ rfl ?_
  case c1 =>
    intro j u hj
    rw [Addr.add_lit, Nat.zero_add]
    exact hg j u hj
  case c2 =>
    intro u hu
    exact rds_one [d] u (by simpa [rds] using hu)
  intro g' cap w' h1 h2 h3 _
  rw [hn'.out] at h1 ⊢
  refine h g' cap w' ?_ h2 h3
  show w'.ownsRow _ _ _ _ _ _
  rw [List.length_append, List.length_singleton, rds_app, hn'.out]
  simpa [rds] using h1
theorem Rg.app {w0 W W3 w5 : World} {lv nb B2 k : Nat} {N : Int} {M : Tab} {v v5 : Value} {ds : List RD} {d : RD} (h : Rg w0 lv nb B2 N M k W v ds) (hk : k < M.length) (hd : d.s = M.getD k ([], [])) (hlv : lv < B2) (hnb : nb < B2) (hne : lv ≠ nb) (h0 : w0.heap.size ≤ lv) (hB : Below W.heap.size W W3) (hs : W.heap.size < W3.heap.size) (hdv : RV2 W3 (fun x => W.heap.size ≤ x) d)
    (ho : w5.ownsRow B2 65 2 v5 (ds ++ [d]).length (rds (ds ++ [d]))) (hg : W3.grownBy w5 v.ownBlock) (hl : v5.ownBlock = v.ownBlock ∨ v5.ownBlock = some W3.heap.size) :
    Rg w0 lv nb B2 N M (k + 1) (w5.setCell ⟨lv, 0, none⟩ v5) v5 (ds ++ [d]) ∧ ∀ x, x < W.heap.size → x ≠ lv → v.ownBlock ≠ some x → (w5.setCell ⟨lv, 0, none⟩ v5).heap[x]? = W.heap[x]? := by
  have hown : ∀ q, v.ownBlock = some q → B2 ≤ q := fun q e => (h.own.lt q e).1
  have hown5 : ∀ q, v5.ownBlock = some q → B2 ≤ q := fun q e => (ho.lt q e).1
  have hset : ∀ x, x ≠ lv → (w5.setCell ⟨lv, 0, none⟩ v5).heap[x]? = w5.heap[x]? := fun x hx => by simp [World.setCell, Array.getElem?_modify, Ne.symm hx]
  have hsame3 : ∀ x, x < W3.heap.size → x ≠ lv → v.ownBlock ≠ some x → (w5.setCell ⟨lv, 0, none⟩ v5).heap[x]? = W3.heap[x]? := fun x hx h1 h2 => (hset x h1).trans (hg.block x hx (fun e => h2 e.symm))
  have hsame : ∀ x, x < W.heap.size → x ≠ lv → v.ownBlock ≠ some x → (w5.setCell ⟨lv, 0, none⟩ v5).heap[x]? = W.heap[x]? := fun x hx h1 h2 => (hsame3 x (by omega) h1 h2).trans (hB.block x hx)
  have hv3 : W3.heap[lv]? = some (.cells #[v] 51 (0, 0)) := (hB.block _ (Array.getElem?_eq_some_iff.1 h.var).1).trans h.var
  have hv5 : w5.heap[lv]? = some (.cells #[v] 51 (0, 0)) := (hg.block lv (Array.getElem?_eq_some_iff.1 hv3).1 (fun e => by have := hown lv e.symm; omega)).trans hv3
  have hsz : (w5.setCell ⟨lv, 0, none⟩ v5).heap.size = w5.heap.size := by simp [World.setCell]
  have hbase := h.base
  refine ⟨⟨?_, ?_, ?_, ?_, ?_, ?_, ?_⟩, hsame⟩
  · simp [World.setCell, Array.getElem?_modify, hv5]
  · exact (hsame nb (Array.getElem?_eq_some_iff.1 h.cnt).1 (Ne.symm hne) (fun e => by have := hown nb e; omega)).trans h.cnt
  · refine ho.kept (row := some lv) ⟨rfl, rfl, rfl, by rw [hsz]; exact Nat.le_refl _, fun x _ hx => hset x (fun e => hx (by rw [e]))⟩ (.inr fun e => ?_)
    have := hown5 _ e
    omega
  · rw [List.map_append, h.is, List.take_succ_eq_append_getElem hk]
    simp [hd, List.getD, hk]
  · have hw : ∀ x, x < W3.heap.size → v.ownBlock ≠ some x → v5.ownBlock ≠ some x := fun x hx hn e => by
      rcases hl with h | h
      · exact hn (by rw [← h]; exact e)
      · rw [h] at e
        have := Option.some.inj e
        omega
    have hvs : ∀ {a : Option Addr} {n c : Nat} {z : List Int}, Vs W3 (fun x => w0.heap.size ≤ x ∧ x ≠ lv ∧ v.ownBlock ≠ some x) a n c z → Vs (w5.setCell ⟨lv, 0, none⟩ v5) (fun x => w0.heap.size ≤ x ∧ x ≠ lv ∧ v5.ownBlock ≠ some x) a n c z := fun {a n c z} h => by
      have h2 := h.wide (V' := fun x => x < W3.heap.size ∧ w0.heap.size ≤ x ∧ x ≠ lv ∧ v.ownBlock ≠ some x) fun x hx hh => ⟨hx, hh⟩
      have h3 := h2.step (w' := w5.setCell ⟨lv, 0, none⟩ v5) fun x hx hh _ => hsame3 x hx hh.2.2.1 hh.2.2.2
      exact h3.wide fun x _ hh => ⟨hh.2.1, hh.2.2.1, hw x hh.1 hh.2.2.2⟩
    intro d' hd'
    rcases List.mem_append.1 hd' with hd' | hd'
    · have := (h.rv d' hd').below hB
      exact ⟨hvs this.1, hvs this.2⟩
    · rw [List.mem_singleton] at hd'
      subst hd'
      have hnew : ∀ x, W.heap.size ≤ x → w0.heap.size ≤ x ∧ x ≠ lv ∧ v.ownBlock ≠ some x := fun x hx => ⟨by have := h.bel.size; omega, by omega, fun e => by have := (h.own.lt x e).2; omega⟩
      exact ⟨hvs (hdv.1.wide fun x _ hx => hnew x hx), hvs (hdv.2.wide fun x _ hx => hnew x hx)⟩
  · have hsz5 := hg.size
    exact h.bel.trans ⟨hg.os.trans hB.os, hg.tape.trans hB.tape, hg.output.trans hB.output, by rw [hsz]; omega, fun x hx => hsame x (by have := h.bel.size; omega) (by omega) (fun e => by have := hown x e; have := h.bel.size; have : lv < W.heap.size := (Array.getElem?_eq_some_iff.1 h.var).1; omega)⟩
  · have := hg.size
    rw [hsz]
    omega
set_option maxHeartbeats 2000000 in
theorem rows1_ (w0 : World) (lv nb B2 k : Nat) (N : Int) (M : Tab) (W : World) (v : Value) (ds : List RD) (K U : List Int) (ka va : Option Addr) (kc vc : Nat) (h : Rg w0 lv nb B2 N M k W v ds) (hk : k < M.length) (hMN : (M.length : Int) ≤ N) (hMB : M.length ≤ 1000000000) (hKU : M.getD k ([], []) = (K, U)) (hlv : w0.heap.size ≤ lv) (hlvB : lv < B2) (hnbB : nb < B2) (hne : lv ≠ nb)
    (b1 : Bs W ka K.length K) (b2 : Bs W va U.length U) (n1 : K.length ≤ 100000000) (n2 : U.length ≤ 100000000) :
    Calls Try.prog 52 #[.slice ka K.length kc, .slice va U.length vc, .pointer (some ⟨lv, 0, none⟩), .pointer (some ⟨nb, 0, none⟩)] W fun e W' => e = .returned (.bool true) ∧ ∃ v' ds', Rg w0 lv nb B2 N M (k + 1) W' v' ds' ∧ (∀ x, x < W.heap.size → x ≠ lv → v.ownBlock ≠ some x → W'.heap[x]? = W.heap[x]?) := by
  have cv : W.cell? ⟨lv, 0, none⟩ = some v := by rw [cell_of_row W lv 0 _ 51 (0, 0) h.var]; rfl
  have HH := hid h
  have k1 := fun wx (a : Bs wx ka K.length K) => refBytes ka K.length kc K wx a (by omega)
  have k2 := fun wx (a : Bs wx va U.length U) => refBytes va U.length vc U wx a (by omega)
  have H1 := hid b1
  have H2 := hid b2
  obtain ⟨kn, HKN⟩ : ∃ x, Hid (K.length = x) := ⟨_, rfl⟩
  obtain ⟨un, HUN⟩ : ∃ x, Hid (U.length = x) := ⟨_, rfl⟩
  rw [HKN.out] at k1 H1 ⊢
  rw [HUN.out] at k2 H2 ⊢
  clear h b1 b2
  go_enter Try.func52, Try.ntmps52
  have HDL : Hid (ds.length ≤ 1000000000) := by
    have h1 := congrArg List.length HH.out.is
    rw [List.length_map, List.length_take] at h1
    show _ ≤ _
    omega
  have HDN : Hid ((ds.length : Int) + 1 ≤ N) := by
    have h1 := congrArg List.length HH.out.is
    rw [List.length_map, List.length_take] at h1
    show _ ≤ _
    omega
  obtain ⟨n', HN'⟩ : ∃ n', Hid (ds.length + 1 = n') := ⟨_, rfl⟩
  have HOK1 := hid H1.out.2.1
  have HOK2 := hid H2.out.2.1
  go_wp2_with fail
  go_region_law (first
    | (go_simp; go_at_call 18; have HQ := G1; refine (k2 _ (by exact H2.out.below HQ.out)).mono ?_; rintro e w3 ⟨v3, rfl, o3, g3⟩; obtain ⟨a3, c3, hv3, vs3⟩ := Vs.ofOwn o3 HOK2.out; subst hv3; have HB3 : Hid (Below W.heap.size W w3) := (bel_bel HQ.out HQ.out.size g3); have y3 := (HB3.out.cell (p := ⟨lv, 0, none⟩) (Array.getElem?_eq_some_iff.1 HH.out.var).1).trans cv; have HVK3 := hid (HVK.out.step fun x hx _ _ => g3.block x hx); have HVU3 := hid (vs3.wide (V' := fun x => W.heap.size ≤ x) fun x _ h => Nat.le_trans HQ.out.size h); have y4 := (((Below.refl w3.heap.size w3).alloc (Nat.le_refl _) (.cells #[.slice a2 kn c2, .slice a3 un c3] 65)).cell (p := ⟨lv, 0, none⟩) (World.block_lt_of_cell? w3 _ y3)).trans y3; clear o3 g3 vs3 G1 HVK y2)
    | (go_simp; go_at_call 18; refine (k1 _ (by exact H1.out)).mono ?_; rintro e w2 ⟨v2, rfl, o2, g2⟩; obtain ⟨a2, c2, hv2, vs2⟩ := Vs.ofOwn o2 HOK1.out; subst hv2; have G1 : Hid (Below W.heap.size W w2) := (⟨g2.os, g2.tape, g2.output, g2.size, g2.block⟩ : Below W.heap.size W w2); have y2 := (G1.out.cell (p := ⟨lv, 0, none⟩) (Array.getElem?_eq_some_iff.1 HH.out.var).1).trans cv; have HVK : Hid (Vs w2 (fun x => W.heap.size ≤ x) a2 kn c2 K) := vs2; clear o2 g2 vs2)
    | (refine step_appRow rfl (.tmp 7) (.tmp 13) rfl B2 v ds rfl (by exact (own_bel HH.out.own HB3.out).alloc _) w3.heap.size ⟨a2, c2, a3, c3, (K, U)⟩ rfl (by exact fun j u hj => by simp only [rdc, HKN.out, HUN.out] at hj; rw [cell_of_row _ w3.heap.size j _ 65 (0, 0) (heap_alloc_new w3 _)]; simpa using hj) HDL.out (by have := HH.out.base; have := HB3.out.size; simp; omega) n' HN' ?_; intro g5 cap5 w5 HO5 HG5 HL5; have hv5 : w5.heap[lv]? = some (.cells #[v] 51 (0, 0)) := ((HG5.out.block lv (by have := (Array.getElem?_eq_some_iff.1 HH.out.var).1; have := HB3.out.size; simp; omega) (fun e => by have := (HH.out.own.lt lv e.symm).1; omega)).trans ((Below.heap_alloc w3 _ lv (by have := (Array.getElem?_eq_some_iff.1 HH.out.var).1; have := HB3.out.size; omega)).trans ((HB3.out.block lv (Array.getElem?_eq_some_iff.1 HH.out.var).1).trans HH.out.var))); have x5 : w5.cell? ⟨lv, 0, none⟩ = some v := (by rw [cell_of_row w5 lv 0 _ 51 (0, 0) hv5]; rfl); have f5 : w5.frozen? ⟨lv, 0, none⟩ = false := (by simp [World.frozen?, hv5]); clear hv5))
  all_goals
    have HRG := hid (HH.out.app (w5 := w5) (W3 := w3.alloc (.cells #[.slice a2 kn c2, .slice a3 un c3] 65)) (v5 := .slice (some ⟨g5, 0, none⟩) n' cap5) (d := ⟨a2, c2, a3, c3, (K, U)⟩) hk hKU.symm hlvB hnbB hne hlv (bel_bel HB3.out HB3.out.size ((Below.refl w3.heap.size w3).alloc (Nat.le_refl _) _)) (by have := HB3.out.size; simp; omega) ((show RV2 w3 (fun x => W.heap.size ≤ x) ⟨a2, c2, a3, c3, (K, U)⟩ from ⟨by show Vs _ _ _ K.length _ _; rw [HKN.out]; exact HVK3.out, by show Vs _ _ _ U.length _ _; rw [HUN.out]; exact HVU3.out⟩).below ((Below.refl w3.heap.size w3).alloc (Nat.le_refl _) _)) HO5.out HG5.out (HL5.out.elim (fun e => .inl e.symm) (fun e => .inr (by rw [e]; rfl))))
    clear x5 f5 y3 y4 k1 k2 cv HVK3 HVU3 HO5 HG5 HL5 HB3
    generalize w5.setCell ⟨lv, 0, none⟩ (.slice (some ⟨g5, 0, none⟩) n' cap5) = w6 at *
    have z0 : w6.cell? ⟨lv, 0, none⟩ = some (.slice (some ⟨g5, 0, none⟩) n' cap5) := by rw [cell_of_row w6 lv 0 _ 51 (0, 0) HRG.out.1.var]; rfl
    have z1 : w6.cell? ⟨nb, 0, none⟩ = some (.int .i64 N) := by rw [cell_of_row w6 nb 0 _ 3 (0, 0) HRG.out.1.cnt]; rfl
    have hle : (n' : Int) ≤ N := by have := HDN.out; have := HN'.out; omega
    go_wp2_with fail
    go_ret
    exact ⟨by simp, _, _, HRG.out.1, HRG.out.2⟩
end Go.Proofs.Ytghehfhkiknjhaa
