import Derived.Test.YtblcpdffiafgnaaGreatDoorZR
namespace Go.Proofs.YtblcpdffiafgnaaGreatDoor
set_option linter.unusedSimpArgs false
set_option maxRecDepth 100000
open Go.RowKit Go.Shelf
set_option linter.unusedVariables false
set_option linter.unusedSimpArgs false

/-- Numbers of 64 bits that came in. -/
def Uc12 (w : World) (a : Option Addr) (n : Nat) (l : List Int) : Prop := l.length = n ∧ (∀ x ∈ l, 0 ≤ x ∧ x ≤ 18446744073709551615) ∧ (n = 0 ∨ ∃ b off, a = some ⟨b, off, none⟩ ∧ ∀ i, i < n → w.cell? ⟨b, off + i, none⟩ = some (.int .u64 (l.getD i 0)))
theorem Uc12.below {w w' : World} {a : Option Addr} {n : Nat} {l : List Int} (h : Uc12 w a n l) (hb : Below w.heap.size w w') : Uc12 w' a n l := by
  refine ⟨h.1, h.2.1, ?_⟩
  rcases h.2.2 with q | ⟨b, off, e, hc⟩
  · exact .inl q
  · exact .inr ⟨b, off, e, fun i hi => (hb.cell (p := ⟨b, off + i, none⟩) (World.block_lt_of_cell? _ _ (hc i hi))).trans (hc i hi)⟩
abbrev cu12 (xs : List Int) : List Value := xs.map (Value.int .u64)
abbrev cb12 (xs : List Bool) : List Value := xs.map Value.bool
theorem infoU64 : (Tryz.prog.info? 45).map (fun i => (i.zero, i.size, i.bytes)) = some (some (.int .u64 0), 1, 8) := by kernel_rfl
theorem infoL : (Tryz.prog.info? 4).map (fun i => (i.zero, i.size, i.bytes)) = some (some (.bool false), 1, 1) := by kernel_rfl
/-- append of one truth. -/
theorem wpList_appL {B : Nat} {wr : World} {ops : Array Oper} {rest : List Oper} {o : Oper} {act : Act} {Q : Exit → Act → World → Prop} (hgd : o.guard = none) (s x : Operand)
    (ho : o.op = .call { callee := .builtin .append, args := #[s, x], argTypes := #[29, 29] })
    (v : Value) (xs : List Bool) (X : Bool) (hs : act.eval s = v) (hown : wr.ownsRow B 4 1 v xs.length (cb12 xs)) (hx : act.eval x = .slice (some ⟨wr.heap.size, 0, none⟩) 1 1) (hn : xs.length ≤ 100000) (hb : B ≤ wr.heap.size)
    (h : ∀ v' w', w'.ownsRow B 4 1 v' (xs.length + 1) (cb12 (xs ++ [X])) → wr.grownBy w' v.ownBlock → wpList Tryz.prog ops Q rest (act.put o.dst v') w') : wpList Tryz.prog ops Q (o :: rest) act (wr.alloc (.cells #[.bool X] 4)) := by
  obtain ⟨i, hi, hz0, hz1, hz2⟩ := info_parts infoL
  refine wpList_append_own _ hgd s x 29 ho B 4 i _ 1 1 Tryz.underlying29 hi hz0 hz1 hz2 rfl (by decide) v xs.length (cb12 xs) hs (World.ownsRow.alloc hown _) ⟨wr.heap.size, 0, none⟩ 1 1 [.bool X] hx rfl (one_src12 wr _ _) (by simp [Value.oneCell']) (by unfold maxLen; omega) (by omega) (by simp; omega) ?_
  intro v' w' h1 h2 _
  have hz : (wr.alloc (.cells #[.bool X] 4)).heap.size = wr.heap.size + 1 := by simp
  refine h v' w' (by simp only [cb12, List.map_append] at h1 ⊢; exact h1) ⟨h2.os, h2.tape, h2.output, by have := h2.size; omega, fun k hk e => (h2.block k (by omega) e).trans (Below.heap_alloc _ _ _ hk)⟩
theorem below_appL {B : Nat} {W wr w' : World} {v : Value} {n : Nat} {t : TypeId} {xs : List Value} (hB : Below B W wr) (hown : wr.ownsRow B t 1 v n xs) (hg : wr.grownBy w' v.ownBlock) (hs : B ≤ wr.heap.size) : Below B W w' :=
  ⟨hg.os.trans hB.os, hg.tape.trans hB.tape, hg.output.trans hB.output, Nat.le_trans hB.size hg.size, fun b hb => (hg.block b (by omega) (fun e => by have := (hown.lt b e.symm).1; omega)).trans (hB.block b hb)⟩
theorem bl_own {w : World} {B n : Nat} {v : Value} {xs : List Bool} (h : w.ownsRow B 4 1 v n (cb12 xs)) (hn : xs.length = n) : ∃ a c, v = .slice a n c ∧ Bl w a n xs ∧ ∀ ad, a = some ad → B ≤ ad.block := by
  rcases h.2 with ⟨rfl, h0⟩ | ⟨g, cap, cur, e, hB, hg, h1, h2, _, _⟩
  · subst h0
    exact ⟨none, 0, rfl, ⟨hn, .inl rfl⟩, fun ad e => by cases e⟩
  · refine ⟨_, _, e, ⟨hn, .inr ⟨g, 0, rfl, fun i hi => ?_⟩⟩, fun ad q => by cases q; exact hB⟩
    have hx : (cb12 xs)[i]? = some (.bool (xs.getD i false)) := by
      simp [cb12, List.getD, show i < xs.length by omega]
    have := h.cells (g := g) (by rw [e]; rfl) i _ hx
    rw [Addr.add_lit] at this
    exact this
/-- What a step with the power failing leaves. -/
theorem ev_ap {T : Tp} (ho : T.op = false) (hl : T.lg ≠ none) (d : List Int) : ((apT T d).lg ≠ none ∧ (apT T d).op = false) ∨ ((apT T d).lg = none ∧ (apT T d).op = true ∧ (apT T d).A = T.A) := by
  unfold apT
  split
  · exact .inl ⟨hl, ho⟩
  · split
    · exact .inl ⟨hl, ho⟩
    · split
      · exact .inl ⟨hl, ho⟩
      · split
        · exact .inl ⟨by simp, ho⟩
        · exact .inr ⟨rfl, rfl, rfl⟩
theorem ev_ck {T : Tp} (ho : T.op = false) (hl : T.lg ≠ none) (d : List Int) : ((ckT T d).lg ≠ none ∧ (ckT T d).op = false) ∨ ((ckT T d).lg = none ∧ (ckT T d).op = true ∧ (ckT T d).A = T.A) := by
  unfold ckT
  split
  · exact .inl ⟨hl, ho⟩
  · split
    · exact .inl ⟨hl, ho⟩
    · split
      · exact .inl ⟨hl, ho⟩
      · split
        · exact .inl ⟨by simp, ho⟩
        · exact .inr ⟨rfl, rfl, rfl⟩
theorem ev_step {T T' : Tp} {K : Int} {dat : List Int} {fs : List (Int × Int)} {ks : List Bool} (ho : T.op = false) (hl : T.lg ≠ none) (hK : K = 4 ∨ K = 6) (h : Ts K dat fs ks T T') : (T'.lg ≠ none ∧ T'.op = false) ∨ (T'.lg = none ∧ T'.op = true ∧ T'.A = T.A) := by
  rcases h with ⟨q, _⟩ | ⟨q, _⟩ | ⟨_, d, hb, _, rfl⟩ | ⟨_, d, hb, _, rfl⟩ | ⟨q, _⟩ | ⟨q, _⟩ | ⟨q, _⟩
  · omega
  · omega
  · exact ev_ap ho hl d
  · exact ev_ck ho hl d
  · omega
  · omega
  · omega
/-- The account ahead, in a variable of its own. -/
def Ah (gA : Nat) (s x : Value) (a : Ac) : Ex := ⟨fun w R => Ar w R s x a ∧ w.heap[gA]? = some (.cells #[s, x] 39 (0, 0)) ∧ ¬ R gA, fun {w w' R R'} h _ hs hr => by
  obtain ⟨h1, h2, h3⟩ := h
  have hlt : gA < w.heap.size := (Array.getElem?_eq_some_iff.1 h2).1
  exact ⟨h1.step hs hr, (hs gA hlt h3).trans h2, fun q => h3 (hr gA hlt q)⟩⟩
/-- What is told, beside what is sure, what may be, and what was ahead. -/
theorem Tw.three {w0 w : World} {t gA : Nat} {T : Tp} {sA xA : Value} {aA : Ac} (h : Tw (Ah gA sA xA aA) w0 w t T) : ∃ l v1 v2 v5 v6 v3 v4, w.cell? ⟨t, 1, none⟩ = some l ∧ w.cell? ⟨t, 3, none⟩ = some v1 ∧ w.cell? ⟨t, 4, none⟩ = some v2 ∧ w.cell? ⟨t, 6, none⟩ = some v5 ∧ w.cell? ⟨t, 7, none⟩ = some v6 ∧ w.cell? ⟨t, 8, none⟩ = some v3 ∧ w.cell? ⟨t, 9, none⟩ = some v4 ∧ w.cell? ⟨gA, 0, none⟩ = some sA ∧ w.cell? ⟨gA, 1, none⟩ = some xA ∧
    (∀ wx, Bw w wx → Calls Tryz.prog 14 #[.agg #[v3, v4], .agg #[v1, v2]] wx fun en w' => en = .returned (.bool (decide (T.T = T.A))) ∧ Bw w w') ∧ (∀ wx, Bw w wx → Calls Tryz.prog 14 #[.agg #[v3, v4], .agg #[sA, xA]] wx fun en w' => en = .returned (.bool (decide (T.T = aA))) ∧ Bw w w') ∧ (∀ wx, Bw w wx → Calls Tryz.prog 14 #[.agg #[v3, v4], .agg #[v5, v6]] wx fun en w' => en = .returned (.bool (decide (T.T = T.M))) ∧ Bw w w') := by
  obtain ⟨d, g, l, Q, R, s1, x1, s2, x2, s3, x3, H⟩ := h
  obtain ⟨hA, hG, _⟩ := H.ex
  obtain ⟨b3, n3, m3, ta3, k3, tc3, vs3, e3, f3, bs3, hm3, tx3, _⟩ := H.a3.form
  have key : ∀ (v u : Value) (a : Ac), Ar w R v u a → ∀ wx, Bw w wx → Calls Tryz.prog 14 #[.agg #[s3, x3], .agg #[v, u]] wx fun en w' => en = .returned (.bool (decide (T.T = a))) ∧ Bw w w' := fun v u a ha wx hx => by
    obtain ⟨b1, n1, m1, ta1, k1, tc1, vs1, e1, f1, bs1, hm1, tx1, _⟩ := ha.form
    subst e1 f1 e3 f3
    refine (same_ wx b3 n3 m3 T.T.1 ta3 k3 tc3 T.T.2 b1 n1 m1 a.1 ta1 k1 tc1 a.2 (bs3.below hx) (tx3.below hx) (bs1.below hx) (tx1.below hx) hm3 hm1).mono ?_
    rintro en w' ⟨rfl, hb⟩
    refine ⟨?_, hx.on hb⟩
    have : (T.T = a) ↔ (T.T.1 = a.1 ∧ T.T.2 = a.2) := ⟨fun q => by rw [q]; exact ⟨rfl, rfl⟩, fun q => Prod.ext q.1 q.2⟩
    simp only [this]
  exact ⟨_, _, _, _, _, _, _, H.tn.cell 1, H.tn.cell 3, H.tn.cell 4, H.tn.cell 6, H.tn.cell 7, H.tn.cell 8, H.tn.cell 9, (cell_of_row _ _ 0 _ _ (0, 0) hG).trans rfl, (cell_of_row _ _ 1 _ _ (0, 0) hG).trans rfl, key _ _ _ H.a1, key _ _ _ hA, key _ _ _ H.a2⟩

/-- append of numbers that can be read to an empty list of one's own. -/
theorem wpList_appU0 {w : World} {ops : Array Oper} {rest : List Oper} {o : Oper} {act : Act} {Q : Exit → Act → World → Prop} (hgd : o.guard = none) (s x : Operand)
    (ho : o.op = .call { callee := .builtin .append, args := #[s, x], argTypes := #[44, 44] })
    (ad : Addr) (k c : Nat) (l : List Int) (hs : act.eval s = .slice (some ⟨w.heap.size, 0, none⟩) 0 0) (hx : act.eval x = .slice (some ad) k c) (hl : l.length = k) (hk : k ≤ 6) (hc : ∀ i, i < k → w.cell? (ad.add i) = some (.int .u64 (l.getD i 0)))
    (h : ∀ v' w', w'.ownsRow w.heap.size 45 1 v' k (cu12 l) → Below w.heap.size w w' → wpList Tryz.prog ops Q rest (act.put o.dst v') w') : wpList Tryz.prog ops Q (o :: rest) act (w.alloc (.cells #[] 45)) := by
  obtain ⟨i, hi, hz0, hz1, hz2⟩ := info_parts infoU64
  have hown : (w.alloc (.cells #[] 45)).ownsRow w.heap.size 45 1 (.slice (some ⟨w.heap.size, 0, none⟩) 0 0) 0 [] := ⟨rfl, .inr ⟨w.heap.size, 0, #[], rfl, Nat.le_refl _, World.alloc_heap_new w _, Nat.le_refl _, Nat.zero_le _, rfl, rfl⟩⟩
  refine wpList_append_own _ hgd s x 44 ho w.heap.size 45 i _ 1 8 Tryz.underlying44 hi hz0 hz1 hz2 rfl (by decide) _ 0 [] hs hown ad k c (cu12 l) hx (by simp [hl]) (fun j u hj => ?_) (fun u hu => ?_) (by unfold maxLen; omega) (by omega) (by simp) ?_
  · have hj' : j < l.length := by have := (List.getElem?_eq_some_iff.1 hj).1; simpa using this
    have h1 := hc j (by omega)
    have h2 : u = .int .u64 (l.getD j 0) := by
      simp [cu12, List.getElem?_eq_getElem hj'] at hj
      rw [← hj]
      simp [List.getD, List.getElem?_eq_getElem hj']
    rw [h2]
    exact (((Below.refl w.heap.size w).alloc (Nat.le_refl _) _).cell (World.block_lt_of_cell? _ _ h1)).trans h1
  · obtain ⟨z, _, rfl⟩ := List.mem_map.1 hu
    rfl
  · intro v' w' h1 h2 _
    rw [Nat.zero_add, List.nil_append] at h1
    refine h v' w' h1 (below_appL ((Below.refl _ _).alloc (Nat.le_refl _) _) hown h2 (by simp))
/-- append of two numbers more. -/
theorem wpList_appU2 {B : Nat} {wr : World} {ops : Array Oper} {rest : List Oper} {o : Oper} {act : Act} {Q : Exit → Act → World → Prop} (hgd : o.guard = none) (s x : Operand)
    (ho : o.op = .call { callee := .builtin .append, args := #[s, x], argTypes := #[44, 44] })
    (v : Value) (k : Nat) (l : List Int) (X Y : Int) (hs : act.eval s = v) (hown : wr.ownsRow B 45 1 v k (cu12 l)) (hx : act.eval x = .slice (some ⟨wr.heap.size, 0, none⟩) 2 2) (hk : k ≤ 6) (hb : B ≤ wr.heap.size)
    (h : ∀ v' w', w'.ownsRow B 45 1 v' (k + 2) (cu12 (l ++ [X, Y])) → wr.grownBy w' v.ownBlock → wpList Tryz.prog ops Q rest (act.put o.dst v') w') : wpList Tryz.prog ops Q (o :: rest) act (wr.alloc (.cells #[.int .u64 X, .int .u64 Y] 45)) := by
  obtain ⟨i, hi, hz0, hz1, hz2⟩ := info_parts infoU64
  have r0 : (wr.alloc (.cells #[.int .u64 X, .int .u64 Y] 45)).heap[wr.heap.size]? = some (.cells #[.int .u64 X, .int .u64 Y] 45 (0, 0)) := World.alloc_heap_new wr _
  refine wpList_append_own _ hgd s x 44 ho B 45 i _ 1 8 Tryz.underlying44 hi hz0 hz1 hz2 rfl (by decide) v k (cu12 l) hs (World.ownsRow.alloc hown _) ⟨wr.heap.size, 0, none⟩ 2 2 [.int .u64 X, .int .u64 Y] hx rfl (fun j u hj => ?_) (by simp [Value.oneCell']) (by unfold maxLen; omega) (by omega) (by simp; omega) ?_
  · rw [Addr.add_lit, Nat.zero_add]
    match j, hj with
    | 0, hj => simp at hj; subst hj; exact (cell_of_row _ _ 0 _ _ (0, 0) r0).trans rfl
    | 1, hj => simp at hj; subst hj; exact (cell_of_row _ _ 1 _ _ (0, 0) r0).trans rfl
    | j + 2, hj => simp at hj
  · intro v' w' h1 h2 _
    have hz : (wr.alloc (.cells #[.int .u64 X, .int .u64 Y] 45)).heap.size = wr.heap.size + 1 := by simp
    refine h v' w' (by simp only [cu12, List.map_append] at h1 ⊢; exact h1) ⟨h2.os, h2.tape, h2.output, by have := h2.size; omega, fun k hk e => (h2.block k (by omega) e).trans (Below.heap_alloc _ _ _ hk)⟩
end Go.Proofs.YtblcpdffiafgnaaGreatDoor
