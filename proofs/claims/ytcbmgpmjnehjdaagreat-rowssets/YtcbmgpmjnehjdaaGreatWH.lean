import Derived.Test.YtcbmgpmjnehjdaaGreatWB
import Derived.Maps.AppendAt
namespace Go.Proofs.YtcbmgpmjnehjdaaGreat
set_option maxRecDepth 100000
open Go.RowKit Go.Maps
set_option linter.unusedVariables false

/-! Lists of sets, of rows. -/
abbrev LSx := List Sx
instance : Inhabited Sx := ⟨⟨[], [], false⟩⟩
/-- A set in memory: three cells. -/
def SetAt (w : World) (V : Nat → Prop) (b o : Nat) (s : Sx) : Prop := ∃ ka kc va vc, w.cell? ⟨b, o, none⟩ = some (.slice ka s.k.length kc) ∧ w.cell? ⟨b, o + 1, none⟩ = some (.slice va s.v.length vc) ∧ w.cell? ⟨b, o + 2, none⟩ = some (.bool s.g) ∧ Vs w V ka s.k.length kc s.k ∧ Vs w V va s.v.length vc s.v
structure Sl (w : World) (V : Nat → Prop) (a : Option Addr) (n : Nat) (l : List Sx) : Prop where
  len : l.length = n
  cells : n = 0 ∨ ∃ b off, a = some ⟨b, off, none⟩ ∧ V b ∧ ∀ i, i < n → SetAt w V b (off + i * 3) (l.getD i default)
def RowAt (w : World) (V : Nat → Prop) (b o : Nat) (p : List Int × List Int) : Prop := ∃ ka kc va vc, w.cell? ⟨b, o, none⟩ = some (.slice ka p.1.length kc) ∧ w.cell? ⟨b, o + 1, none⟩ = some (.slice va p.2.length vc) ∧ Vs w V ka p.1.length kc p.1 ∧ Vs w V va p.2.length vc p.2
structure Rwl (w : World) (V : Nat → Prop) (a : Option Addr) (n : Nat) (l : Tab) : Prop where
  len : l.length = n
  cells : n = 0 ∨ ∃ b off, a = some ⟨b, off, none⟩ ∧ V b ∧ ∀ i, i < n → RowAt w V b (off + i * 2) (l.getD i ([], []))
theorem cell_not_map {w : World} {b o : Nat} {v : Value} (h : w.cell? ⟨b, o, none⟩ = some v) (es : Array MapEntry) (cl : Nat) : w.heap[b]? ≠ some (.map es cl) := by
  intro e
  simp [World.cell?, e] at h
theorem SetAt.step {w w' : World} {V : Nat → Prop} {b o : Nat} {s : Sx} (h : SetAt w V b o s) (hb : V b) (hk : ∀ x, x < w.heap.size → V x → (∀ es cl, w.heap[x]? ≠ some (.map es cl)) → w'.heap[x]? = w.heap[x]?) : SetAt w' V b o s := by
  obtain ⟨ka, kc, va, vc, h1, h2, h3, h4, h5⟩ := h
  have e := hk b (World.block_lt_of_cell? w _ h1) hb (cell_not_map h1)
  have k : ∀ o, w'.cell? ⟨b, o, none⟩ = w.cell? ⟨b, o, none⟩ := fun o => World.cell?_of_block (w := w) (a := ⟨b, o, none⟩) e
  exact ⟨ka, kc, va, vc, by rw [k]; exact h1, by rw [k]; exact h2, by rw [k]; exact h3, h4.step hk, h5.step hk⟩
theorem RowAt.step {w w' : World} {V : Nat → Prop} {b o : Nat} {s : List Int × List Int} (h : RowAt w V b o s) (hb : V b) (hk : ∀ x, x < w.heap.size → V x → (∀ es cl, w.heap[x]? ≠ some (.map es cl)) → w'.heap[x]? = w.heap[x]?) : RowAt w' V b o s := by
  obtain ⟨ka, kc, va, vc, h1, h2, h4, h5⟩ := h
  have e := hk b (World.block_lt_of_cell? w _ h1) hb (cell_not_map h1)
  have k : ∀ o, w'.cell? ⟨b, o, none⟩ = w.cell? ⟨b, o, none⟩ := fun o => World.cell?_of_block (w := w) (a := ⟨b, o, none⟩) e
  exact ⟨ka, kc, va, vc, by rw [k]; exact h1, by rw [k]; exact h2, h4.step hk, h5.step hk⟩
theorem Sl.step {w w' : World} {V : Nat → Prop} {a : Option Addr} {n : Nat} {l : LSx} (h : Sl w V a n l) (hk : ∀ x, x < w.heap.size → V x → (∀ es cl, w.heap[x]? ≠ some (.map es cl)) → w'.heap[x]? = w.heap[x]?) : Sl w' V a n l := by
  refine ⟨h.len, ?_⟩
  rcases h.cells with h0 | ⟨b, off, e, hb, hc⟩
  · exact .inl h0
  · exact .inr ⟨b, off, e, hb, fun i hi => (hc i hi).step hb hk⟩
theorem Sl.below {w w' : World} {V : Nat → Prop} {a : Option Addr} {n : Nat} {l : LSx} (h : Sl w V a n l) (hg : Below w.heap.size w w') : Sl w' V a n l := h.step fun x hx _ _ => hg.block x hx
/-- It stands while a map is written. -/
theorem Sl.map {w w' : World} {V : Nat → Prop} {a : Option Addr} {n b : Nat} {l : LSx} (h : Sl w V a n l) (hg : w.grownBy w' (some b)) (hm : ∃ es cl, w.heap[b]? = some (.map es cl)) : Sl w' V a n l := h.step fun x hx _ hx' => hg.block x hx (by
    obtain ⟨es, cl, e⟩ := hm
    intro f
    obtain rfl := Option.some.inj f
    exact hx' es cl e)
theorem Rwl.step {w w' : World} {V : Nat → Prop} {a : Option Addr} {n : Nat} {l : Tab} (h : Rwl w V a n l) (hk : ∀ x, x < w.heap.size → V x → (∀ es cl, w.heap[x]? ≠ some (.map es cl)) → w'.heap[x]? = w.heap[x]?) : Rwl w' V a n l := by
  refine ⟨h.len, ?_⟩
  rcases h.cells with h0 | ⟨b, off, e, hb, hc⟩
  · exact .inl h0
  · exact .inr ⟨b, off, e, hb, fun i hi => (hc i hi).step hb hk⟩
theorem Rwl.below {w w' : World} {V : Nat → Prop} {a : Option Addr} {n : Nat} {l : Tab} (h : Rwl w V a n l) (hg : Below w.heap.size w w') : Rwl w' V a n l := h.step fun x hx _ _ => hg.block x hx
/-- It stands while a map is written. -/
theorem Rwl.map {w w' : World} {V : Nat → Prop} {a : Option Addr} {n b : Nat} {l : Tab} (h : Rwl w V a n l) (hg : w.grownBy w' (some b)) (hm : ∃ es cl, w.heap[b]? = some (.map es cl)) : Rwl w' V a n l := h.step fun x hx _ hx' => hg.block x hx (by
    obtain ⟨es, cl, e⟩ := hm
    intro f
    obtain rfl := Option.some.inj f
    exact hx' es cl e)
theorem SetAt.wide {w : World} {V V' : Nat → Prop} {b o : Nat} {s : Sx} (h : SetAt w V b o s) (hV : ∀ x, x < w.heap.size → V x → V' x) : SetAt w V' b o s := by
  obtain ⟨ka, kc, va, vc, h1, h2, h3, h4, h5⟩ := h
  exact ⟨ka, kc, va, vc, h1, h2, h3, h4.wide hV, h5.wide hV⟩
theorem RowAt.wide {w : World} {V V' : Nat → Prop} {b o : Nat} {s : List Int × List Int} (h : RowAt w V b o s) (hV : ∀ x, x < w.heap.size → V x → V' x) : RowAt w V' b o s := by
  obtain ⟨ka, kc, va, vc, h1, h2, h4, h5⟩ := h
  exact ⟨ka, kc, va, vc, h1, h2, h4.wide hV, h5.wide hV⟩
theorem SetAt.lt {w : World} {V : Nat → Prop} {b o : Nat} {s : Sx} (h : SetAt w V b o s) : b < w.heap.size := by
  obtain ⟨ka, kc, va, vc, h1, _⟩ := h
  exact World.block_lt_of_cell? w _ h1
theorem RowAt.lt {w : World} {V : Nat → Prop} {b o : Nat} {s : List Int × List Int} (h : RowAt w V b o s) : b < w.heap.size := by
  obtain ⟨ka, kc, va, vc, h1, _⟩ := h
  exact World.block_lt_of_cell? w _ h1
theorem Sl.wide {w : World} {V V' : Nat → Prop} {a : Option Addr} {n : Nat} {l : LSx} (h : Sl w V a n l) (hV : ∀ x, x < w.heap.size → V x → V' x) : Sl w V' a n l := by
  refine ⟨h.len, ?_⟩
  rcases h.cells with h0 | ⟨b, off, e, hb, hc⟩
  · exact .inl h0
  · by_cases h0 : n = 0
    · exact .inl h0
    · exact .inr ⟨b, off, e, hV b (hc 0 (by omega)).lt hb, fun i hi => (hc i hi).wide hV⟩
theorem Rwl.wide {w : World} {V V' : Nat → Prop} {a : Option Addr} {n : Nat} {l : Tab} (h : Rwl w V a n l) (hV : ∀ x, x < w.heap.size → V x → V' x) : Rwl w V' a n l := by
  refine ⟨h.len, ?_⟩
  rcases h.cells with h0 | ⟨b, off, e, hb, hc⟩
  · exact .inl h0
  · by_cases h0 : n = 0
    · exact .inl h0
    · exact .inr ⟨b, off, e, hV b (hc 0 (by omega)).lt hb, fun i hi => (hc i hi).wide hV⟩
theorem SetAt.okS {w : World} {V : Nat → Prop} {b o : Nat} {s : Sx} (h : SetAt w V b o s) : OkS s := by
  obtain ⟨ka, kc, va, vc, h1, h2, h3, h4, h5⟩ := h
  exact ⟨h4.bs.2.1, h5.bs.2.1⟩
theorem Sl.okS {w : World} {V : Nat → Prop} {a : Option Addr} {n : Nat} {l : List Sx} (h : Sl w V a n l) : ∀ s ∈ l, OkS s := by
  intro s hs
  obtain ⟨i, hi, rfl⟩ := List.mem_iff_getElem.1 hs
  have hl := h.len
  rcases h.cells with h0 | ⟨b, off, e, hb, hc⟩
  · omega
  · have := (hc i (by omega)).okS
    simpa [List.getD, hi] using this
end Go.Proofs.YtcbmgpmjnehjdaaGreat
namespace Go.Proofs.YtcbmgpmjnehjdaaGreat
set_option maxRecDepth 100000
open Go.RowKit Go.Maps
set_option linter.unusedVariables false

/-! Rows of sets, of rows, of one's own. -/
structure SD where
  ka : Option Addr
  kc : Nat
  va : Option Addr
  vc : Nat
  s : Sx
def sdc (d : SD) : List Value := [.slice d.ka d.s.k.length d.kc, .slice d.va d.s.v.length d.vc, .bool d.s.g]
structure RD where
  ka : Option Addr
  kc : Nat
  va : Option Addr
  vc : Nat
  s : List Int × List Int
def rdc (d : RD) : List Value := [.slice d.ka d.s.1.length d.kc, .slice d.va d.s.2.length d.vc]
def SV (w : World) (V : Nat → Prop) (d : SD) : Prop := Vs w V d.ka d.s.k.length d.kc d.s.k ∧ Vs w V d.va d.s.v.length d.vc d.s.v
def RV2 (w : World) (V : Nat → Prop) (d : RD) : Prop := Vs w V d.ka d.s.1.length d.kc d.s.1 ∧ Vs w V d.va d.s.2.length d.vc d.s.2
theorem SV.step {w w' : World} {V : Nat → Prop} {d : SD} (h : SV w V d) (hk : ∀ x, x < w.heap.size → V x → (∀ es cl, w.heap[x]? ≠ some (.map es cl)) → w'.heap[x]? = w.heap[x]?) : SV w' V d := ⟨h.1.step hk, h.2.step hk⟩
theorem SV.below {w w' : World} {V : Nat → Prop} {d : SD} (h : SV w V d) (hg : Below w.heap.size w w') : SV w' V d := h.step fun x hx _ _ => hg.block x hx
theorem SV.wide {w : World} {V V' : Nat → Prop} {d : SD} (h : SV w V d) (hV : ∀ x, x < w.heap.size → V x → V' x) : SV w V' d := ⟨h.1.wide hV, h.2.wide hV⟩
theorem RV2.step {w w' : World} {V : Nat → Prop} {d : RD} (h : RV2 w V d) (hk : ∀ x, x < w.heap.size → V x → (∀ es cl, w.heap[x]? ≠ some (.map es cl)) → w'.heap[x]? = w.heap[x]?) : RV2 w' V d := ⟨h.1.step hk, h.2.step hk⟩
theorem RV2.below {w w' : World} {V : Nat → Prop} {d : RD} (h : RV2 w V d) (hg : Below w.heap.size w w') : RV2 w' V d := h.step fun x hx _ _ => hg.block x hx
theorem RV2.wide {w : World} {V V' : Nat → Prop} {d : RD} (h : RV2 w V d) (hV : ∀ x, x < w.heap.size → V x → V' x) : RV2 w V' d := ⟨h.1.wide hV, h.2.wide hV⟩
def sds (ds : List SD) : List Value := ds.flatMap sdc
theorem sds_length : ∀ ds : List SD, (sds ds).length = ds.length * 3
  | [] => rfl
  | d :: ds => by
    have := sds_length ds
    unfold sds at this ⊢
    rw [List.flatMap_cons, List.length_append, this]
    simp [sdc]
    omega
theorem sds_app (a b : List SD) : sds (a ++ b) = sds a ++ sds b := by simp [sds]
theorem sds_one (ds : List SD) : ∀ v ∈ sds ds, v.oneCell' = true := by
  intro v hv
  obtain ⟨d, _, hd⟩ := List.mem_flatMap.1 hv
  simp [sdc] at hd
  rcases hd with rfl | hd
  · rfl
  · first | (rcases hd with rfl | rfl <;> rfl) | (subst hd; rfl)
theorem sds_get : ∀ (ds : List SD) (i : Nat) (hi : i < ds.length) (j : Nat), j < 3 → (sds ds)[i * 3 + j]? = (sdc ds[i])[j]?
  | d :: ds, 0, _, j, hj => by
    unfold sds
    rw [List.flatMap_cons, Nat.zero_mul, Nat.zero_add, List.getElem?_append_left (by simp [sdc]; omega)]
    rfl
  | d :: ds, i + 1, hi, j, hj => by
    have ih := sds_get ds i (by simpa using hi) j hj
    unfold sds at ih ⊢
    rw [List.flatMap_cons, List.getElem?_append_right (by simp [sdc]; omega)]
    have e : (i + 1) * 3 + j - (sdc d).length = i * 3 + j := by simp [sdc]; omega
    rw [e, ih]
    rfl
def rds (ds : List RD) : List Value := ds.flatMap rdc
theorem rds_length : ∀ ds : List RD, (rds ds).length = ds.length * 2
  | [] => rfl
  | d :: ds => by
    have := rds_length ds
    unfold rds at this ⊢
    rw [List.flatMap_cons, List.length_append, this]
    simp [rdc]
    omega
theorem rds_app (a b : List RD) : rds (a ++ b) = rds a ++ rds b := by simp [rds]
theorem rds_one (ds : List RD) : ∀ v ∈ rds ds, v.oneCell' = true := by
  intro v hv
  obtain ⟨d, _, hd⟩ := List.mem_flatMap.1 hv
  simp [rdc] at hd
  rcases hd with rfl | hd
  · rfl
  · first | (rcases hd with rfl | rfl <;> rfl) | (subst hd; rfl)
theorem rds_get : ∀ (ds : List RD) (i : Nat) (hi : i < ds.length) (j : Nat), j < 2 → (rds ds)[i * 2 + j]? = (rdc ds[i])[j]?
  | d :: ds, 0, _, j, hj => by
    unfold rds
    rw [List.flatMap_cons, Nat.zero_mul, Nat.zero_add, List.getElem?_append_left (by simp [rdc]; omega)]
    rfl
  | d :: ds, i + 1, hi, j, hj => by
    have ih := rds_get ds i (by simpa using hi) j hj
    unfold rds at ih ⊢
    rw [List.flatMap_cons, List.getElem?_append_right (by simp [rdc]; omega)]
    have e : (i + 1) * 2 + j - (rdc d).length = i * 2 + j := by simp [rdc]; omega
    rw [e, ih]
    rfl
theorem infoS : (Tryz.prog.info? 99).map (fun i => (i.zero, i.size, i.bytes)) = some (some (.agg #[.slice none 0 0, .slice none 0 0, .bool false]), 3, 56) := by kernel_rfl
theorem infoR : (Tryz.prog.info? 54).map (fun i => (i.zero, i.size, i.bytes)) = some (some (.agg #[.slice none 0 0, .slice none 0 0]), 2, 48) := by kernel_rfl
/-- One more behind a row of one's own. -/
theorem wpList_appSet {w : World} {ops : Array Oper} {rest : List Oper} {o : Oper} {act : Act} {Q : Exit → Act → World → Prop} (hgd : o.guard = none) (s x : Operand)
    (ho : o.op = .call { callee := .builtin .append, args := #[s, x], argTypes := #[38, 38] })
    (base : Nat) (v : Value) (ds : List SD) (hs : act.eval s = v) (hown : w.ownsRow base 99 3 v ds.length (sds ds)) (g : Nat) (d : SD) (hx : act.eval x = .slice (some ⟨g, 0, none⟩) 1 1)
    (hg : ∀ j u, (sdc d)[j]? = some u → w.cell? ⟨g, j, none⟩ = some u) (hlen : ds.length ≤ 1000000000) (hbase : base ≤ w.heap.size)
    (h : ∀ v' w', w'.ownsRow base 99 3 v' (ds ++ [d]).length (sds (ds ++ [d])) → w.grownBy w' v.ownBlock → (v'.ownBlock = v.ownBlock ∨ v'.ownBlock = some w.heap.size) → wpList Tryz.prog ops Q rest (act.put o.dst v') w') : wpList Tryz.prog ops Q (o :: rest) act w := by
  obtain ⟨i, hi, hz0, hz1, hz2⟩ := info_parts infoS
  refine wpList_append_own_at _ hgd s x 38 ho base 99 i _ 3 56 Tryz.underlying38 hi hz0 hz1 hz2 rfl (by decide) v ds.length (sds ds) hs hown ⟨g, 0, none⟩ 1 1 (sdc d) hx rfl ?c1 ?c2 (by unfold maxLen; omega) (by omega) hbase ?_
  case c1 =>
    intro j u hj
    rw [Addr.add_lit, Nat.zero_add]
    exact hg j u hj
  case c2 =>
    intro u hu
    exact sds_one [d] u (by simpa [sds] using hu)
  intro v' w' h1 h2 _ h4
  refine h v' w' ?_ h2 h4
  rw [List.length_append, List.length_singleton, sds_app]
  simpa [sds] using h1
/-- One more behind a row of one's own. -/
theorem wpList_appRow {w : World} {ops : Array Oper} {rest : List Oper} {o : Oper} {act : Act} {Q : Exit → Act → World → Prop} (hgd : o.guard = none) (s x : Operand)
    (ho : o.op = .call { callee := .builtin .append, args := #[s, x], argTypes := #[22, 22] })
    (base : Nat) (v : Value) (ds : List RD) (hs : act.eval s = v) (hown : w.ownsRow base 54 2 v ds.length (rds ds)) (g : Nat) (d : RD) (hx : act.eval x = .slice (some ⟨g, 0, none⟩) 1 1)
    (hg : ∀ j u, (rdc d)[j]? = some u → w.cell? ⟨g, j, none⟩ = some u) (hlen : ds.length ≤ 1000000000) (hbase : base ≤ w.heap.size)
    (h : ∀ v' w', w'.ownsRow base 54 2 v' (ds ++ [d]).length (rds (ds ++ [d])) → w.grownBy w' v.ownBlock → (v'.ownBlock = v.ownBlock ∨ v'.ownBlock = some w.heap.size) → wpList Tryz.prog ops Q rest (act.put o.dst v') w') : wpList Tryz.prog ops Q (o :: rest) act w := by
  obtain ⟨i, hi, hz0, hz1, hz2⟩ := info_parts infoR
  refine wpList_append_own_at _ hgd s x 22 ho base 54 i _ 2 48 Tryz.underlying22 hi hz0 hz1 hz2 rfl (by decide) v ds.length (rds ds) hs hown ⟨g, 0, none⟩ 1 1 (rdc d) hx rfl ?c1 ?c2 (by unfold maxLen; omega) (by omega) hbase ?_
  case c1 =>
    intro j u hj
    rw [Addr.add_lit, Nat.zero_add]
    exact hg j u hj
  case c2 =>
    intro u hu
    exact rds_one [d] u (by simpa [rds] using hu)
  intro v' w' h1 h2 _ h4
  refine h v' w' ?_ h2 h4
  rw [List.length_append, List.length_singleton, rds_app]
  simpa [rds] using h1
theorem own_addr {w : World} {base e sz n : Nat} {v : Value} {xs : List Value} (h : w.ownsRow base e sz v n xs) : ∃ a c, v = .slice a n c ∧ n ≤ c ∧ c ≤ maxLen ∧ (a = none → c = 0) ∧ ((a = none ∧ n = 0) ∨ ∃ g, a = some ⟨g, 0, none⟩ ∧ base ≤ g ∧ g < w.heap.size ∧ ∀ j u, xs[j]? = some u → w.cell? ⟨g, j, none⟩ = some u) := by
  obtain ⟨h1, h2⟩ := h
  rcases h2 with ⟨rfl, rfl⟩ | ⟨g, cap, cur, rfl, hb, hg, hnc, hcm, hs, ht⟩
  · exact ⟨none, 0, rfl, Nat.le_refl _, by unfold maxLen; omega, fun _ => rfl, .inl ⟨rfl, rfl⟩⟩
  · refine ⟨_, cap, rfl, hnc, hcm, fun e => (by cases e), .inr ⟨g, rfl, hb, (Array.getElem?_eq_some_iff.1 hg).1, fun j u hu => ?_⟩⟩
    rw [cell_of_row w g j cur _ (0, 0) hg]
    rw [← ht, List.getElem?_take] at hu
    split at hu
    · simpa using hu
    · cases hu
theorem Sl.ofOwn {w : World} {B : Nat} {V : Nat → Prop} {v : Value} {ds : List SD} (h : w.ownsRow B 99 3 v ds.length (sds ds)) (hV : ∀ d ∈ ds, SV w V d) (hB : ∀ x, B ≤ x → V x) : ∃ a c, v = .slice a ds.length c ∧ Sl w V a ds.length (ds.map (·.s)) ∧ ds.length ≤ c ∧ c ≤ maxLen ∧ (a = none → c = 0) := by
  obtain ⟨a, c, rfl, h1, h2, h3, h4⟩ := own_addr h
  refine ⟨a, c, rfl, ⟨by simp, ?_⟩, h1, h2, h3⟩
  rcases h4 with ⟨_, h0⟩ | ⟨g, rfl, hg, _, hc⟩
  · exact .inl h0
  · refine .inr ⟨g, 0, rfl, hB g hg, fun i hi => ?_⟩
    have e : (ds.map (·.s)).getD i default = ds[i].s := by simp [List.getD, hi]
    have hd := hV ds[i] (List.getElem_mem hi)
    rw [e, Nat.zero_add]
    refine ⟨ds[i].ka, ds[i].kc, ds[i].va, ds[i].vc, hc _ _ ?_, hc _ _ ?_, hc _ _ ?_, hd.1, hd.2⟩
    · exact sds_get ds i hi 0 (by decide)
    · exact sds_get ds i hi 1 (by decide)
    · exact sds_get ds i hi 2 (by decide)
theorem Rwl.ofOwn {w : World} {B : Nat} {V : Nat → Prop} {v : Value} {ds : List RD} (h : w.ownsRow B 54 2 v ds.length (rds ds)) (hV : ∀ d ∈ ds, RV2 w V d) (hB : ∀ x, B ≤ x → V x) : ∃ a c, v = .slice a ds.length c ∧ Rwl w V a ds.length (ds.map (·.s)) ∧ ds.length ≤ c ∧ c ≤ maxLen ∧ (a = none → c = 0) := by
  obtain ⟨a, c, rfl, h1, h2, h3, h4⟩ := own_addr h
  refine ⟨a, c, rfl, ⟨by simp, ?_⟩, h1, h2, h3⟩
  rcases h4 with ⟨_, h0⟩ | ⟨g, rfl, hg, _, hc⟩
  · exact .inl h0
  · refine .inr ⟨g, 0, rfl, hB g hg, fun i hi => ?_⟩
    have e : (ds.map (·.s)).getD i ([], []) = ds[i].s := by simp [List.getD, hi]
    have hd := hV ds[i] (List.getElem_mem hi)
    rw [e, Nat.zero_add]
    refine ⟨ds[i].ka, ds[i].kc, ds[i].va, ds[i].vc, hc _ _ ?_, hc _ _ ?_, hd.1, hd.2⟩
    · exact rds_get ds i hi 0 (by decide)
    · exact rds_get ds i hi 1 (by decide)
end Go.Proofs.YtcbmgpmjnehjdaaGreat
