import Derived.Test.YtcbmgpmjnehjdaaGreatWF
import Derived.Test.YtcbmgpmjnehjdaaGreatRI
namespace Go.Proofs.YtcbmgpmjnehjdaaGreat
set_option maxRecDepth 100000
open Go.RowKit Go.Maps
set_option linter.unusedVariables false

/-! Lists of peers, of lanes, of one's own. -/
structure PD where
  ka : Option Addr
  kc : Nat
  pa : Option Addr
  pc : Nat
  s : Pr
def pdc (d : PD) : List Value := [.int .i64 d.s.K, .slice d.ka d.s.k.length d.kc, .slice d.pa d.s.ps.length d.pc]
structure LD where
  ka : Option Addr
  kc : Nat
  s : Ln
def ldc (d : LD) : List Value := [.slice d.ka d.s.k.length d.kc, .int .i64 d.s.S, .int .i64 d.s.C, .int .i64 d.s.N, .int .u64 d.s.D, .int .u64 d.s.E, .int .i64 d.s.s, .int .i64 d.s.n]
def PV (w : World) (V : Nat → Prop) (d : PD) : Prop := Vs w V d.ka d.s.k.length d.kc d.s.k ∧ Pv w V d.pa d.s.ps.length d.pc d.s.ps ∧ InI d.s.K
def LV (w : World) (V : Nat → Prop) (d : LD) : Prop := Vs w V d.ka d.s.k.length d.kc d.s.k ∧ d.s.Ok
theorem PV.step {w w' : World} {V : Nat → Prop} {d : PD} (h : PV w V d) (hk : ∀ x, x < w.heap.size → V x → w'.heap[x]? = w.heap[x]?) (hs : w.heap.size ≤ w'.heap.size) : PV w' V d := ⟨h.1.step fun x hx hv _ => hk x hx hv, h.2.1.step hk hs, h.2.2⟩
theorem PV.wide {w : World} {V V' : Nat → Prop} {d : PD} (h : PV w V d) (hV : ∀ x, x < w.heap.size → V x → V' x) : PV w V' d := ⟨h.1.wide hV, h.2.1.wide hV, h.2.2⟩
theorem LV.step {w w' : World} {V : Nat → Prop} {d : LD} (h : LV w V d) (hk : ∀ x, x < w.heap.size → V x → w'.heap[x]? = w.heap[x]?) (hs : w.heap.size ≤ w'.heap.size) : LV w' V d := ⟨h.1.step fun x hx hv _ => hk x hx hv, h.2⟩
theorem LV.wide {w : World} {V V' : Nat → Prop} {d : LD} (h : LV w V d) (hV : ∀ x, x < w.heap.size → V x → V' x) : LV w V' d := ⟨h.1.wide hV, h.2⟩
theorem Vs.andLt {w : World} {V : Nat → Prop} {a : Option Addr} {n c : Nat} {l : List Int} (h : Vs w V a n c l) : Vs w (fun x => V x ∧ x < w.heap.size) a n c l := ⟨h.bs, h.nc, h.cm, h.nil, fun ad e hn => ⟨h.lies ad e hn, (h.bs.at_block e hn).1⟩⟩
theorem Pv.andLt {w : World} {V : Nat → Prop} {a : Option Addr} {n c : Nat} {l : List Px} (h : Pv w V a n c l) : Pv w (fun x => V x ∧ x < w.heap.size) a n c l := ⟨h.ps, h.nc, h.cm, h.nil, fun ad e hn => ⟨⟨(h.lies ad e hn).1, (h.lies ad e hn).2⟩, (h.lies ad e hn).2⟩⟩
theorem PV.andLt {w : World} {V : Nat → Prop} {d : PD} (h : PV w V d) : PV w (fun x => V x ∧ x < w.heap.size) d := ⟨h.1.andLt, h.2.1.andLt, h.2.2⟩
theorem LV.andLt {w : World} {V : Nat → Prop} {d : LD} (h : LV w V d) : LV w (fun x => V x ∧ x < w.heap.size) d := ⟨h.1.andLt, h.2⟩
def pds (ds : List PD) : List Value := ds.flatMap pdc
theorem pds_length : ∀ ds : List PD, (pds ds).length = ds.length * 3
  | [] => rfl
  | d :: ds => by
    have := pds_length ds
    unfold pds at this ⊢
    rw [List.flatMap_cons, List.length_append, this]
    simp [pdc]
    omega
theorem pds_app (a b : List PD) : pds (a ++ b) = pds a ++ pds b := by simp [pds]
theorem pds_one (ds : List PD) : ∀ v ∈ pds ds, v.oneCell' = true := by
  intro v hv
  obtain ⟨d, _, hd⟩ := List.mem_flatMap.1 hv
  simp only [pdc, List.mem_cons, List.not_mem_nil, or_false] at hd
  first | (rcases hd with rfl | rfl | rfl <;> rfl) | (rcases hd with rfl | rfl | rfl | rfl | rfl | rfl | rfl | rfl <;> rfl)
theorem pds_get : ∀ (ds : List PD) (i : Nat) (hi : i < ds.length) (j : Nat), j < 3 → (pds ds)[i * 3 + j]? = (pdc ds[i])[j]?
  | d :: ds, 0, _, j, hj => by
    unfold pds
    rw [List.flatMap_cons, Nat.zero_mul, Nat.zero_add, List.getElem?_append_left (by simp [pdc]; omega)]
    rfl
  | d :: ds, i + 1, hi, j, hj => by
    have ih := pds_get ds i (by simpa using hi) j hj
    unfold pds at ih ⊢
    rw [List.flatMap_cons, List.getElem?_append_right (by simp [pdc]; omega)]
    have e : (i + 1) * 3 + j - (pdc d).length = i * 3 + j := by simp [pdc]; omega
    rw [e, ih]
    rfl
def lds (ds : List LD) : List Value := ds.flatMap ldc
theorem lds_length : ∀ ds : List LD, (lds ds).length = ds.length * 8
  | [] => rfl
  | d :: ds => by
    have := lds_length ds
    unfold lds at this ⊢
    rw [List.flatMap_cons, List.length_append, this]
    simp [ldc]
    omega
theorem lds_app (a b : List LD) : lds (a ++ b) = lds a ++ lds b := by simp [lds]
theorem lds_one (ds : List LD) : ∀ v ∈ lds ds, v.oneCell' = true := by
  intro v hv
  obtain ⟨d, _, hd⟩ := List.mem_flatMap.1 hv
  simp only [ldc, List.mem_cons, List.not_mem_nil, or_false] at hd
  first | (rcases hd with rfl | rfl | rfl <;> rfl) | (rcases hd with rfl | rfl | rfl | rfl | rfl | rfl | rfl | rfl <;> rfl)
theorem lds_get : ∀ (ds : List LD) (i : Nat) (hi : i < ds.length) (j : Nat), j < 8 → (lds ds)[i * 8 + j]? = (ldc ds[i])[j]?
  | d :: ds, 0, _, j, hj => by
    unfold lds
    rw [List.flatMap_cons, Nat.zero_mul, Nat.zero_add, List.getElem?_append_left (by simp [ldc]; omega)]
    rfl
  | d :: ds, i + 1, hi, j, hj => by
    have ih := lds_get ds i (by simpa using hi) j hj
    unfold lds at ih ⊢
    rw [List.flatMap_cons, List.getElem?_append_right (by simp [ldc]; omega)]
    have e : (i + 1) * 8 + j - (ldc d).length = i * 8 + j := by simp [ldc]; omega
    rw [e, ih]
    rfl
theorem infoPe : (Tryz.prog.info? 57).map (fun i => (i.zero, i.size, i.bytes)) = some (some (.agg #[.int .i64 0, .slice none 0 0, .slice none 0 0]), 3, 56) := by kernel_rfl
theorem infoLn : (Tryz.prog.info? 64).map (fun i => (i.zero, i.size, i.bytes)) = some (some (.agg #[.slice none 0 0, .int .i64 0, .int .i64 0, .int .i64 0, .int .u64 0, .int .u64 0, .int .i64 0, .int .i64 0]), 8, 80) := by kernel_rfl
/-- One more behind a list of one's own. -/
theorem wpList_appPeer {w : World} {ops : Array Oper} {rest : List Oper} {o : Oper} {act : Act} {Q : Exit → Act → World → Prop} (hgd : o.guard = none) (s x : Operand)
    (ho : o.op = .call { callee := .builtin .append, args := #[s, x], argTypes := #[23, 23] })
    (base : Nat) (v : Value) (ds : List PD) (hs : act.eval s = v) (hown : w.ownsRow base 57 3 v ds.length (pds ds)) (g : Nat) (d : PD) (hx : act.eval x = .slice (some ⟨g, 0, none⟩) 1 1)
    (hg : ∀ j u, (pdc d)[j]? = some u → w.cell? ⟨g, j, none⟩ = some u) (hlen : ds.length ≤ 1000000000) (hbase : base ≤ w.heap.size)
    (h : ∀ v' w', w'.ownsRow base 57 3 v' (ds ++ [d]).length (pds (ds ++ [d])) → w.grownBy w' v.ownBlock → (v'.ownBlock = v.ownBlock ∨ v'.ownBlock = some w.heap.size) → wpList Tryz.prog ops Q rest (act.put o.dst v') w') : wpList Tryz.prog ops Q (o :: rest) act w := by
  obtain ⟨i, hi, hz0, hz1, hz2⟩ := info_parts infoPe
  refine wpList_append_own_at _ hgd s x 23 ho base 57 i _ 3 56 Tryz.underlying23 hi hz0 hz1 hz2 rfl (by decide) v ds.length (pds ds) hs hown ⟨g, 0, none⟩ 1 1 (pdc d) hx rfl ?c1 ?c2 (by unfold maxLen; omega) (by omega) hbase ?_
  case c1 =>
    intro j u hj
    rw [Addr.add_lit, Nat.zero_add]
    exact hg j u hj
  case c2 =>
    intro u hu
    exact pds_one [d] u (by simpa [pds] using hu)
  intro v' w' h1 h2 _ h4
  refine h v' w' ?_ h2 h4
  rw [List.length_append, List.length_singleton, pds_app]
  simpa [pds] using h1
/-- One more behind a list of one's own. -/
theorem wpList_appLane {w : World} {ops : Array Oper} {rest : List Oper} {o : Oper} {act : Act} {Q : Exit → Act → World → Prop} (hgd : o.guard = none) (s x : Operand)
    (ho : o.op = .call { callee := .builtin .append, args := #[s, x], argTypes := #[24, 24] })
    (base : Nat) (v : Value) (ds : List LD) (hs : act.eval s = v) (hown : w.ownsRow base 64 8 v ds.length (lds ds)) (g : Nat) (d : LD) (hx : act.eval x = .slice (some ⟨g, 0, none⟩) 1 1)
    (hg : ∀ j u, (ldc d)[j]? = some u → w.cell? ⟨g, j, none⟩ = some u) (hlen : ds.length ≤ 1000000000) (hbase : base ≤ w.heap.size)
    (h : ∀ v' w', w'.ownsRow base 64 8 v' (ds ++ [d]).length (lds (ds ++ [d])) → w.grownBy w' v.ownBlock → (v'.ownBlock = v.ownBlock ∨ v'.ownBlock = some w.heap.size) → wpList Tryz.prog ops Q rest (act.put o.dst v') w') : wpList Tryz.prog ops Q (o :: rest) act w := by
  obtain ⟨i, hi, hz0, hz1, hz2⟩ := info_parts infoLn
  refine wpList_append_own_at _ hgd s x 24 ho base 64 i _ 8 80 Tryz.underlying24 hi hz0 hz1 hz2 rfl (by decide) v ds.length (lds ds) hs hown ⟨g, 0, none⟩ 1 1 (ldc d) hx rfl ?c1 ?c2 (by unfold maxLen; omega) (by omega) hbase ?_
  case c1 =>
    intro j u hj
    rw [Addr.add_lit, Nat.zero_add]
    exact hg j u hj
  case c2 =>
    intro u hu
    exact lds_one [d] u (by simpa [lds] using hu)
  intro v' w' h1 h2 _ h4
  refine h v' w' ?_ h2 h4
  rw [List.length_append, List.length_singleton, lds_app]
  simpa [lds] using h1
theorem mem_getD {α : Type} {l : List α} {j : Nat} (d : α) (h : j < l.length) : l.getD j d ∈ l := by
  rw [show l.getD j d = l[j] from by simp [List.getD, h]]
  exact List.getElem_mem h
theorem Pls.ofOwn {w : World} {B : Nat} {V : Nat → Prop} {v : Value} {ds : List PD} (h : w.ownsRow B 57 3 v ds.length (pds ds)) (hV : ∀ d ∈ ds, PV w V d) : ∃ a c, v = .slice a ds.length c ∧ Pls w a ds.length (ds.map (·.s)) ∧ ds.length ≤ c ∧ c ≤ maxLen ∧ (a = none → c = 0) := by
  obtain ⟨a, c, rfl, h1, h2, h3, h4⟩ := own_addr h
  refine ⟨a, c, rfl, ⟨by simp, ?_⟩, h1, h2, h3⟩
  rcases h4 with ⟨_, h0⟩ | ⟨g, rfl, hg, _, hc⟩
  · exact .inl h0
  · refine .inr ⟨g, 0, rfl, fun i hi => ?_⟩
    have e : (ds.map (·.s)).getD i pr0 = ds[i].s := by simp [List.getD, hi]
    have hd := hV ds[i] (List.getElem_mem hi)
    rw [e, Nat.zero_add]
    exact ⟨ds[i].ka, ds[i].kc, ds[i].pa, ds[i].pc, ⟨hc _ _ (pds_get ds i hi 0 (by decide)), hc _ _ (pds_get ds i hi 1 (by decide)), hc _ _ (pds_get ds i hi 2 (by decide))⟩, hd.1.bs, hd.2.1.ps, Nat.le_trans hd.1.nc hd.1.cm, Nat.le_trans hd.2.1.nc hd.2.1.cm, hd.2.2⟩
theorem Lls.ofOwn {w : World} {B : Nat} {V : Nat → Prop} {v : Value} {ds : List LD} (h : w.ownsRow B 64 8 v ds.length (lds ds)) (hV : ∀ d ∈ ds, LV w V d) : ∃ a c, v = .slice a ds.length c ∧ Lls w a ds.length (ds.map (·.s)) ∧ ds.length ≤ c ∧ c ≤ maxLen ∧ (a = none → c = 0) := by
  obtain ⟨a, c, rfl, h1, h2, h3, h4⟩ := own_addr h
  refine ⟨a, c, rfl, ⟨by simp, ?_⟩, h1, h2, h3⟩
  rcases h4 with ⟨_, h0⟩ | ⟨g, rfl, hg, _, hc⟩
  · exact .inl h0
  · refine .inr ⟨g, 0, rfl, fun i hi => ?_⟩
    have e : (ds.map (·.s)).getD i ln0 = ds[i].s := by simp [List.getD, hi]
    have hd := hV ds[i] (List.getElem_mem hi)
    rw [e, Nat.zero_add]
    exact ⟨ds[i].ka, ds[i].kc, ⟨hc _ _ (lds_get ds i hi 0 (by decide)), hc _ _ (lds_get ds i hi 1 (by decide)), hc _ _ (lds_get ds i hi 2 (by decide)), hc _ _ (lds_get ds i hi 3 (by decide)), hc _ _ (lds_get ds i hi 4 (by decide)), hc _ _ (lds_get ds i hi 5 (by decide)), hc _ _ (lds_get ds i hi 6 (by decide)), hc _ _ (lds_get ds i hi 7 (by decide))⟩, hd.1.bs, Nat.le_trans hd.1.nc hd.1.cm, hd.2⟩
/-- What is gathered since w. -/
structure Pw (w wr : World) (v : Value) (ds : List PD) : Prop where
  own : wr.ownsRow w.heap.size 57 3 v ds.length (pds ds)
  sv : ∀ d ∈ ds, PV wr (fun x => w.heap.size ≤ x ∧ v.ownBlock ≠ some x) d
  bel : Below w.heap.size w wr
theorem Pw.nil (w : World) : Pw w w (.slice none 0 0) [] := ⟨World.ownsRow_nil _ _ _ _, fun d hd => by simp at hd, Below.refl _ _⟩
theorem Pw.below {w wr w2 : World} {v : Value} {ds : List PD} (h : Pw w wr v ds) (hb : Below wr.heap.size wr w2) : Pw w w2 v ds := ⟨own_bel h.own hb, fun d hd => (h.sv d hd).step (fun x hx _ => hb.block x hx) hb.size, bel_bel h.bel h.bel.size hb⟩
theorem Pw.app {w w3 w5 : World} {v v5 : Value} {ds : List PD} {d : PD} {o : Obj} (h : Pw w w3 v ds) (hd : PV w3 (fun x => w.heap.size ≤ x ∧ v.ownBlock ≠ some x) d) (ho : w5.ownsRow w.heap.size 57 3 v5 (ds ++ [d]).length (pds (ds ++ [d]))) (hg : (w3.alloc o).grownBy w5 v.ownBlock) (hl : v5.ownBlock = v.ownBlock ∨ v5.ownBlock = some (w3.alloc o).heap.size) : Pw w w5 v5 (ds ++ [d]) := by
  have hB := (Below.refl w3.heap.size w3).alloc (Nat.le_refl _) o
  have hown : ∀ q, v.ownBlock = some q → w.heap.size ≤ q := fun q e => (h.own.lt q e).1
  have hsa : (w3.alloc o).heap.size = w3.heap.size + 1 := by simp
  refine ⟨ho, ?_, (h.bel.alloc h.bel.size o).grown hg (by rw [hsa]; have := h.bel.size; omega) (fun q e => hown q e)⟩
  have hst : ∀ {d : PD}, PV w3 (fun x => w.heap.size ≤ x ∧ v.ownBlock ≠ some x) d → PV w5 (fun x => w.heap.size ≤ x ∧ v5.ownBlock ≠ some x) d := fun {d} h => by
    have ha : PV w5 _ d := h.andLt.step (w' := w5) (fun x hx hx' => (hg.block x (by rw [hsa]; omega) (fun e => hx'.1.2 e.symm)).trans (hB.block x hx)) (by have := hg.size; rw [hsa] at this; omega)
    refine ha.wide fun x _ hx => ⟨hx.1.1, fun e => ?_⟩
    rcases hl with h | h
    · exact hx.1.2 (by rw [← h]; exact e)
    · rw [h, hsa] at e
      have := Option.some.inj e
      omega
  intro d' hd'
  rcases List.mem_append.1 hd' with hd' | hd'
  · exact hst (h.sv d' hd')
  · rw [List.mem_singleton] at hd'
    subst hd'
    exact hst hd
/-- What is gathered since w. -/
structure Lw (w wr : World) (v : Value) (ds : List LD) : Prop where
  own : wr.ownsRow w.heap.size 64 8 v ds.length (lds ds)
  sv : ∀ d ∈ ds, LV wr (fun x => w.heap.size ≤ x ∧ v.ownBlock ≠ some x) d
  bel : Below w.heap.size w wr
theorem Lw.nil (w : World) : Lw w w (.slice none 0 0) [] := ⟨World.ownsRow_nil _ _ _ _, fun d hd => by simp at hd, Below.refl _ _⟩
theorem Lw.below {w wr w2 : World} {v : Value} {ds : List LD} (h : Lw w wr v ds) (hb : Below wr.heap.size wr w2) : Lw w w2 v ds := ⟨own_bel h.own hb, fun d hd => (h.sv d hd).step (fun x hx _ => hb.block x hx) hb.size, bel_bel h.bel h.bel.size hb⟩
theorem Lw.app {w w3 w5 : World} {v v5 : Value} {ds : List LD} {d : LD} {o : Obj} (h : Lw w w3 v ds) (hd : LV w3 (fun x => w.heap.size ≤ x ∧ v.ownBlock ≠ some x) d) (ho : w5.ownsRow w.heap.size 64 8 v5 (ds ++ [d]).length (lds (ds ++ [d]))) (hg : (w3.alloc o).grownBy w5 v.ownBlock) (hl : v5.ownBlock = v.ownBlock ∨ v5.ownBlock = some (w3.alloc o).heap.size) : Lw w w5 v5 (ds ++ [d]) := by
  have hB := (Below.refl w3.heap.size w3).alloc (Nat.le_refl _) o
  have hown : ∀ q, v.ownBlock = some q → w.heap.size ≤ q := fun q e => (h.own.lt q e).1
  have hsa : (w3.alloc o).heap.size = w3.heap.size + 1 := by simp
  refine ⟨ho, ?_, (h.bel.alloc h.bel.size o).grown hg (by rw [hsa]; have := h.bel.size; omega) (fun q e => hown q e)⟩
  have hst : ∀ {d : LD}, LV w3 (fun x => w.heap.size ≤ x ∧ v.ownBlock ≠ some x) d → LV w5 (fun x => w.heap.size ≤ x ∧ v5.ownBlock ≠ some x) d := fun {d} h => by
    have ha : LV w5 _ d := h.andLt.step (w' := w5) (fun x hx hx' => (hg.block x (by rw [hsa]; omega) (fun e => hx'.1.2 e.symm)).trans (hB.block x hx)) (by have := hg.size; rw [hsa] at this; omega)
    refine ha.wide fun x _ hx => ⟨hx.1.1, fun e => ?_⟩
    rcases hl with h | h
    · exact hx.1.2 (by rw [← h]; exact e)
    · rw [h, hsa] at e
      have := Option.some.inj e
      omega
  intro d' hd'
  rcases List.mem_append.1 hd' with hd' | hd'
  · exact hst (h.sv d' hd')
  · rw [List.mem_singleton] at hd'
    subst hd'
    exact hst hd
end Go.Proofs.YtcbmgpmjnehjdaaGreat
namespace Go.Proofs.YtcbmgpmjnehjdaaGreat
set_option maxRecDepth 100000
open Go.RowKit Go.Maps
set_option linter.unusedVariables false

set_option maxHeartbeats 2000000 in
/-- The document's Peers: the same ones in new memory. -/
theorem peers_ (a : Option Addr) (n c : Nat) (l : List Pr) (w : World) (hl : Pls w a n l) (hn : n ≤ 1000000) (hb : ∀ x ∈ l, x.k.length ≤ 140737488351232 ∧ x.ps.length ≤ 1000000) :
    Calls Tryz.prog 14 #[.slice a n c] w fun e w' => ∃ v ds, e = .returned v ∧ Pw w w' v ds ∧ ds.map (·.s) = l := by
  have hlen := hl.len
  have HL := hid hl
  have HB := hid hb
  clear hl hb
  go_enter Tryz.func14, Tryz.ntmps14
  go_wp2_with fail
  go_loopw [3, 4] (fun v i wr => ∃ (j : Nat) (ds : List PD), j ≤ n ∧ i = .int .i64 j ∧ Hid (Pw w wr v ds) ∧ Hid (ds.map (·.s) = l.take j)) (fun _ i _ => n - (intOf i).toNat)
  case atStart => exact ⟨0, [], by omega, rfl, Pw.nil w, rfl⟩
  case round =>
    obtain ⟨j, ds, hj, rfl, HR, HD⟩ := hrel
    by_cases hlt : j < n
    · have hjI : (j : Int) < n := by omega
      obtain ⟨b, off, rfl, hc⟩ : ∃ b off, a = some ⟨b, off, none⟩ ∧ ∀ i, i < n → PeerAt wr b (off + i * 3) (l.getD i pr0) := by
        rcases (HL.out.on HR.out.bel).at' with h0 | h1
        · omega
        · exact h1
      have hx := hc j hlt
      have HT := hid (take_Pls (l := l) (j := j) (by omega))
      have HDL : Hid (ds.length ≤ 1000000000) := by
        have h1 := congrArg List.length HD.out
        rw [List.length_map, List.length_take] at h1
        show _ ≤ _
        omega
      have hbx := HB.out _ (mem_getD (l := l) (j := j) pr0 (by omega))
      obtain ⟨x, HX⟩ : ∃ x, Hid (l.getD j pr0 = x) := ⟨_, rfl⟩
      rw [HX.out] at hx HT hbx
      clear hc
      obtain ⟨K, k, ps⟩ := x
      obtain ⟨ka, kc, pa, pc, ⟨c0, c1, c2⟩, hk, hp, h1, h2, h3⟩ := hx
      simp only at c0 c1 c2 hk hp h1 h2 h3 hbx
      have kp := refPeer_ K ka pa k.length kc ps.length pc k ps wr hk hp hbx.1 hbx.2
      obtain ⟨kl, Hkl⟩ : ∃ z : Nat, Hid (k.length = z) := ⟨_, rfl⟩
      obtain ⟨pl, Hpl⟩ : ∃ z : Nat, Hid (ps.length = z) := ⟨_, rfl⟩
      rw [Hkl.out, Hpl.out] at kp
      rw [Hkl.out] at c1
      rw [Hpl.out] at c2
      have HI := hid h3
      clear hk hp h1 h2 h3 hbx
      go_wp2_with fail
      clear c0 c1 c2
      refine kp.mono ?_
      rintro e y1 ⟨kb, kc1, pb, pc1, rfl, vk, vp, g1⟩
      have HR1 := hid (HR.out.below g1)
      have HSZ : Hid (w.heap.size ≤ wr.heap.size) := HR.out.bel.size
      have HOW := hid HR.out.own.lt
      clear kp HR
      have HR2 := hid (HR1.out.below (bel_al y1 (.cells #[.int .i64 K, .slice kb kl kc1, .slice pb pl pc1] 57)))
      have HRD : Hid (PV (y1.alloc (.cells #[.int .i64 K, .slice kb kl kc1, .slice pb pl pc1] 57)) (fun x => w.heap.size ≤ x ∧ u3.ownBlock ≠ some x) ⟨kb, kc1, pb, pc1, ⟨K, k, ps⟩⟩) := by
        have hw : ∀ y, y < y1.heap.size → wr.heap.size ≤ y → w.heap.size ≤ y ∧ u3.ownBlock ≠ some y := fun y _ hy => ⟨by have := HSZ.out; omega, fun f => by have := (HOW.out y f).2; omega⟩
        refine ⟨?_, ?_, HI.out⟩
        · show Vs _ _ kb k.length kc1 k
          rw [Hkl.out]
          exact (vk.wide hw).step fun x hx _ _ => (bel_al y1 _).block x hx
        · show Pv _ _ pb ps.length pc1 ps
          rw [Hpl.out]
          exact (vp.wide hw).on (bel_al y1 _)
      clear vk vp HR1 g1
      have m2 := heap_alloc_new y1 (.cells #[.int .i64 K, .slice kb kl kc1, .slice pb pl pc1] 57)
      have z0 : (y1.alloc (.cells #[.int .i64 K, .slice kb kl kc1, .slice pb pl pc1] 57)).cell? ⟨y1.heap.size, 0, none⟩ = some (.int .i64 K) := by rw [cell_of_row _ _ 0 _ _ (0, 0) m2]; rfl
      have z1 : (y1.alloc (.cells #[.int .i64 K, .slice kb kl kc1, .slice pb pl pc1] 57)).cell? ⟨y1.heap.size, 1, none⟩ = some (.slice kb kl kc1) := by rw [cell_of_row _ _ 1 _ _ (0, 0) m2]; rfl
      have z2 : (y1.alloc (.cells #[.int .i64 K, .slice kb kl kc1, .slice pb pl pc1] 57)).cell? ⟨y1.heap.size, 2, none⟩ = some (.slice pb pl pc1) := by rw [cell_of_row _ _ 2 _ _ (0, 0) m2]; rfl
      clear m2
      obtain ⟨y2, HY2⟩ : ∃ y, Hid (y1.alloc (.cells #[.int .i64 K, .slice kb kl kc1, .slice pb pl pc1] 57) = y) := ⟨_, rfl⟩
      obtain ⟨g2, Hg2⟩ : ∃ g, Hid (y1.heap.size = g) := ⟨_, rfl⟩
      rw [HY2.out] at HR2 HRD z0 z1 z2
      rw [Hg2.out] at z0 z1 z2
      have HNW : Hid (∀ i u, (pdc ⟨kb, kc1, pb, pc1, ⟨K, k, ps⟩⟩)[i]? = some u → (y2.alloc (.cells #[.int .i64 K, .slice kb kl kc1, .slice pb pl pc1] 57)).cell? ⟨y2.heap.size, i, none⟩ = some u) := fun i u hi => by
        rw [cell_of_row _ y2.heap.size i _ 57 (0, 0) (heap_alloc_new y2 _)]
        simp only [pdc, Hkl.out, Hpl.out] at hi
        simpa using hi
      have HO6 := hid (HR2.out.own.alloc (.cells #[.int .i64 K, .slice kb kl kc1, .slice pb pl pc1] 57))
      have HBZ : Hid (w.heap.size ≤ (y2.alloc (.cells #[.int .i64 K, .slice kb kl kc1, .slice pb pl pc1] 57)).heap.size) := by have := HR2.out.bel.size; show _ ≤ _; simp; omega
      go_upto_region 6 with fail
      rw [HY2.out, Hg2.out]
      clear HY2
      go_wp2_with (first | (at_builtin; refine wpList_appPeer rfl _ _ rfl w.heap.size u3 ds rfl (by exact HO6.out) y2.heap.size ⟨kb, kc1, pb, pc1, ⟨K, k, ps⟩⟩ rfl (by exact HNW.out) HDL.out HBZ.out ?_; intro v7 w7 o7 g7 l7; have HO7 := hid (HR2.out.app HRD.out o7 g7 l7); clear o7 g7 l7 HNW) | fail)
      go_roundw
      case rel => exact ⟨j + 1, ds ++ [⟨kb, kc1, pb, pc1, ⟨K, k, ps⟩⟩], by omega, by go_num, HO7, by show _ = _; rw [HT.out, List.map_append, HD.out]; rfl⟩
      case measure => simp [intOf]; omega
    · have hjI : ¬ (j : Int) < n := by omega
      obtain rfl : j = n := by omega
      rw [List.take_of_length_le (by omega)] at HD
      go_wp2_with fail
      go_ret
      first | exact ⟨_, ds, rfl, HR.out, HD.out⟩ | exact ⟨_, rfl, ds, HR.out, HD.out⟩
set_option maxHeartbeats 2000000 in
/-- The document's Lanes: the same ones in new memory. -/
theorem lanes_ (a : Option Addr) (n c : Nat) (l : List Ln) (w : World) (hl : Lls w a n l) (hn : n ≤ 1000000) (hb : ∀ x ∈ l, x.k.length ≤ 140737488351232) :
    Calls Tryz.prog 15 #[.slice a n c] w fun e w' => ∃ v ds, e = .returned v ∧ Lw w w' v ds ∧ ds.map (·.s) = l := by
  have hlen := hl.len
  have HL := hid hl
  have HB := hid hb
  clear hl hb
  go_enter Tryz.func15, Tryz.ntmps15
  go_wp2_with fail
  go_loopw [3, 4] (fun v i wr => ∃ (j : Nat) (ds : List LD), j ≤ n ∧ i = .int .i64 j ∧ Hid (Lw w wr v ds) ∧ Hid (ds.map (·.s) = l.take j)) (fun _ i _ => n - (intOf i).toNat)
  case atStart => exact ⟨0, [], by omega, rfl, Lw.nil w, rfl⟩
  case round =>
    obtain ⟨j, ds, hj, rfl, HR, HD⟩ := hrel
    by_cases hlt : j < n
    · have hjI : (j : Int) < n := by omega
      obtain ⟨b, off, rfl, hc⟩ : ∃ b off, a = some ⟨b, off, none⟩ ∧ ∀ i, i < n → LaneAt wr b (off + i * 8) (l.getD i ln0) := by
        rcases (HL.out.on HR.out.bel).at' with h0 | h1
        · omega
        · exact h1
      have hx := hc j hlt
      have HT := hid (take_Lls (l := l) (j := j) (by omega))
      have HDL : Hid (ds.length ≤ 1000000000) := by
        have h1 := congrArg List.length HD.out
        rw [List.length_map, List.length_take] at h1
        show _ ≤ _
        omega
      have hbx := HB.out _ (mem_getD (l := l) (j := j) ln0 (by omega))
      obtain ⟨x, HX⟩ : ∃ x, Hid (l.getD j ln0 = x) := ⟨_, rfl⟩
      rw [HX.out] at hx HT hbx
      clear hc
      obtain ⟨k, S, C, N, D, E, s, nn⟩ := x
      obtain ⟨ka, kc, ⟨c0, c1, c2, c3, c4, c5, c6, c7⟩, hk, h1, h3⟩ := hx
      simp only at c0 c1 c2 c3 c4 c5 c6 c7 hk h1 h3 hbx
      have kp := refLane_ ka k.length kc k S C N D E s nn wr hk hbx
      obtain ⟨kl, Hkl⟩ : ∃ z : Nat, Hid (k.length = z) := ⟨_, rfl⟩
      rw [Hkl.out] at kp c0
      have HI := hid h3
      clear hk h1 h3 hbx
      go_wp2_with fail
      clear c0 c1 c2 c3 c4 c5 c6 c7
      refine kp.mono ?_
      rintro e y1 ⟨kb, kc1, rfl, vk, g1⟩
      have HR1 := hid (HR.out.below g1)
      have HSZ : Hid (w.heap.size ≤ wr.heap.size) := HR.out.bel.size
      have HOW := hid HR.out.own.lt
      clear kp HR
      have HR2 := hid (HR1.out.below (bel_al y1 (.cells #[.slice kb kl kc1, .int .i64 S, .int .i64 C, .int .i64 N, .int .u64 D, .int .u64 E, .int .i64 s, .int .i64 nn] 64)))
      have HRD : Hid (LV (y1.alloc (.cells #[.slice kb kl kc1, .int .i64 S, .int .i64 C, .int .i64 N, .int .u64 D, .int .u64 E, .int .i64 s, .int .i64 nn] 64)) (fun x => w.heap.size ≤ x ∧ u3.ownBlock ≠ some x) ⟨kb, kc1, ⟨k, S, C, N, D, E, s, nn⟩⟩) := by
        have hw : ∀ y, y < y1.heap.size → wr.heap.size ≤ y → w.heap.size ≤ y ∧ u3.ownBlock ≠ some y := fun y _ hy => ⟨by have := HSZ.out; omega, fun f => by have := (HOW.out y f).2; omega⟩
        refine ⟨?_, HI.out⟩
        show Vs _ _ kb k.length kc1 k
        rw [Hkl.out]
        exact (vk.wide hw).step fun x hx _ _ => (bel_al y1 _).block x hx
      clear vk HR1 g1
      have m2 := heap_alloc_new y1 (.cells #[.slice kb kl kc1, .int .i64 S, .int .i64 C, .int .i64 N, .int .u64 D, .int .u64 E, .int .i64 s, .int .i64 nn] 64)
      have z0 : (y1.alloc (.cells #[.slice kb kl kc1, .int .i64 S, .int .i64 C, .int .i64 N, .int .u64 D, .int .u64 E, .int .i64 s, .int .i64 nn] 64)).cell? ⟨y1.heap.size, 0, none⟩ = some (.slice kb kl kc1) := by rw [cell_of_row _ _ 0 _ _ (0, 0) m2]; rfl
      have z1 : (y1.alloc (.cells #[.slice kb kl kc1, .int .i64 S, .int .i64 C, .int .i64 N, .int .u64 D, .int .u64 E, .int .i64 s, .int .i64 nn] 64)).cell? ⟨y1.heap.size, 1, none⟩ = some (.int .i64 S) := by rw [cell_of_row _ _ 1 _ _ (0, 0) m2]; rfl
      have z2 : (y1.alloc (.cells #[.slice kb kl kc1, .int .i64 S, .int .i64 C, .int .i64 N, .int .u64 D, .int .u64 E, .int .i64 s, .int .i64 nn] 64)).cell? ⟨y1.heap.size, 2, none⟩ = some (.int .i64 C) := by rw [cell_of_row _ _ 2 _ _ (0, 0) m2]; rfl
      have z3 : (y1.alloc (.cells #[.slice kb kl kc1, .int .i64 S, .int .i64 C, .int .i64 N, .int .u64 D, .int .u64 E, .int .i64 s, .int .i64 nn] 64)).cell? ⟨y1.heap.size, 3, none⟩ = some (.int .i64 N) := by rw [cell_of_row _ _ 3 _ _ (0, 0) m2]; rfl
      have z4 : (y1.alloc (.cells #[.slice kb kl kc1, .int .i64 S, .int .i64 C, .int .i64 N, .int .u64 D, .int .u64 E, .int .i64 s, .int .i64 nn] 64)).cell? ⟨y1.heap.size, 4, none⟩ = some (.int .u64 D) := by rw [cell_of_row _ _ 4 _ _ (0, 0) m2]; rfl
      have z5 : (y1.alloc (.cells #[.slice kb kl kc1, .int .i64 S, .int .i64 C, .int .i64 N, .int .u64 D, .int .u64 E, .int .i64 s, .int .i64 nn] 64)).cell? ⟨y1.heap.size, 5, none⟩ = some (.int .u64 E) := by rw [cell_of_row _ _ 5 _ _ (0, 0) m2]; rfl
      have z6 : (y1.alloc (.cells #[.slice kb kl kc1, .int .i64 S, .int .i64 C, .int .i64 N, .int .u64 D, .int .u64 E, .int .i64 s, .int .i64 nn] 64)).cell? ⟨y1.heap.size, 6, none⟩ = some (.int .i64 s) := by rw [cell_of_row _ _ 6 _ _ (0, 0) m2]; rfl
      have z7 : (y1.alloc (.cells #[.slice kb kl kc1, .int .i64 S, .int .i64 C, .int .i64 N, .int .u64 D, .int .u64 E, .int .i64 s, .int .i64 nn] 64)).cell? ⟨y1.heap.size, 7, none⟩ = some (.int .i64 nn) := by rw [cell_of_row _ _ 7 _ _ (0, 0) m2]; rfl
      clear m2
      obtain ⟨y2, HY2⟩ : ∃ y, Hid (y1.alloc (.cells #[.slice kb kl kc1, .int .i64 S, .int .i64 C, .int .i64 N, .int .u64 D, .int .u64 E, .int .i64 s, .int .i64 nn] 64) = y) := ⟨_, rfl⟩
      obtain ⟨g2, Hg2⟩ : ∃ g, Hid (y1.heap.size = g) := ⟨_, rfl⟩
      rw [HY2.out] at HR2 HRD z0 z1 z2 z3 z4 z5 z6 z7
      rw [Hg2.out] at z0 z1 z2 z3 z4 z5 z6 z7
      have HNW : Hid (∀ i u, (ldc ⟨kb, kc1, ⟨k, S, C, N, D, E, s, nn⟩⟩)[i]? = some u → (y2.alloc (.cells #[.slice kb kl kc1, .int .i64 S, .int .i64 C, .int .i64 N, .int .u64 D, .int .u64 E, .int .i64 s, .int .i64 nn] 64)).cell? ⟨y2.heap.size, i, none⟩ = some u) := fun i u hi => by
        rw [cell_of_row _ y2.heap.size i _ 64 (0, 0) (heap_alloc_new y2 _)]
        simp only [ldc, Hkl.out] at hi
        simpa using hi
      have HO6 := hid (HR2.out.own.alloc (.cells #[.slice kb kl kc1, .int .i64 S, .int .i64 C, .int .i64 N, .int .u64 D, .int .u64 E, .int .i64 s, .int .i64 nn] 64))
      have HBZ : Hid (w.heap.size ≤ (y2.alloc (.cells #[.slice kb kl kc1, .int .i64 S, .int .i64 C, .int .i64 N, .int .u64 D, .int .u64 E, .int .i64 s, .int .i64 nn] 64)).heap.size) := by have := HR2.out.bel.size; show _ ≤ _; simp; omega
      go_upto_region 6 with fail
      rw [HY2.out, Hg2.out]
      clear HY2
      go_wp2_with (first | (at_builtin; refine wpList_appLane rfl _ _ rfl w.heap.size u3 ds rfl (by exact HO6.out) y2.heap.size ⟨kb, kc1, ⟨k, S, C, N, D, E, s, nn⟩⟩ rfl (by exact HNW.out) HDL.out HBZ.out ?_; intro v7 w7 o7 g7 l7; have HO7 := hid (HR2.out.app HRD.out o7 g7 l7); clear o7 g7 l7 HNW) | fail)
      go_roundw
      case rel => exact ⟨j + 1, ds ++ [⟨kb, kc1, ⟨k, S, C, N, D, E, s, nn⟩⟩], by omega, by go_num, HO7, by show _ = _; rw [HT.out, List.map_append, HD.out]; rfl⟩
      case measure => simp [intOf]; omega
    · have hjI : ¬ (j : Int) < n := by omega
      obtain rfl : j = n := by omega
      rw [List.take_of_length_le (by omega)] at HD
      go_wp2_with fail
      go_ret
      first | exact ⟨_, ds, rfl, HR.out, HD.out⟩ | exact ⟨_, rfl, ds, HR.out, HD.out⟩
end Go.Proofs.YtcbmgpmjnehjdaaGreat
