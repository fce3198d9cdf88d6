import Derived.Test.YthflghjmpellpaaABytes
import Derived.Test.YthflghjmpellpaaSMath
import Derived.Laws.ResultCell
import Derived.Laws.Tables
import Derived.Deep.AppendLies
import Derived.Deep.AppendSrc
import Derived.Deep.RegionHeld
import Derived.BigQuiet
import Derived.Deep.DrawnRows
namespace Go.Proofs.Ythflghjmpellpaa
set_option maxRecDepth 100000
open Go.RowKit
set_option linter.unusedVariables false

/-! Bytes that can be read, and written. -/
def Okb (l : List Int) : Prop := ∀ z ∈ l, 0 ≤ z ∧ z ≤ 255
/-- A value in memory that nobody writes. -/
structure Vs (w : World) (V : Nat → Prop) (a : Option Addr) (n c : Nat) (v : List Int) : Prop where
  bs : Bs w a n v
  nc : n ≤ c
  cm : c ≤ maxLen
  nil : a = none → c = 0
  lies : ∀ ad, a = some ad → 0 < n → V ad.block
theorem Bs.at_block {w : World} {a : Option Addr} {n : Nat} {v : List Int} (h : Bs w a n v) {ad : Addr} (e : a = some ad) (hn : 0 < n) : ad.block < w.heap.size ∧ ∀ es cl, w.heap[ad.block]? ≠ some (.map es cl) := by
  rcases h.2.2 with h0 | ⟨b, off, rfl, hc⟩
  · omega
  · obtain rfl := Option.some.inj e
    refine ⟨World.block_lt_of_cell? w _ (hc 0 hn), fun es cl he => ?_⟩
    have := hc 0 hn
    simp [World.cell?, he] at this
theorem Bs.same_block {w w' : World} {a : Option Addr} {n : Nat} {v : List Int} (h : Bs w a n v) (hk : ∀ ad, a = some ad → 0 < n → w'.heap[ad.block]? = w.heap[ad.block]?) : Bs w' a n v := by
  refine ⟨h.1, h.2.1, ?_⟩
  rcases h.2.2 with h0 | ⟨b, off, rfl, hc⟩
  · exact .inl h0
  · by_cases h0 : n = 0
    · exact .inl h0
    · refine .inr ⟨b, off, rfl, fun i hi => ?_⟩
      rw [← hc i hi]
      exact World.cell?_of_block (w := w) (a := ⟨b, off + i, none⟩) (hk ⟨b, off, none⟩ rfl (by omega))
theorem Vs.step {w w' : World} {V : Nat → Prop} {a : Option Addr} {n c : Nat} {v : List Int} (h : Vs w V a n c v) (hk : ∀ x, x < w.heap.size → V x → (∀ es cl, w.heap[x]? ≠ some (.map es cl)) → w'.heap[x]? = w.heap[x]?) : Vs w' V a n c v :=
  ⟨h.bs.same_block fun ad e hn => hk _ (h.bs.at_block e hn).1 (h.lies ad e hn) (h.bs.at_block e hn).2, h.nc, h.cm, h.nil, h.lies⟩
theorem Vs.wide {w : World} {V V' : Nat → Prop} {a : Option Addr} {n c : Nat} {v : List Int} (h : Vs w V a n c v) (hV : ∀ x, x < w.heap.size → V x → V' x) : Vs w V' a n c v :=
  ⟨h.bs, h.nc, h.cm, h.nil, fun ad e hn => hV _ (h.bs.at_block e hn).1 (h.lies ad e hn)⟩
theorem Vs.ofOwn {w : World} {B n : Nat} {v : Value} {zs : List Int} (h : w.ownsRow B 5 1 v n (cells zs)) (hb : Okb zs) : ∃ a c, v = .slice a n c ∧ Vs w (fun x => B ≤ x) a n c zs := by
  obtain ⟨a, cap, rfl, h1, h2, h3, h4⟩ := own_form h hb
  refine ⟨a, cap, rfl, h1, h2, h3, h4, fun ad e hn => ?_⟩
  obtain ⟨g, cap', e', _, _, hg, _⟩ := own_head h hn
  obtain ⟨rfl, _⟩ : a = some ⟨g, 0, none⟩ ∧ cap = cap' := by simpa using e'
  obtain rfl := Option.some.inj e
  exact hg
theorem vs_none (w : World) (V : Nat → Prop) : Vs w V none 0 0 [] := ⟨⟨rfl, by simp, .inl rfl⟩, Nat.le_refl _, by unfold maxLen; omega, fun _ => rfl, fun ad e => by cases e⟩
theorem Vs.own {W : World} {B n : Nat} {v : Value} {zs : List Int} (h : W.ownsRow B 5 1 v n (cells zs)) (hb : Okb zs) : ∃ a c, v = .slice a n c ∧ Vs W (fun x => v.ownBlock = some x) a n c zs := by
  obtain ⟨a, c, rfl, hv⟩ := Vs.ofOwn h hb
  refine ⟨a, c, rfl, hv.bs, hv.nc, hv.cm, hv.nil, fun ad e hn => ?_⟩
  obtain ⟨g, cap', e', _⟩ := own_head h hn
  obtain ⟨rfl, rfl⟩ : a = some ⟨g, 0, none⟩ ∧ c = cap' := by simpa using e'
  obtain rfl := Option.some.inj e
  rfl
theorem own_monoT {w : World} {B B' n sz e : Nat} {v : Value} {xs : List Value} (h : w.ownsRow B e sz v n xs) (hb : B' ≤ B) : w.ownsRow B' e sz v n xs := by
  obtain ⟨h1, h2⟩ := h
  refine ⟨h1, ?_⟩
  rcases h2 with h2 | ⟨g, cap, cur, e, hg, r⟩
  · exact .inl h2
  · exact .inr ⟨g, cap, cur, e, Nat.le_trans hb hg, r⟩
theorem Vs.lift {w w' : World} {V V' : Nat → Prop} {a : Option Addr} {n c : Nat} {v : List Int} (h : Vs w V a n c v) (hb : Below w.heap.size w w') (hV : ∀ x, x < w.heap.size → V x → V' x) : Vs w' V' a n c v := (h.wide hV).step fun x hx _ _ => hb.block x hx
theorem Vs.cut {w : World} {V : Nat → Prop} {a : Option Addr} {n c m d : Nat} {zs : List Int} (h : Vs w V a n c zs) (hm : m ≤ n) (hd : m ≤ d) (hdc : d ≤ c) : Vs w V a m d (zs.take m) := by
  refine ⟨⟨by rw [List.length_take, h.bs.1]; omega, fun z hz => h.bs.2.1 z (List.mem_of_mem_take hz), ?_⟩, hd, Nat.le_trans hdc h.cm, fun e => by have := h.nil e; omega, fun ad e h0 => h.lies ad e (by omega)⟩
  rcases h.bs.2.2 with h0 | ⟨b, off, e, hc⟩
  · exact .inl (by omega)
  · refine .inr ⟨b, off, e, fun i hi => ?_⟩
    rw [hc i (by omega)]
    simp [List.getD, hi]
theorem below_drew (w : World) : Below w.heap.size w w.drew := ⟨rfl, rfl, rfl, Nat.le_refl _, fun _ _ => rfl⟩
theorem bs_lit (w : World) (zs : List Int) (fl : Nat × Nat) (hb : Okb zs) : Bs (w.alloc (.cells (cells zs).toArray 5 fl)) (some ⟨w.heap.size, 0, none⟩) zs.length zs := by
  refine ⟨rfl, hb, .inr ⟨w.heap.size, 0, rfl, fun i hi => ?_⟩⟩
  rw [Nat.zero_add, cell_of_row _ _ i _ 5 fl (heap_alloc_new w _)]
  simp [cells, List.getElem?_eq_getElem hi, List.getD]
theorem own_bel {wx wy : World} {v : Value} {n base e sz : Nat} {xs : List Value} (hown : wx.ownsRow base e sz v n xs) (g : Below wx.heap.size wx wy) : wy.ownsRow base e sz v n xs := hown.kept (grown_of_below g) (by cases v.ownBlock <;> simp)
/-- A row of bytes that may be written. -/
structure Yr (w : World) (g n : Nat) (ys : List Int) : Prop where
  blk : ∃ cur, w.heap[g]? = some (.cells cur 5 (0, 0))
  bs : Bs w (some ⟨g, 0, none⟩) n ys
theorem bs_set {w : World} {g n i : Nat} {zs : List Int} {z : Int} {cur : Array Value} (h : Bs w (some ⟨g, 0, none⟩) n zs) (hc : w.heap[g]? = some (.cells cur 5 (0, 0))) (hi : i < n) (hz : 0 ≤ z ∧ z ≤ 255) : Bs (w.setCell ⟨g, i, none⟩ (.int .u8 z)) (some ⟨g, 0, none⟩) n (zs.set i z) := by
  refine ⟨by rw [List.length_set]; exact h.1, fun y hy => ?_, .inr ⟨g, 0, rfl, fun j hj => ?_⟩⟩
  · rcases List.mem_or_eq_of_mem_set hy with h1 | rfl
    · exact h.2.1 y h1
    · exact hz
  · have hcell : ∀ j, j < n → w.cell? ⟨g, j, none⟩ = some (.int .u8 (zs.getD j 0)) := fun j hj => by
      rcases h.2.2 with h0 | ⟨b, off, e, hcc⟩
      · omega
      · simp at e
        obtain ⟨rfl, rfl⟩ := e
        have := hcc j hj
        rwa [Nat.zero_add] at this
    have hnew : (w.setCell ⟨g, i, none⟩ (.int .u8 z)).heap[g]? = some (.cells (cur.setIfInBounds i (.int .u8 z)) 5 (0, 0)) := by simp [World.setCell, Array.getElem?_modify, hc]
    have hlen := h.1
    rw [Nat.zero_add, cell_of_row _ _ j _ _ (0, 0) hnew]
    have hold := hcell j hj
    rw [cell_of_row _ _ j _ _ (0, 0) hc] at hold
    by_cases hji : j = i
    · subst hji
      have hsz := (Array.getElem?_eq_some_iff.1 hold).1
      rw [Array.getElem?_setIfInBounds_self_of_lt hsz]
      simp [List.getD, hlen, hj]
    · rw [Array.getElem?_setIfInBounds_ne (Ne.symm hji), hold]
      simp [List.getD, List.getElem?_set_ne (Ne.symm hji)]
theorem Yr.set {w : World} {g n i : Nat} {ys : List Int} {z : Int} (h : Yr w g n ys) (hi : i < n) (hz : 0 ≤ z ∧ z ≤ 255) : Yr (w.setCell ⟨g, i, none⟩ (.int .u8 z)) g n (ys.set i z) := by
  obtain ⟨cur, hc⟩ := h.blk
  exact ⟨⟨cur.setIfInBounds i (.int .u8 z), by simp [World.setCell, Array.getElem?_modify, hc]⟩, bs_set h.bs hc hi hz⟩
theorem Yr.lt {w : World} {g n : Nat} {ys : List Int} (h : Yr w g n ys) : g < w.heap.size := by
  obtain ⟨cur, hc⟩ := h.blk
  exact (Array.getElem?_eq_some_iff.1 hc).1
theorem Yr.same {w w' : World} {g n : Nat} {ys : List Int} (h : Yr w g n ys) (hk : w'.heap[g]? = w.heap[g]?) : Yr w' g n ys := by
  obtain ⟨cur, hc⟩ := h.blk
  refine ⟨⟨cur, hk.trans hc⟩, h.bs.same_block fun ad e _ => ?_⟩
  obtain rfl := Option.some.inj e
  exact hk
theorem Yr.below {w w' : World} {g n : Nat} {ys : List Int} (h : Yr w g n ys) (hb : Below w.heap.size w w') : Yr w' g n ys := h.same (hb.block g h.lt)
theorem Yr.fz {w : World} {g n : Nat} {ys : List Int} (h : Yr w g n ys) (i : Nat) : w.frozen? ⟨g, i, none⟩ = false := by
  obtain ⟨cur, hc⟩ := h.blk
  simp [World.frozen?, hc]
theorem Yr.cell {w : World} {g n : Nat} {ys : List Int} (h : Yr w g n ys) {i : Nat} (hi : i < n) : w.cell? ⟨g, i, none⟩ = some (.int .u8 (ys.getD i 0)) := by
  rcases h.bs.2.2 with h0 | ⟨b, off, e, hc⟩
  · omega
  · simp at e
    obtain ⟨rfl, rfl⟩ := e
    have := hc i hi
    rwa [Nat.zero_add] at this
theorem Yr.ofOwn {w : World} {B n : Nat} {v : Value} {ys : List Int} (h : w.ownsRow B 5 1 v n (cells ys)) (hy : Okb ys) (hn : 0 < n) : ∃ g c, v = .slice (some ⟨g, 0, none⟩) n c ∧ Yr w g n ys ∧ B ≤ g ∧ g < w.heap.size ∧ n ≤ c ∧ c ≤ maxLen := by
  obtain ⟨a, c, rfl, vs⟩ := Vs.ofOwn h hy
  rcases h.2 with ⟨e, e0⟩ | ⟨g, cap, cur, e, hh⟩
  · simp at e; omega
  · simp only [Value.slice.injEq] at e
    obtain ⟨rfl, -, rfl⟩ := e
    have hl := h.lt g rfl
    exact ⟨g, c, rfl, ⟨⟨cur, hh.2.1⟩, vs.bs⟩, hl.1, hl.2, vs.nc, vs.cm⟩
theorem Yr.vs {w : World} {g n c : Nat} {ys : List Int} (h : Yr w g n ys) (hnc : n ≤ c) (hcm : c ≤ maxLen) : Vs w (fun x => x = g) (some ⟨g, 0, none⟩) n c ys :=
  ⟨h.bs, hnc, hcm, fun e => (by cases e), fun ad e _ => (by obtain rfl := Option.some.inj e; rfl)⟩
theorem set_by (w : World) (g i : Nat) (v : Value) : w.grownBy (w.setCell ⟨g, i, none⟩ v) (some g) :=
  ⟨rfl, rfl, rfl, by simp [World.setCell], fun k _ hk => Below.heap_setCell _ _ _ _ (fun e => hk (by rw [e]))⟩
theorem by_trans {a b c : World} {g : Nat} (h : a.grownBy b (some g)) (k : b.grownBy c (some g)) : a.grownBy c (some g) := h.andThen k (fun j e => .inr e)
theorem xor_byte (z y : Int) : 0 ≤ bits BinOp.xor IntKind.u8 z y ∧ bits BinOp.xor IntKind.u8 z y ≤ 255 := by
  rw [bits.eq_3, IntKind.wrap_u8]; omega
/-- The worlds that have but grown since W. -/
def Bw (W wx : World) : Prop := Below W.heap.size W wx
theorem Bw.cell {W wx : World} (h : Bw W wx) {p : Addr} {v : Value} (hc : W.cell? p = some v) : wx.cell? p = some v := (Below.cell h (World.block_lt_of_cell? W p hc)).trans hc
theorem Bw.on {W wx wy : World} (h : Bw W wx) (hb : Below wx.heap.size wx wy) : Bw W wy := bel_bel h (Below.size h) hb
theorem Bw.drew (W : World) : Bw W { W with drawn := W.drawn + 1 } := below_drew W
/-- A region that draws its order and whose callees make memory, walked once. -/
theorem wp_quietC {P : Program} {id : Nat} {Q : Exit → Act → World → Prop} {a : Act} {w : World} {l : List Oper} (C : World → Prop) (hm : P.follows .mixedOrders = true) (hB : Region.lexB .any l.toArray = true) (hC : C { w with drawn := w.drawn + 1 })
    (h : wpQuiet P l.toArray C (fun a' => ∀ w', C w' → Q .normal a' w') l a) : (Code.region id l.toArray true).wp P Q a w := wp_region_quiet (C := C) hm hB hC (by simpa using h)
/-- append of bytes that came in, nil or not, to a row of one's own. -/
theorem wpList_appT {w : World} {ops : Array Oper} {rest : List Oper} {o : Oper} {act : Act} {Q : Exit → Act → World → Prop} (hgd : o.guard = none) (s x : Operand)
    (ho : o.op = .call { callee := .builtin .append, args := #[s, x], argTypes := #[28, 28] })
    (base : Nat) (v : Value) (n : Nat) (X : List Int) (hs : act.eval s = v) (hown : w.ownsRow base 5 1 v n (cells X))
    (a : Option Addr) (m c : Nat) (zs : List Int) (hx : act.eval x = .slice a m c) (hb : Bs w a m zs) (hnm : n + m ≤ 140737488355328) (hbase : base ≤ w.heap.size)
    (h : ∀ v' w', w'.ownsRow base 5 1 v' (n + m) (cells (X ++ zs)) → w.grownBy w' v.ownBlock → wpList Try.prog ops Q rest (act.put o.dst v') w') : wpList Try.prog ops Q (o :: rest) act w := by
  obtain ⟨i5, hi, hz0, hz1, hz2⟩ := info_parts info5
  have hb1 := hb.1
  cases a with
  | some ad =>
    refine wpList_append_own _ hgd s x 28 ho base 5 i5 (.int .u8 0) 1 1 Try.underlying28 hi hz0 hz1 hz2 rfl (by decide) v n _ hs hown ad m c (cells zs) hx (by rw [cells_length, Nat.mul_one, hb1]) (fun j u hj => ?_) (cells_one zs) (by unfold maxLen; omega) (by omega) hbase (fun v' w' h1 h2 h3 => h v' w' (by rw [cells_append]; exact h1) h2)
    have hj' : j < zs.length := by
      have := (List.getElem?_eq_some_iff.1 hj).1
      rwa [cells_length] at this
    rcases hb.2.2 with h0 | ⟨b, off, e, hc⟩
    · omega
    · obtain rfl := Option.some.inj e
      rw [Addr.add_lit, hc j (by omega), ← hj]
      simp [cells, List.getD, hj']
  | none =>
    have hm0 : m = 0 := by
      rcases hb.2.2 with h0 | ⟨b, off, e, _⟩
      · exact h0
      · cases e
    subst hm0
    have hz : zs = [] := List.eq_nil_of_length_eq_zero hb1
    subst hz
    refine wpList_plain hgd fun _ hK => ?_
    rcases hown.2 with ⟨rfl, rfl⟩ | ⟨g, cap, cur, rfl, hr⟩
    · have hr : (Builtin.append_ #[28, 28] o.type #[.slice none 0 0, .slice none 0 c]).run Try.prog w = .ok (.slice none 0 0) w := by
        simp [Builtin.append_, run_underlying Try.underlying28, sizeOf, typeInfo, hi, Builtin.lenOf, Builtin.firstCells]
      unfold Oper.wp execOp
      simp only [ho, resolve, invoke, builtin, Sem.run_bind, Sem.run_pure, Result.andThen_ok, List.map_toArray, List.map_cons, List.map_nil, hs, hx, hr]
      refine hK _ _ (h _ _ (by rw [List.append_nil]; exact hown) ⟨rfl, rfl, rfl, Nat.le_refl _, fun _ _ _ => rfl⟩)
    · have hnc := hr.2.2.1
      have hr : (Builtin.append_ #[28, 28] o.type #[.slice (some ⟨g, 0, none⟩) n cap, .slice none 0 c]).run Try.prog w = .ok (.slice (some ⟨g, 0, none⟩) n cap) w := by
        simp [Builtin.append_, run_underlying Try.underlying28, sizeOf, typeInfo, hi, Builtin.lenOf, Builtin.firstCells, hnc, storeCells]
      unfold Oper.wp execOp
      simp only [ho, resolve, invoke, builtin, Sem.run_bind, Sem.run_pure, Result.andThen_ok, List.map_toArray, List.map_cons, List.map_nil, hs, hx, hr]
      refine hK _ _ (h _ _ (by rw [List.append_nil]; exact hown) ⟨rfl, rfl, rfl, Nat.le_refl _, fun _ _ _ => rfl⟩)
end Go.Proofs.Ythflghjmpellpaa
