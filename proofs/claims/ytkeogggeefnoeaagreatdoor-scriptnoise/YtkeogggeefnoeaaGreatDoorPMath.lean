import Derived.Test.YtkeogggeefnoeaaGreatDoorSMath
import Derived.Laws.ResultCell
import Derived.Laws.Tables
import Derived.Deep.AppendLies
import Derived.Deep.AppendSrc
import Derived.Deep.RegionHeld
import Derived.BigQuiet
import Derived.Deep.DrawnRows
namespace Go.Proofs.YtkeogggeefnoeaaGreatDoor
set_option linter.unusedSimpArgs false
set_option maxRecDepth 100000
open Go.RowKit
set_option linter.unusedVariables false

/-! Bytes that can be read, and written. -/
def Okb (l : List Int) : Prop := ∀ z ∈ l, 0 ≤ z ∧ z ≤ 255
/-- A value in memory that nobody writes. -/
structure Vs (w : World) (V : Nat → Prop) (a : Option Addr) (n c : Nat) (v : List Int) : Prop where
  bs : Bs w a n v
  nc : n ≤ c
  cm : c ≤ maxLen
  nil : a = none → c = 0
  lies : ∀ ad, a = some ad → 0 < n → V ad.block
theorem Bs.at_block {w : World} {a : Option Addr} {n : Nat} {v : List Int} (h : Bs w a n v) {ad : Addr} (e : a = some ad) (hn : 0 < n) : ad.block < w.heap.size ∧ ∀ es cl, w.heap[ad.block]? ≠ some (.map es cl) := by
  rcases h.2.2 with h0 | ⟨b, off, rfl, hc⟩
  · omega
  · obtain rfl := Option.some.inj e
    refine ⟨World.block_lt_of_cell? w _ (hc 0 hn), fun es cl he => ?_⟩
    have := hc 0 hn
    simp [World.cell?, he] at this
theorem Bs.same_block {w w' : World} {a : Option Addr} {n : Nat} {v : List Int} (h : Bs w a n v) (hk : ∀ ad, a = some ad → 0 < n → w'.heap[ad.block]? = w.heap[ad.block]?) : Bs w' a n v := by
  refine ⟨h.1, h.2.1, ?_⟩
  rcases h.2.2 with h0 | ⟨b, off, rfl, hc⟩
  · exact .inl h0
  · by_cases h0 : n = 0
    · exact .inl h0
    · refine .inr ⟨b, off, rfl, fun i hi => ?_⟩
      rw [← hc i hi]
      exact World.cell?_of_block (w := w) (a := ⟨b, off + i, none⟩) (hk ⟨b, off, none⟩ rfl (by omega))
theorem Vs.step {w w' : World} {V : Nat → Prop} {a : Option Addr} {n c : Nat} {v : List Int} (h : Vs w V a n c v) (hk : ∀ x, x < w.heap.size → V x → (∀ es cl, w.heap[x]? ≠ some (.map es cl)) → w'.heap[x]? = w.heap[x]?) : Vs w' V a n c v :=
  ⟨h.bs.same_block fun ad e hn => hk _ (h.bs.at_block e hn).1 (h.lies ad e hn) (h.bs.at_block e hn).2, h.nc, h.cm, h.nil, h.lies⟩
theorem Vs.wide {w : World} {V V' : Nat → Prop} {a : Option Addr} {n c : Nat} {v : List Int} (h : Vs w V a n c v) (hV : ∀ x, x < w.heap.size → V x → V' x) : Vs w V' a n c v :=
  ⟨h.bs, h.nc, h.cm, h.nil, fun ad e hn => hV _ (h.bs.at_block e hn).1 (h.lies ad e hn)⟩
theorem Vs.ofOwn {w : World} {B n : Nat} {v : Value} {zs : List Int} (h : w.ownsRow B 5 1 v n (cells zs)) (hb : Okb zs) : ∃ a c, v = .slice a n c ∧ Vs w (fun x => B ≤ x) a n c zs := by
  obtain ⟨a, cap, rfl, h1, h2, h3, h4⟩ := own_form h hb
  refine ⟨a, cap, rfl, h1, h2, h3, h4, fun ad e hn => ?_⟩
  obtain ⟨g, cap', e', _, _, hg, _⟩ := own_head h hn
  obtain ⟨rfl, _⟩ : a = some ⟨g, 0, none⟩ ∧ cap = cap' := by simpa using e'
  obtain rfl := Option.some.inj e
  exact hg
theorem vs_none (w : World) (V : Nat → Prop) : Vs w V none 0 0 [] := ⟨⟨rfl, by simp, .inl rfl⟩, Nat.le_refl _, by unfold maxLen; omega, fun _ => rfl, fun ad e => by cases e⟩
theorem Vs.own {W : World} {B n : Nat} {v : Value} {zs : List Int} (h : W.ownsRow B 5 1 v n (cells zs)) (hb : Okb zs) : ∃ a c, v = .slice a n c ∧ Vs W (fun x => v.ownBlock = some x) a n c zs := by
  obtain ⟨a, c, rfl, hv⟩ := Vs.ofOwn h hb
  refine ⟨a, c, rfl, hv.bs, hv.nc, hv.cm, hv.nil, fun ad e hn => ?_⟩
  obtain ⟨g, cap', e', _⟩ := own_head h hn
  obtain ⟨rfl, rfl⟩ : a = some ⟨g, 0, none⟩ ∧ c = cap' := by simpa using e'
  obtain rfl := Option.some.inj e
  rfl
theorem own_monoT {w : World} {B B' n sz e : Nat} {v : Value} {xs : List Value} (h : w.ownsRow B e sz v n xs) (hb : B' ≤ B) : w.ownsRow B' e sz v n xs := by
  obtain ⟨h1, h2⟩ := h
  refine ⟨h1, ?_⟩
  rcases h2 with h2 | ⟨g, cap, cur, e, hg, r⟩
  · exact .inl h2
  · exact .inr ⟨g, cap, cur, e, Nat.le_trans hb hg, r⟩
theorem Vs.lift {w w' : World} {V V' : Nat → Prop} {a : Option Addr} {n c : Nat} {v : List Int} (h : Vs w V a n c v) (hb : Below w.heap.size w w') (hV : ∀ x, x < w.heap.size → V x → V' x) : Vs w' V' a n c v := (h.wide hV).step fun x hx _ _ => hb.block x hx
theorem Vs.cut {w : World} {V : Nat → Prop} {a : Option Addr} {n c m d : Nat} {zs : List Int} (h : Vs w V a n c zs) (hm : m ≤ n) (hd : m ≤ d) (hdc : d ≤ c) : Vs w V a m d (zs.take m) := by
  refine ⟨⟨by rw [List.length_take, h.bs.1]; omega, fun z hz => h.bs.2.1 z (List.mem_of_mem_take hz), ?_⟩, hd, Nat.le_trans hdc h.cm, fun e => by have := h.nil e; omega, fun ad e h0 => h.lies ad e (by omega)⟩
  rcases h.bs.2.2 with h0 | ⟨b, off, e, hc⟩
  · exact .inl (by omega)
  · refine .inr ⟨b, off, e, fun i hi => ?_⟩
    rw [hc i (by omega)]
    simp [List.getD, hi]
theorem below_drew (w : World) : Below w.heap.size w w.drew := ⟨rfl, rfl, rfl, Nat.le_refl _, fun _ _ => rfl⟩
theorem bs_lit (w : World) (zs : List Int) (fl : Nat × Nat) (hb : Okb zs) : Bs (w.alloc (.cells (cells zs).toArray 5 fl)) (some ⟨w.heap.size, 0, none⟩) zs.length zs := by
  refine ⟨rfl, hb, .inr ⟨w.heap.size, 0, rfl, fun i hi => ?_⟩⟩
  rw [Nat.zero_add, cell_of_row _ _ i _ 5 fl (heap_alloc_new w _)]
  simp [cells, List.getElem?_eq_getElem hi, List.getD]
theorem own_bel {wx wy : World} {v : Value} {n base e sz : Nat} {xs : List Value} (hown : wx.ownsRow base e sz v n xs) (g : Below wx.heap.size wx wy) : wy.ownsRow base e sz v n xs := hown.kept (grown_of_below g) (by cases v.ownBlock <;> simp)
/-- A row of bytes that may be written. -/
structure Yr (w : World) (g n : Nat) (ys : List Int) : Prop where
  blk : ∃ cur, w.heap[g]? = some (.cells cur 5 (0, 0))
  bs : Bs w (some ⟨g, 0, none⟩) n ys
theorem bs_set {w : World} {g n i : Nat} {zs : List Int} {z : Int} {cur : Array Value} (h : Bs w (some ⟨g, 0, none⟩) n zs) (hc : w.heap[g]? = some (.cells cur 5 (0, 0))) (hi : i < n) (hz : 0 ≤ z ∧ z ≤ 255) : Bs (w.setCell ⟨g, i, none⟩ (.int .u8 z)) (some ⟨g, 0, none⟩) n (zs.set i z) := by
  refine ⟨by rw [List.length_set]; exact h.1, fun y hy => ?_, .inr ⟨g, 0, rfl, fun j hj => ?_⟩⟩
  · rcases List.mem_or_eq_of_mem_set hy with h1 | rfl
    · exact h.2.1 y h1
    · exact hz
  · have hcell : ∀ j, j < n → w.cell? ⟨g, j, none⟩ = some (.int .u8 (zs.getD j 0)) := fun j hj => by
      rcases h.2.2 with h0 | ⟨b, off, e, hcc⟩
      · omega
      · simp at e
        obtain ⟨rfl, rfl⟩ := e
        have := hcc j hj
        rwa [Nat.zero_add] at this
    have hnew : (w.setCell ⟨g, i, none⟩ (.int .u8 z)).heap[g]? = some (.cells (cur.setIfInBounds i (.int .u8 z)) 5 (0, 0)) := by simp [World.setCell, Array.getElem?_modify, hc]
    have hlen := h.1
    rw [Nat.zero_add, cell_of_row _ _ j _ _ (0, 0) hnew]
    have hold := hcell j hj
    rw [cell_of_row _ _ j _ _ (0, 0) hc] at hold
    by_cases hji : j = i
    · subst hji
      have hsz := (Array.getElem?_eq_some_iff.1 hold).1
      rw [Array.getElem?_setIfInBounds_self_of_lt hsz]
      simp [List.getD, hlen, hj]
    · rw [Array.getElem?_setIfInBounds_ne (Ne.symm hji), hold]
      simp [List.getD, List.getElem?_set_ne (Ne.symm hji)]
theorem Yr.set {w : World} {g n i : Nat} {ys : List Int} {z : Int} (h : Yr w g n ys) (hi : i < n) (hz : 0 ≤ z ∧ z ≤ 255) : Yr (w.setCell ⟨g, i, none⟩ (.int .u8 z)) g n (ys.set i z) := by
  obtain ⟨cur, hc⟩ := h.blk
  exact ⟨⟨cur.setIfInBounds i (.int .u8 z), by simp [World.setCell, Array.getElem?_modify, hc]⟩, bs_set h.bs hc hi hz⟩
theorem Yr.lt {w : World} {g n : Nat} {ys : List Int} (h : Yr w g n ys) : g < w.heap.size := by
  obtain ⟨cur, hc⟩ := h.blk
  exact (Array.getElem?_eq_some_iff.1 hc).1
theorem Yr.same {w w' : World} {g n : Nat} {ys : List Int} (h : Yr w g n ys) (hk : w'.heap[g]? = w.heap[g]?) : Yr w' g n ys := by
  obtain ⟨cur, hc⟩ := h.blk
  refine ⟨⟨cur, hk.trans hc⟩, h.bs.same_block fun ad e _ => ?_⟩
  obtain rfl := Option.some.inj e
  exact hk
theorem Yr.below {w w' : World} {g n : Nat} {ys : List Int} (h : Yr w g n ys) (hb : Below w.heap.size w w') : Yr w' g n ys := h.same (hb.block g h.lt)
theorem Yr.fz {w : World} {g n : Nat} {ys : List Int} (h : Yr w g n ys) (i : Nat) : w.frozen? ⟨g, i, none⟩ = false := by
  obtain ⟨cur, hc⟩ := h.blk
  simp [World.frozen?, hc]
theorem Yr.cell {w : World} {g n : Nat} {ys : List Int} (h : Yr w g n ys) {i : Nat} (hi : i < n) : w.cell? ⟨g, i, none⟩ = some (.int .u8 (ys.getD i 0)) := by
  rcases h.bs.2.2 with h0 | ⟨b, off, e, hc⟩
  · omega
  · simp at e
    obtain ⟨rfl, rfl⟩ := e
    have := hc i hi
    rwa [Nat.zero_add] at this
theorem Yr.ofOwn {w : World} {B n : Nat} {v : Value} {ys : List Int} (h : w.ownsRow B 5 1 v n (cells ys)) (hy : Okb ys) (hn : 0 < n) : ∃ g c, v = .slice (some ⟨g, 0, none⟩) n c ∧ Yr w g n ys ∧ B ≤ g ∧ g < w.heap.size ∧ n ≤ c ∧ c ≤ maxLen := by
  obtain ⟨a, c, rfl, vs⟩ := Vs.ofOwn h hy
  rcases h.2 with ⟨e, e0⟩ | ⟨g, cap, cur, e, hh⟩
  · simp at e; omega
  · simp only [Value.slice.injEq] at e
    obtain ⟨rfl, -, rfl⟩ := e
    have hl := h.lt g rfl
    exact ⟨g, c, rfl, ⟨⟨cur, hh.2.1⟩, vs.bs⟩, hl.1, hl.2, vs.nc, vs.cm⟩
theorem Yr.vs {w : World} {g n c : Nat} {ys : List Int} (h : Yr w g n ys) (hnc : n ≤ c) (hcm : c ≤ maxLen) : Vs w (fun x => x = g) (some ⟨g, 0, none⟩) n c ys :=
  ⟨h.bs, hnc, hcm, fun e => (by cases e), fun ad e _ => (by obtain rfl := Option.some.inj e; rfl)⟩
theorem set_by (w : World) (g i : Nat) (v : Value) : w.grownBy (w.setCell ⟨g, i, none⟩ v) (some g) :=
  ⟨rfl, rfl, rfl, by simp [World.setCell], fun k _ hk => Below.heap_setCell _ _ _ _ (fun e => hk (by rw [e]))⟩
theorem by_trans {a b c : World} {g : Nat} (h : a.grownBy b (some g)) (k : b.grownBy c (some g)) : a.grownBy c (some g) := h.andThen k (fun j e => .inr e)
theorem xor_byte (z y : Int) : 0 ≤ bits BinOp.xor IntKind.u8 z y ∧ bits BinOp.xor IntKind.u8 z y ≤ 255 := by
  rw [bits.eq_3, IntKind.wrap_u8]; omega
/-- The worlds that have but grown since W. -/
def Bw (W wx : World) : Prop := Below W.heap.size W wx
theorem Bw.cell {W wx : World} (h : Bw W wx) {p : Addr} {v : Value} (hc : W.cell? p = some v) : wx.cell? p = some v := (Below.cell h (World.block_lt_of_cell? W p hc)).trans hc
theorem Bw.on {W wx wy : World} (h : Bw W wx) (hb : Below wx.heap.size wx wy) : Bw W wy := bel_bel h (Below.size h) hb
theorem Bw.drew (W : World) : Bw W { W with drawn := W.drawn + 1 } := below_drew W
/-- A region that draws its order and whose callees make memory, walked once. -/
theorem wp_quietC {P : Program} {id : Nat} {Q : Exit → Act → World → Prop} {a : Act} {w : World} {l : List Oper} (C : World → Prop) (hm : P.follows .mixedOrders = true) (hB : Region.lexB .any l.toArray = true) (hC : C { w with drawn := w.drawn + 1 })
    (h : wpQuiet P l.toArray C (fun a' => ∀ w', C w' → Q .normal a' w') l a) : (Code.region id l.toArray true).wp P Q a w := wp_region_quiet (C := C) hm hB hC (by simpa using h)
/-- append of bytes that came in, nil or not, to a row of one's own. -/
theorem wpList_appT {w : World} {ops : Array Oper} {rest : List Oper} {o : Oper} {act : Act} {Q : Exit → Act → World → Prop} (hgd : o.guard = none) (s x : Operand)
    (ho : o.op = .call { callee := .builtin .append, args := #[s, x], argTypes := #[40, 40] })
    (base : Nat) (v : Value) (n : Nat) (X : List Int) (hs : act.eval s = v) (hown : w.ownsRow base 5 1 v n (cells X))
    (a : Option Addr) (m c : Nat) (zs : List Int) (hx : act.eval x = .slice a m c) (hb : Bs w a m zs) (hnm : n + m ≤ 140737488355328) (hbase : base ≤ w.heap.size)
    (h : ∀ v' w', w'.ownsRow base 5 1 v' (n + m) (cells (X ++ zs)) → w.grownBy w' v.ownBlock → wpList Tryz.prog ops Q rest (act.put o.dst v') w') : wpList Tryz.prog ops Q (o :: rest) act w := by
  obtain ⟨i5, hi, hz0, hz1, hz2⟩ := info_parts info5
  have hb1 := hb.1
  cases a with
  | some ad =>
    refine wpList_append_own _ hgd s x 40 ho base 5 i5 (.int .u8 0) 1 1 Tryz.underlying40 hi hz0 hz1 hz2 rfl (by decide) v n _ hs hown ad m c (cells zs) hx (by rw [cells_length, Nat.mul_one, hb1]) (fun j u hj => ?_) (cells_one zs) (by unfold maxLen; omega) (by omega) hbase (fun v' w' h1 h2 h3 => h v' w' (by rw [cells_append]; exact h1) h2)
    have hj' : j < zs.length := by
      have := (List.getElem?_eq_some_iff.1 hj).1
      rwa [cells_length] at this
    rcases hb.2.2 with h0 | ⟨b, off, e, hc⟩
    · omega
    · obtain rfl := Option.some.inj e
      rw [Addr.add_lit, hc j (by omega), ← hj]
      simp [cells, List.getD, hj']
  | none =>
    have hm0 : m = 0 := by
      rcases hb.2.2 with h0 | ⟨b, off, e, _⟩
      · exact h0
      · cases e
    subst hm0
    have hz : zs = [] := List.eq_nil_of_length_eq_zero hb1
    subst hz
    refine wpList_plain hgd fun _ hK => ?_
    rcases hown.2 with ⟨rfl, rfl⟩ | ⟨g, cap, cur, rfl, hr⟩
    · have hr : (Builtin.append_ #[40, 40] o.type #[.slice none 0 0, .slice none 0 c]).run Tryz.prog w = .ok (.slice none 0 0) w := by
        simp [Builtin.append_, run_underlying Tryz.underlying40, sizeOf, typeInfo, hi, Builtin.lenOf, Builtin.firstCells]
      unfold Oper.wp execOp
      simp only [ho, resolve, invoke, builtin, Sem.run_bind, Sem.run_pure, Result.andThen_ok, List.map_toArray, List.map_cons, List.map_nil, hs, hx, hr]
      refine hK _ _ (h _ _ (by rw [List.append_nil]; exact hown) ⟨rfl, rfl, rfl, Nat.le_refl _, fun _ _ _ => rfl⟩)
    · have hnc := hr.2.2.1
      have hr : (Builtin.append_ #[40, 40] o.type #[.slice (some ⟨g, 0, none⟩) n cap, .slice none 0 c]).run Tryz.prog w = .ok (.slice (some ⟨g, 0, none⟩) n cap) w := by
        simp [Builtin.append_, run_underlying Tryz.underlying40, sizeOf, typeInfo, hi, Builtin.lenOf, Builtin.firstCells, hnc, storeCells]
      unfold Oper.wp execOp
      simp only [ho, resolve, invoke, builtin, Sem.run_bind, Sem.run_pure, Result.andThen_ok, List.map_toArray, List.map_cons, List.map_nil, hs, hx, hr]
      refine hK _ _ (h _ _ (by rw [List.append_nil]; exact hown) ⟨rfl, rfl, rfl, Nat.le_refl _, fun _ _ _ => rfl⟩)
end Go.Proofs.YtkeogggeefnoeaaGreatDoor
namespace Go.Proofs.YtkeogggeefnoeaaGreatDoor
set_option linter.unusedSimpArgs false
set_option maxRecDepth 100000
open Go.RowKit
set_option linter.unusedVariables false

theorem snew1 (w : World) (s n : Int) : Below w.heap.size w (w.alloc (.cells #[.int .i64 s, .int .i64 n] 46)) := (Below.refl _ _).alloc (Nat.le_refl _) _
theorem snew2 (w : World) (s n s' n' : Int) : Below w.heap.size w ((w.alloc (.cells #[.int .i64 s, .int .i64 n] 46)).alloc (.cells #[.int .i64 s', .int .i64 n'] 46)) := (snew1 w s n).alloc (by simp) _
/-- Are the two one? -/
def sme (s n s' n' : Int) : Bool := decide (s = s' ∧ n = n')
set_option maxHeartbeats 400000 in
theorem sameStamp_ (s n s' n' : Int) (w : World) :
    Calls Tryz.prog 55 #[.agg #[.int .i64 s, .int .i64 n], .agg #[.int .i64 s', .int .i64 n']] w fun e w' => e = .returned (.bool (sme s n s' n')) ∧ Below w.heap.size w w' := by
  go_enter Tryz.func55, Tryz.ntmps55
  go_wp2_with fail
  all_goals
    go_ret
    refine ⟨ret_bool ?_, snew2 w _ _ _ _⟩
    unfold sme
    first
      | exact (decide_eq_true (by omega)).symm
      | exact (decide_eq_false (by omega)).symm
      | exact decide_eq_decide.2 (by omega)
      | (rw [← Bool.decide_eq_true (_ == _)]; exact decide_eq_decide.2 (by rw [beq_iff_eq]; omega))
/-- The stamp next above. -/
def nok (s n : Int) : Bool := vld s n && !big s n
def ns (s n : Int) : Int := if nok s n then (if n = 999999999 then s + 1 else s) else 0
def nn (s n : Int) : Int := if nok s n then (if n = 999999999 then 0 else n + 1) else 0
theorem results_st {fn : Func} {p u : Tmp} (h : fn.results = #[.cell p 46, .tmp u]) (tmps : Array Value) (w : World) (g : Nat) (s n : Int) (v : Value)
    (hp : tmps.getD p undef = .pointer (some ⟨g, 0, none⟩)) (hv : tmps.getD u undef = v) (h0 : w.cell? ⟨g, 0, none⟩ = some (.int .i64 s)) (h1 : w.cell? ⟨g, 1, none⟩ = some (.int .i64 n)) :
    (results fn tmps).run Tryz.prog w = .ok (.tuple #[.agg #[.int .i64 s, .int .i64 n], v]) w := by
  rw [results_cell_tmp h, hp, hv]
  go_simp
/-- A stamp in a variable. -/
def Sm (w : World) (g : Nat) (s n : Int) : Prop := w.heap[g]? = some (.cells #[.int .i64 s, .int .i64 n] 46 (0, 0))
theorem Sm.lt {w : World} {g : Nat} {s n : Int} (h : Sm w g s n) : g < w.heap.size := (Array.getElem?_eq_some_iff.1 h).1
theorem Sm.c0 {w : World} {g : Nat} {s n : Int} (h : Sm w g s n) : w.cell? ⟨g, 0, none⟩ = some (.int .i64 s) := (cell_of_row w g 0 _ _ (0, 0) h).trans rfl
theorem Sm.c1 {w : World} {g : Nat} {s n : Int} (h : Sm w g s n) : w.cell? ⟨g, 1, none⟩ = some (.int .i64 n) := (cell_of_row w g 1 _ _ (0, 0) h).trans rfl
theorem Sm.fz {w : World} {g : Nat} {s n : Int} (h : Sm w g s n) (i : Nat) : w.frozen? ⟨g, i, none⟩ = false := by unfold Sm at h; simp [World.frozen?, h]
theorem Sm.kept {w w' : World} {g : Nat} {s n : Int} (h : Sm w g s n) (hb : Below w.heap.size w w') : Sm w' g s n := by
  have := h.lt
  unfold Sm at *; rw [hb.block g this]; exact h
theorem Sm.new (w : World) (s n : Int) : Sm (w.alloc (.cells #[.int .i64 s, .int .i64 n] 46)) w.heap.size s n := heap_alloc_new w _
theorem Sm.alloc {w : World} {g : Nat} {s n : Int} (h : Sm w g s n) (o : Obj) : Sm (w.alloc o) g s n := by
  have := h.lt
  unfold Sm at *; rw [Below.heap_alloc _ _ _ this]; exact h
theorem Sm.row {w : World} {g : Nat} {s n : Int} (h : Sm w g s n) (s' n' : Int) : Sm (w.setRow g #[.int .i64 s', .int .i64 n']) g s' n' := setRow_heap w g _ _ _ _ h
theorem sizest : (Tryz.prog.info? 46).map (·.size) = some 2 := by kernel_rfl
theorem wpList_sst {ops : Array Oper} {rest : List Oper} {o : Oper} {a : Act} {w : World} {Q : Exit → Act → World → Prop} (hgd : o.guard = none) (hdst : o.dst = none) (x y : Operand) (ho : o.op = .store 46 x y)
    (g : Nat) (s n : Int) (hx : a.eval x = .pointer (some ⟨g, 0, none⟩)) (hy : a.eval y = .agg #[.int .i64 s, .int .i64 n]) (s0 n0 : Int) (hg : Sm w g s0 n0)
    (h : wpList Tryz.prog ops Q rest a (w.setRow g #[.int .i64 s, .int .i64 n])) : wpList Tryz.prog ops Q (o :: rest) a w := by
  refine wpList_store_row hgd _ x y ho g #[.int .i64 s, .int .i64 n] hx hy _ _ hg sizest rfl (by simp [Value.oneCell']) ?_
  rw [hdst]
  exact h
theorem snew3 (w : World) (s n s' n' : Int) : Sm ((w.alloc (.cells #[.int .i64 s, .int .i64 n] 46)).alloc (.cells #[.int .i64 s', .int .i64 n'] 46)) w.heap.size s n ∧ Sm ((w.alloc (.cells #[.int .i64 s, .int .i64 n] 46)).alloc (.cells #[.int .i64 s', .int .i64 n'] 46)) (w.heap.size + 1) s' n' := by
  refine ⟨(Sm.new w s n).alloc _, ?_⟩
  have := Sm.new (w.alloc (.cells #[.int .i64 s, .int .i64 n] 46)) s' n'
  simpa using this
theorem ret_st {a b a' b' : Int} {c c' : Bool} (h1 : a = a') (h2 : b = b') (h3 : c = c') : Ending.returned (.tuple #[.agg #[.int .i64 a, .int .i64 b], .bool c]) = .returned (.tuple #[.agg #[.int .i64 a', .int .i64 b'], .bool c']) := by rw [h1, h2, h3]
end Go.Proofs.YtkeogggeefnoeaaGreatDoor
namespace Go.Proofs.YtkeogggeefnoeaaGreatDoor
set_option linter.unusedSimpArgs false
set_option maxRecDepth 100000
set_option linter.unusedVariables false

/-! Addresses as numbers. -/
/-- How many bits an address of the family has. -/
def nb (F : Int) : Nat := if F = 4 then 32 else if F = 6 then 128 else 0
/-- The address as one number. -/
def ad (H L : Int) : Int := H * 18446744073709551616 + L
def va (F H L : Int) : Bool := decide (F = 6 ∨ (F = 4 ∧ H = 0 ∧ L < 4294967296))
/-- The numbers of a uint64. -/
def InU (x : Int) : Prop := 0 ≤ x ∧ x ≤ 18446744073709551615
theorem va_in {F H L : Int} (h : va F H L = true) (hH : InU H) (hL : InU L) : (nb F = 32 ∨ nb F = 128) ∧ 0 ≤ ad H L ∧ ad H L < 2 ^ nb F := by
  have h := of_decide_eq_true (show decide _ = true from h)
  unfold InU at *
  unfold nb ad
  rcases h with rfl | ⟨rfl, rfl, h2⟩
  · rw [if_neg (by decide), if_pos rfl]
    have : (2 : Int) ^ 128 = 340282366920938463463374607431768211456 := by decide
    omega
  · rw [if_pos rfl]
    have : (2 : Int) ^ 32 = 4294967296 := by decide
    omega
/-- The i-th bit of a number of n bits. -/
def bt (n : Nat) (A : Int) (i : Nat) : Bool := decide (A / 2 ^ (n - 1 - i) % 2 = 1)
theorem pow_pos2 (m : Nat) : (0 : Int) < 2 ^ m := Int.pow_pos (by omega)
theorem emod_two (A : Int) (m : Nat) : A % 2 ^ (m + 1) = A / 2 ^ m % 2 * 2 ^ m + A % 2 ^ m := by
  have hp := pow_pos2 m
  have h1 := Int.mul_ediv_add_emod A (2 ^ m)
  have h2 := Int.mul_ediv_add_emod (A / 2 ^ m) 2
  have r0 := Int.emod_nonneg A (show (2 : Int) ^ m ≠ 0 by omega)
  have r1 := Int.emod_lt_of_pos A hp
  have q0 := Int.emod_nonneg (A / 2 ^ m) (show (2 : Int) ≠ 0 by omega)
  have q1 := Int.emod_lt_of_pos (A / 2 ^ m) (show (0 : Int) < 2 by omega)
  rw [Int.pow_succ]
  generalize (2 : Int) ^ m = p at *
  generalize A / p = q at *
  generalize A % p = r at *
  generalize q / 2 = u at *
  generalize q % 2 = v at *
  have e : A = (v * p + r) + (p * 2) * u := by
    rw [← h1, ← h2, Int.mul_add, Int.mul_assoc, Int.mul_comm p v, ← Int.mul_assoc]; omega
  have b1 : v * p + r < p * 2 := by
    have : v * p ≤ 1 * p := Int.mul_le_mul_of_nonneg_right (by omega) (by omega)
    omega
  have b0 : 0 ≤ v * p + r := by have := Int.mul_nonneg q0 (Int.le_of_lt hp); omega
  rw [e, Int.add_mul_emod_self_left, Int.emod_eq_of_lt b0 b1]
theorem ediv_two (A : Int) (m : Nat) : A / 2 ^ m = A / 2 ^ (m + 1) * 2 + A / 2 ^ m % 2 := by
  have h2 := Int.mul_ediv_add_emod (A / 2 ^ m) 2
  have e : A / 2 ^ (m + 1) = A / 2 ^ m / 2 := by rw [Int.pow_succ, Int.ediv_ediv_of_nonneg (Int.le_of_lt (pow_pos2 m))]
  rw [e]
  omega
/-- No bit from b on. -/
theorem tail_zero (n : Nat) (A : Int) : ∀ (c b : Nat), n - b = c → b ≤ n → ((∀ i, b ≤ i → i < n → bt n A i = false) ↔ A % 2 ^ (n - b) = 0) := by
  intro c
  induction c with
  | zero =>
    intro b hc hb
    obtain rfl : b = n := by omega
    rw [hc]
    refine ⟨fun _ => by rw [show (2 : Int) ^ 0 = 1 from rfl]; exact Int.emod_one A, fun _ i h1 h2 => by omega⟩
  | succ c ih =>
    intro b hc hb
    have hn := ih (b + 1) (by omega) (by omega)
    rw [show n - (b + 1) = c from by omega] at hn
    rw [hc, emod_two]
    have hp := pow_pos2 c
    have r0 := Int.emod_nonneg A (show (2 : Int) ^ c ≠ 0 by omega)
    have q : A / 2 ^ c % 2 = 0 ∨ A / 2 ^ c % 2 = 1 := by omega
    have hbt : bt n A b = decide (A / 2 ^ c % 2 = 1) := by unfold bt; rw [show n - 1 - b = c from by omega]
    constructor
    · intro h
      have h0 := h b (Nat.le_refl _) (by omega)
      rw [hbt] at h0
      have h0 := of_decide_eq_false h0
      have h1 := hn.1 (fun i h1 h2 => h i (by omega) h2)
      rcases q with q | q
      · rw [q, h1]; omega
      · exact absurd q h0
    · intro h
      have hq : A / 2 ^ c % 2 = 0 := by
        rcases q with q | q
        · exact q
        · rw [q] at h; omega
      rw [hq] at h
      have h1 : A % 2 ^ c = 0 := by omega
      intro i h2 h3
      by_cases e : i = b
      · rw [e, hbt, hq]; decide
      · exact hn.2 h1 i (by omega) h3
/-- The first b bits of both alike. -/
theorem head_same (n : Nat) (A A' : Int) (hA : 0 ≤ A ∧ A < 2 ^ n) (hA' : 0 ≤ A' ∧ A' < 2 ^ n) : ∀ b, b ≤ n → ((∀ i, i < b → bt n A i = bt n A' i) ↔ A / 2 ^ (n - b) = A' / 2 ^ (n - b)) := by
  intro b
  induction b with
  | zero =>
    intro _
    rw [Nat.sub_zero, Int.ediv_eq_zero_of_lt hA.1 hA.2, Int.ediv_eq_zero_of_lt hA'.1 hA'.2]
    exact ⟨fun _ => rfl, fun _ i h => by omega⟩
  | succ b ih =>
    intro hb
    have h0 := ih (by omega)
    obtain ⟨c, hc⟩ : ∃ c, n - (b + 1) = c := ⟨_, rfl⟩
    rw [show n - b = c + 1 from by omega] at h0
    rw [hc, ediv_two A c, ediv_two A' c]
    have e1 : bt n A b = decide (A / 2 ^ c % 2 = 1) := by unfold bt; rw [show n - 1 - b = c from by omega]
    have e2 : bt n A' b = decide (A' / 2 ^ c % 2 = 1) := by unfold bt; rw [show n - 1 - b = c from by omega]
    have q1 : A / 2 ^ c % 2 = 0 ∨ A / 2 ^ c % 2 = 1 := by omega
    have q2 : A' / 2 ^ c % 2 = 0 ∨ A' / 2 ^ c % 2 = 1 := by omega
    constructor
    · intro h
      have h1 := h0.1 (fun i hi => h i (by omega))
      have h2 := h b (by omega)
      rw [e1, e2] at h2
      have h2 := decide_eq_decide.1 h2
      rw [h1]
      generalize A / 2 ^ c % 2 = x at *
      generalize A' / 2 ^ c % 2 = y at *
      omega
    · intro h i hi
      have hq : A / 2 ^ c % 2 = A' / 2 ^ c % 2 ∧ A / 2 ^ (c + 1) = A' / 2 ^ (c + 1) := by
        generalize A / 2 ^ c % 2 = x at *
        generalize A' / 2 ^ c % 2 = y at *
        generalize A / 2 ^ (c + 1) = u at *
        generalize A' / 2 ^ (c + 1) = v at *
        omega
      by_cases e : i = b
      · rw [e, e1, e2, hq.1]
      · exact h0.2 hq.2 i (by omega)
/-- A prefix. -/
def vp (F H L B : Int) : Bool := va F H L && decide (0 ≤ B ∧ B ≤ nb F ∧ ad H L % 2 ^ (nb F - B.toNat) = 0)
/-- Does it hold this address? -/
def ho (F H L B F' H' L' : Int) : Bool := vp F H L B && (va F' H' L' && decide (F = F' ∧ ad H L / 2 ^ (nb F - B.toNat) = ad H' L' / 2 ^ (nb F - B.toNat)))
def od (a b : Int) : Int := if a < b then -1 else if b < a then 1 else 0
def cp (F H L B F' H' L' B' : Int) : Int := if F ≠ F' then od F F' else if B ≠ B' then od B B' else if H ≠ H' then od H H' else od L L'
/-- An address's bytes, a prefix's bytes. -/
def pa (F H L : Int) : List Int := if va F H L then be (nb F / 8) (ad H L) else []
def pp (F H L B : Int) : List Int := if vp F H L B then F :: B :: pa F H L else []
theorem pa_byte (F H L : Int) : ∀ z ∈ pa F H L, 0 ≤ z ∧ z ≤ 255 := by
  intro z hz
  unfold pa at hz
  split at hz
  · exact be_byte _ _ z hz
  · simp at hz
theorem vp_in {F H L B : Int} (h : vp F H L B = true) : va F H L = true ∧ 0 ≤ B ∧ B ≤ nb F ∧ ad H L % 2 ^ (nb F - B.toNat) = 0 := by
  unfold vp at h
  rw [Bool.and_eq_true] at h
  exact ⟨h.1, of_decide_eq_true h.2⟩
theorem nb_le (F : Int) : nb F ≤ 128 := by
  unfold nb
  split
  · decide
  · split <;> decide
theorem pp_byte (F H L B : Int) : ∀ z ∈ pp F H L B, 0 ≤ z ∧ z ≤ 255 := by
  intro z hz
  unfold pp at hz
  split at hz
  · rename_i h
    obtain ⟨h1, h2, h3, _⟩ := vp_in h
    have hn := nb_le F
    have hF := of_decide_eq_true (show decide _ = true from h1)
    rcases List.mem_cons.1 hz with rfl | hz
    · omega
    · rcases List.mem_cons.1 hz with rfl | hz
      · omega
      · exact pa_byte _ _ _ z hz
  · simp at hz
theorem pa_length (F H L : Int) : (pa F H L).length = if va F H L then nb F / 8 else 0 := by
  unfold pa
  split
  · rw [be_length]
  · rfl
end Go.Proofs.YtkeogggeefnoeaaGreatDoor
