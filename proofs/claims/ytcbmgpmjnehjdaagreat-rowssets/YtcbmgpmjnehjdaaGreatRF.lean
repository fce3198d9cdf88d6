import Derived.Test.YtcbmgpmjnehjdaaGreatABytes
import Derived.Test.YtcbmgpmjnehjdaaGreatSMath
import Derived.Laws.ResultCell
import Derived.Laws.Tables
import Derived.Deep.AppendLies
import Derived.Deep.AppendSrc
import Derived.Deep.RegionHeld
import Derived.BigQuiet
import Derived.Deep.DrawnRows
import Derived.Test.YtcbmgpmjnehjdaaGreatS3
namespace Go.Proofs.YtcbmgpmjnehjdaaGreat
set_option maxRecDepth 100000
open Go.RowKit
set_option linter.unusedVariables false

/-! Bytes that can be read, and written. -/
def Okb (l : List Int) : Prop := ∀ z ∈ l, 0 ≤ z ∧ z ≤ 255
/-- A value in memory that nobody writes. -/
structure Vs (w : World) (V : Nat → Prop) (a : Option Addr) (n c : Nat) (v : List Int) : Prop where
  bs : Bs w a n v
  nc : n ≤ c
  cm : c ≤ maxLen
  nil : a = none → c = 0
  lies : ∀ ad, a = some ad → 0 < n → V ad.block
theorem Bs.at_block {w : World} {a : Option Addr} {n : Nat} {v : List Int} (h : Bs w a n v) {ad : Addr} (e : a = some ad) (hn : 0 < n) : ad.block < w.heap.size ∧ ∀ es cl, w.heap[ad.block]? ≠ some (.map es cl) := by
  rcases h.2.2 with h0 | ⟨b, off, rfl, hc⟩
  · omega
  · obtain rfl := Option.some.inj e
    refine ⟨World.block_lt_of_cell? w _ (hc 0 hn), fun es cl he => ?_⟩
    have := hc 0 hn
    simp [World.cell?, he] at this
theorem Bs.same_block {w w' : World} {a : Option Addr} {n : Nat} {v : List Int} (h : Bs w a n v) (hk : ∀ ad, a = some ad → 0 < n → w'.heap[ad.block]? = w.heap[ad.block]?) : Bs w' a n v := by
  refine ⟨h.1, h.2.1, ?_⟩
  rcases h.2.2 with h0 | ⟨b, off, rfl, hc⟩
  · exact .inl h0
  · by_cases h0 : n = 0
    · exact .inl h0
    · refine .inr ⟨b, off, rfl, fun i hi => ?_⟩
      rw [← hc i hi]
      exact World.cell?_of_block (w := w) (a := ⟨b, off + i, none⟩) (hk ⟨b, off, none⟩ rfl (by omega))
theorem Vs.step {w w' : World} {V : Nat → Prop} {a : Option Addr} {n c : Nat} {v : List Int} (h : Vs w V a n c v) (hk : ∀ x, x < w.heap.size → V x → (∀ es cl, w.heap[x]? ≠ some (.map es cl)) → w'.heap[x]? = w.heap[x]?) : Vs w' V a n c v :=
  ⟨h.bs.same_block fun ad e hn => hk _ (h.bs.at_block e hn).1 (h.lies ad e hn) (h.bs.at_block e hn).2, h.nc, h.cm, h.nil, h.lies⟩
theorem Vs.wide {w : World} {V V' : Nat → Prop} {a : Option Addr} {n c : Nat} {v : List Int} (h : Vs w V a n c v) (hV : ∀ x, x < w.heap.size → V x → V' x) : Vs w V' a n c v :=
  ⟨h.bs, h.nc, h.cm, h.nil, fun ad e hn => hV _ (h.bs.at_block e hn).1 (h.lies ad e hn)⟩
theorem Vs.ofOwn {w : World} {B n : Nat} {v : Value} {zs : List Int} (h : w.ownsRow B 5 1 v n (cells zs)) (hb : Okb zs) : ∃ a c, v = .slice a n c ∧ Vs w (fun x => B ≤ x) a n c zs := by
  obtain ⟨a, cap, rfl, h1, h2, h3, h4⟩ := own_form h hb
  refine ⟨a, cap, rfl, h1, h2, h3, h4, fun ad e hn => ?_⟩
  obtain ⟨g, cap', e', _, _, hg, _⟩ := own_head h hn
  obtain ⟨rfl, _⟩ : a = some ⟨g, 0, none⟩ ∧ cap = cap' := by simpa using e'
  obtain rfl := Option.some.inj e
  exact hg
theorem vs_none (w : World) (V : Nat → Prop) : Vs w V none 0 0 [] := ⟨⟨rfl, by simp, .inl rfl⟩, Nat.le_refl _, by unfold maxLen; omega, fun _ => rfl, fun ad e => by cases e⟩
theorem Vs.own {W : World} {B n : Nat} {v : Value} {zs : List Int} (h : W.ownsRow B 5 1 v n (cells zs)) (hb : Okb zs) : ∃ a c, v = .slice a n c ∧ Vs W (fun x => v.ownBlock = some x) a n c zs := by
  obtain ⟨a, c, rfl, hv⟩ := Vs.ofOwn h hb
  refine ⟨a, c, rfl, hv.bs, hv.nc, hv.cm, hv.nil, fun ad e hn => ?_⟩
  obtain ⟨g, cap', e', _⟩ := own_head h hn
  obtain ⟨rfl, rfl⟩ : a = some ⟨g, 0, none⟩ ∧ c = cap' := by simpa using e'
  obtain rfl := Option.some.inj e
  rfl
theorem own_monoT {w : World} {B B' n sz e : Nat} {v : Value} {xs : List Value} (h : w.ownsRow B e sz v n xs) (hb : B' ≤ B) : w.ownsRow B' e sz v n xs := by
  obtain ⟨h1, h2⟩ := h
  refine ⟨h1, ?_⟩
  rcases h2 with h2 | ⟨g, cap, cur, e, hg, r⟩
  · exact .inl h2
  · exact .inr ⟨g, cap, cur, e, Nat.le_trans hb hg, r⟩
theorem Vs.lift {w w' : World} {V V' : Nat → Prop} {a : Option Addr} {n c : Nat} {v : List Int} (h : Vs w V a n c v) (hb : Below w.heap.size w w') (hV : ∀ x, x < w.heap.size → V x → V' x) : Vs w' V' a n c v := (h.wide hV).step fun x hx _ _ => hb.block x hx
theorem Vs.cut {w : World} {V : Nat → Prop} {a : Option Addr} {n c m d : Nat} {zs : List Int} (h : Vs w V a n c zs) (hm : m ≤ n) (hd : m ≤ d) (hdc : d ≤ c) : Vs w V a m d (zs.take m) := by
  refine ⟨⟨by rw [List.length_take, h.bs.1]; omega, fun z hz => h.bs.2.1 z (List.mem_of_mem_take hz), ?_⟩, hd, Nat.le_trans hdc h.cm, fun e => by have := h.nil e; omega, fun ad e h0 => h.lies ad e (by omega)⟩
  rcases h.bs.2.2 with h0 | ⟨b, off, e, hc⟩
  · exact .inl (by omega)
  · refine .inr ⟨b, off, e, fun i hi => ?_⟩
    rw [hc i (by omega)]
    simp [List.getD, hi]
theorem below_drew (w : World) : Below w.heap.size w w.drew := ⟨rfl, rfl, rfl, Nat.le_refl _, fun _ _ => rfl⟩
theorem bs_lit (w : World) (zs : List Int) (fl : Nat × Nat) (hb : Okb zs) : Bs (w.alloc (.cells (cells zs).toArray 5 fl)) (some ⟨w.heap.size, 0, none⟩) zs.length zs := by
  refine ⟨rfl, hb, .inr ⟨w.heap.size, 0, rfl, fun i hi => ?_⟩⟩
  rw [Nat.zero_add, cell_of_row _ _ i _ 5 fl (heap_alloc_new w _)]
  simp [cells, List.getElem?_eq_getElem hi, List.getD]
theorem own_bel {wx wy : World} {v : Value} {n base e sz : Nat} {xs : List Value} (hown : wx.ownsRow base e sz v n xs) (g : Below wx.heap.size wx wy) : wy.ownsRow base e sz v n xs := hown.kept (grown_of_below g) (by cases v.ownBlock <;> simp)
/-- A row of bytes that may be written. -/
structure Yr (w : World) (g n : Nat) (ys : List Int) : Prop where
  blk : ∃ cur, w.heap[g]? = some (.cells cur 5 (0, 0))
  bs : Bs w (some ⟨g, 0, none⟩) n ys
theorem bs_set {w : World} {g n i : Nat} {zs : List Int} {z : Int} {cur : Array Value} (h : Bs w (some ⟨g, 0, none⟩) n zs) (hc : w.heap[g]? = some (.cells cur 5 (0, 0))) (hi : i < n) (hz : 0 ≤ z ∧ z ≤ 255) : Bs (w.setCell ⟨g, i, none⟩ (.int .u8 z)) (some ⟨g, 0, none⟩) n (zs.set i z) := by
  refine ⟨by rw [List.length_set]; exact h.1, fun y hy => ?_, .inr ⟨g, 0, rfl, fun j hj => ?_⟩⟩
  · rcases List.mem_or_eq_of_mem_set hy with h1 | rfl
    · exact h.2.1 y h1
    · exact hz
  · have hcell : ∀ j, j < n → w.cell? ⟨g, j, none⟩ = some (.int .u8 (zs.getD j 0)) := fun j hj => by
      rcases h.2.2 with h0 | ⟨b, off, e, hcc⟩
      · omega
      · simp at e
        obtain ⟨rfl, rfl⟩ := e
        have := hcc j hj
        rwa [Nat.zero_add] at this
    have hnew : (w.setCell ⟨g, i, none⟩ (.int .u8 z)).heap[g]? = some (.cells (cur.setIfInBounds i (.int .u8 z)) 5 (0, 0)) := by simp [World.setCell, Array.getElem?_modify, hc]
    have hlen := h.1
    rw [Nat.zero_add, cell_of_row _ _ j _ _ (0, 0) hnew]
    have hold := hcell j hj
    rw [cell_of_row _ _ j _ _ (0, 0) hc] at hold
    by_cases hji : j = i
    · subst hji
      have hsz := (Array.getElem?_eq_some_iff.1 hold).1
      rw [Array.getElem?_setIfInBounds_self_of_lt hsz]
      simp [List.getD, hlen, hj]
    · rw [Array.getElem?_setIfInBounds_ne (Ne.symm hji), hold]
      simp [List.getD, List.getElem?_set_ne (Ne.symm hji)]
theorem Yr.set {w : World} {g n i : Nat} {ys : List Int} {z : Int} (h : Yr w g n ys) (hi : i < n) (hz : 0 ≤ z ∧ z ≤ 255) : Yr (w.setCell ⟨g, i, none⟩ (.int .u8 z)) g n (ys.set i z) := by
  obtain ⟨cur, hc⟩ := h.blk
  exact ⟨⟨cur.setIfInBounds i (.int .u8 z), by simp [World.setCell, Array.getElem?_modify, hc]⟩, bs_set h.bs hc hi hz⟩
theorem Yr.lt {w : World} {g n : Nat} {ys : List Int} (h : Yr w g n ys) : g < w.heap.size := by
  obtain ⟨cur, hc⟩ := h.blk
  exact (Array.getElem?_eq_some_iff.1 hc).1
theorem Yr.same {w w' : World} {g n : Nat} {ys : List Int} (h : Yr w g n ys) (hk : w'.heap[g]? = w.heap[g]?) : Yr w' g n ys := by
  obtain ⟨cur, hc⟩ := h.blk
  refine ⟨⟨cur, hk.trans hc⟩, h.bs.same_block fun ad e _ => ?_⟩
  obtain rfl := Option.some.inj e
  exact hk
theorem Yr.below {w w' : World} {g n : Nat} {ys : List Int} (h : Yr w g n ys) (hb : Below w.heap.size w w') : Yr w' g n ys := h.same (hb.block g h.lt)
theorem Yr.fz {w : World} {g n : Nat} {ys : List Int} (h : Yr w g n ys) (i : Nat) : w.frozen? ⟨g, i, none⟩ = false := by
  obtain ⟨cur, hc⟩ := h.blk
  simp [World.frozen?, hc]
theorem Yr.cell {w : World} {g n : Nat} {ys : List Int} (h : Yr w g n ys) {i : Nat} (hi : i < n) : w.cell? ⟨g, i, none⟩ = some (.int .u8 (ys.getD i 0)) := by
  rcases h.bs.2.2 with h0 | ⟨b, off, e, hc⟩
  · omega
  · simp at e
    obtain ⟨rfl, rfl⟩ := e
    have := hc i hi
    rwa [Nat.zero_add] at this
theorem Yr.ofOwn {w : World} {B n : Nat} {v : Value} {ys : List Int} (h : w.ownsRow B 5 1 v n (cells ys)) (hy : Okb ys) (hn : 0 < n) : ∃ g c, v = .slice (some ⟨g, 0, none⟩) n c ∧ Yr w g n ys ∧ B ≤ g ∧ g < w.heap.size ∧ n ≤ c ∧ c ≤ maxLen := by
  obtain ⟨a, c, rfl, vs⟩ := Vs.ofOwn h hy
  rcases h.2 with ⟨e, e0⟩ | ⟨g, cap, cur, e, hh⟩
  · simp at e; omega
  · simp only [Value.slice.injEq] at e
    obtain ⟨rfl, -, rfl⟩ := e
    have hl := h.lt g rfl
    exact ⟨g, c, rfl, ⟨⟨cur, hh.2.1⟩, vs.bs⟩, hl.1, hl.2, vs.nc, vs.cm⟩
theorem Yr.vs {w : World} {g n c : Nat} {ys : List Int} (h : Yr w g n ys) (hnc : n ≤ c) (hcm : c ≤ maxLen) : Vs w (fun x => x = g) (some ⟨g, 0, none⟩) n c ys :=
  ⟨h.bs, hnc, hcm, fun e => (by cases e), fun ad e _ => (by obtain rfl := Option.some.inj e; rfl)⟩
theorem set_by (w : World) (g i : Nat) (v : Value) : w.grownBy (w.setCell ⟨g, i, none⟩ v) (some g) :=
  ⟨rfl, rfl, rfl, by simp [World.setCell], fun k _ hk => Below.heap_setCell _ _ _ _ (fun e => hk (by rw [e]))⟩
theorem by_trans {a b c : World} {g : Nat} (h : a.grownBy b (some g)) (k : b.grownBy c (some g)) : a.grownBy c (some g) := h.andThen k (fun j e => .inr e)
theorem xor_byte (z y : Int) : 0 ≤ bits BinOp.xor IntKind.u8 z y ∧ bits BinOp.xor IntKind.u8 z y ≤ 255 := by
  rw [bits.eq_3, IntKind.wrap_u8]; omega
/-- The worlds that have but grown since W. -/
def Bw (W wx : World) : Prop := Below W.heap.size W wx
theorem Bw.cell {W wx : World} (h : Bw W wx) {p : Addr} {v : Value} (hc : W.cell? p = some v) : wx.cell? p = some v := (Below.cell h (World.block_lt_of_cell? W p hc)).trans hc
theorem Bw.on {W wx wy : World} (h : Bw W wx) (hb : Below wx.heap.size wx wy) : Bw W wy := bel_bel h (Below.size h) hb
theorem Bw.drew (W : World) : Bw W { W with drawn := W.drawn + 1 } := below_drew W
/-- A region that draws its order and whose callees make memory, walked once. -/
theorem wp_quietC {P : Program} {id : Nat} {Q : Exit → Act → World → Prop} {a : Act} {w : World} {l : List Oper} (C : World → Prop) (hm : P.follows .mixedOrders = true) (hB : Region.lexB .any l.toArray = true) (hC : C { w with drawn := w.drawn + 1 })
    (h : wpQuiet P l.toArray C (fun a' => ∀ w', C w' → Q .normal a' w') l a) : (Code.region id l.toArray true).wp P Q a w := wp_region_quiet (C := C) hm hB hC (by simpa using h)
/-- append of bytes that came in, nil or not, to a row of one's own. -/
theorem wpList_appT {w : World} {ops : Array Oper} {rest : List Oper} {o : Oper} {act : Act} {Q : Exit → Act → World → Prop} (hgd : o.guard = none) (s x : Operand)
    (ho : o.op = .call { callee := .builtin .append, args := #[s, x], argTypes := #[52, 52] })
    (base : Nat) (v : Value) (n : Nat) (X : List Int) (hs : act.eval s = v) (hown : w.ownsRow base 5 1 v n (cells X))
    (a : Option Addr) (m c : Nat) (zs : List Int) (hx : act.eval x = .slice a m c) (hb : Bs w a m zs) (hnm : n + m ≤ 140737488355328) (hbase : base ≤ w.heap.size)
    (h : ∀ v' w', w'.ownsRow base 5 1 v' (n + m) (cells (X ++ zs)) → w.grownBy w' v.ownBlock → wpList Tryz.prog ops Q rest (act.put o.dst v') w') : wpList Tryz.prog ops Q (o :: rest) act w := by
  obtain ⟨i5, hi, hz0, hz1, hz2⟩ := info_parts info5
  have hb1 := hb.1
  cases a with
  | some ad =>
    refine wpList_append_own _ hgd s x 52 ho base 5 i5 (.int .u8 0) 1 1 Tryz.underlying52 hi hz0 hz1 hz2 rfl (by decide) v n _ hs hown ad m c (cells zs) hx (by rw [cells_length, Nat.mul_one, hb1]) (fun j u hj => ?_) (cells_one zs) (by unfold maxLen; omega) (by omega) hbase (fun v' w' h1 h2 h3 => h v' w' (by rw [cells_append]; exact h1) h2)
    have hj' : j < zs.length := by
      have := (List.getElem?_eq_some_iff.1 hj).1
      rwa [cells_length] at this
    rcases hb.2.2 with h0 | ⟨b, off, e, hc⟩
    · omega
    · obtain rfl := Option.some.inj e
      rw [Addr.add_lit, hc j (by omega), ← hj]
      simp [cells, List.getD, hj']
  | none =>
    have hm0 : m = 0 := by
      rcases hb.2.2 with h0 | ⟨b, off, e, _⟩
      · exact h0
      · cases e
    subst hm0
    have hz : zs = [] := List.eq_nil_of_length_eq_zero hb1
    subst hz
    refine wpList_plain hgd fun _ hK => ?_
    rcases hown.2 with ⟨rfl, rfl⟩ | ⟨g, cap, cur, rfl, hr⟩
    · have hr : (Builtin.append_ #[52, 52] o.type #[.slice none 0 0, .slice none 0 c]).run Tryz.prog w = .ok (.slice none 0 0) w := by
        simp [Builtin.append_, run_underlying Tryz.underlying52, sizeOf, typeInfo, hi, Builtin.lenOf, Builtin.firstCells]
      unfold Oper.wp execOp
      simp only [ho, resolve, invoke, builtin, Sem.run_bind, Sem.run_pure, Result.andThen_ok, List.map_toArray, List.map_cons, List.map_nil, hs, hx, hr]
      refine hK _ _ (h _ _ (by rw [List.append_nil]; exact hown) ⟨rfl, rfl, rfl, Nat.le_refl _, fun _ _ _ => rfl⟩)
    · have hnc := hr.2.2.1
      have hr : (Builtin.append_ #[52, 52] o.type #[.slice (some ⟨g, 0, none⟩) n cap, .slice none 0 c]).run Tryz.prog w = .ok (.slice (some ⟨g, 0, none⟩) n cap) w := by
        simp [Builtin.append_, run_underlying Tryz.underlying52, sizeOf, typeInfo, hi, Builtin.lenOf, Builtin.firstCells, hnc, storeCells]
      unfold Oper.wp execOp
      simp only [ho, resolve, invoke, builtin, Sem.run_bind, Sem.run_pure, Result.andThen_ok, List.map_toArray, List.map_cons, List.map_nil, hs, hx, hr]
      refine hK _ _ (h _ _ (by rw [List.append_nil]; exact hown) ⟨rfl, rfl, rfl, Nat.le_refl _, fun _ _ _ => rfl⟩)
end Go.Proofs.YtcbmgpmjnehjdaaGreat
namespace Go.Proofs.YtcbmgpmjnehjdaaGreat
set_option maxRecDepth 100000
open Go.RowKit
set_option linter.unusedVariables false

theorem Okb1 (x : Int) (h : 0 ≤ x ∧ x ≤ 255) : Okb [x] := by intro z hz; simp at hz; rw [hz]; exact h
theorem cells_take13 (T : List Int) (k : Nat) (h : k < T.length) : cells (T.take k) ++ [.int .u8 (T.getD k 0)] = cells (T.take (k + 1)) := by
  have e : T.getD k 0 = T[k] := by simp [List.getD, h]
  rw [List.take_succ_eq_append_getElem h, cells_append, e]
  simp [cells]
set_option maxHeartbeats 1000000 in
/-- The document's number: the n bytes of x. -/
theorem rnum15_ (n : Nat) (x : Int) (w : World) (hx : 0 ≤ x ∧ x ≤ 18446744073709551615) (hn : n ≤ 8) :
    Calls Tryz.prog 109 #[.int .u64 x, .int .i64 n] w fun e w' => ∃ v, e = .returned v ∧ w'.ownsRow w.heap.size 5 1 v n (cells (be n x)) ∧ Below w.heap.size w w' := by
  have HT := hid (be_get n x)
  have HTL : Hid ((be n x).length = n) := be_length n x
  generalize be n x = T at *
  go_enter Tryz.func109, Tryz.ntmps109
  go_wp2_with fail
  go_loopw [5, 6] (fun v i wr => ∃ k : Nat, k ≤ n ∧ i = .int .i64 ((n : Int) - 1 - k) ∧ Hid (wr.ownsRow w.heap.size 5 1 v k (cells (T.take k))) ∧ Hid (Below w.heap.size w wr)) (fun _ i _ => (intOf i + 1).toNat)
  case atStart => exact ⟨0, by omega, by simp, World.ownsRow_nil _ _ _ _, Below.refl _ _⟩
  case round =>
    obtain ⟨k, hk, rfl, HO, HB⟩ := hrel
    have hsz : w.heap.size ≤ wr.heap.size := HB.out.size
    by_cases hlt : k < n
    · obtain ⟨e, he⟩ : ∃ e : Nat, n = e + 1 + k := ⟨n - 1 - k, by omega⟩
      have hIe : ((n : Int) - 1 - k) = (e : Int) := by omega
      have he8 : e < 8 := by omega
      have HZ : Hid (x / 2 ^ (8 * e) % 256 = T.getD k 0) := by
        show _ = _
        rw [HT.out k hlt, pow_256, show n - 1 - k = e from by omega]
      have HS : Hid (cells (T.take k) ++ [.int .u8 (x / 2 ^ (8 * e) % 256)] = cells (T.take (k + 1))) := by
        show _ = _
        rw [HZ.out]
        exact cells_take13 T k (by rw [HTL.out]; omega)
      have HNX : Hid ((e : Int) - 1 = (n : Int) - 1 - ((k + 1 : Nat) : Int)) := by
        show _ = _
        omega
      have he0 : (0 : Int) ≤ (e : Int) := by omega
      have heI : (e : Int) < 8 := by omega
      obtain ⟨z, hz⟩ : ∃ z, x / 2 ^ (8 * e) % 256 = z := ⟨_, rfl⟩
      have hzb : 0 ≤ z ∧ z ≤ 255 := by rw [← hz]; omega
      rw [hz] at HS
      have HOA := hid (HO.out.alloc (.cells #[.int .u8 z] 5))
      have HBS : Hid (Bs (wr.alloc (.cells #[.int .u8 z] 5)) (some ⟨wr.heap.size, 0, none⟩) 1 [z]) := bs_lit wr [z] (0, 0) (Okb1 z hzb)
      have HSZ : Hid (w.heap.size ≤ (wr.alloc (.cells #[.int .u8 z] 5)).heap.size) := by show _ ≤ _; simp; omega
      clear HZ he hlt
      simp only [hIe]
      go_wp2_with (at_builtin; refine wpList_appT rfl _ _ rfl w.heap.size _ k (T.take k) rfl (by exact HOA.out) (some ⟨wr.heap.size, 0, none⟩) 1 1 [z] rfl (by exact HBS.out) (by omega) (by exact HSZ.out) ?_; intro v5 w5 o5 g5; have HO5 := hid o5; have HG5 := hid g5; clear o5 g5)
      have HO6 : Hid (w5.ownsRow w.heap.size 5 1 v5 (k + 1) (cells (T.take (k + 1)))) := by
        have h := HO5.out
        rw [cells_append (T.take k) [z]] at h
        have e : cells (T.take k) ++ cells [z] = cells (T.take (k + 1)) := HS.out
        rw [e] at h
        exact h
      have HB5 : Hid (Below w.heap.size w w5) := (HB.out.alloc hsz (.cells #[.int .u8 z] 5)).grown HG5.out (by exact HSZ.out) (fun p hp => (HO.out.lt p hp).1)
      clear HO5 HG5 HOA HBS
      go_roundw
      case rel => exact ⟨k + 1, by omega, by rw [← HNX.out], HO6, HB5⟩
      case measure => simp [intOf]
    · obtain rfl : k = n := by omega
      have hIe : ((k : Int) - 1 - k) = -1 := by omega
      have hfull : T.take k = T := List.take_of_length_le (by rw [HTL.out]; exact Nat.le_refl _)
      rw [hfull] at HO
      simp only [hIe]
      clear hlt hk
      go_wp2_with fail
      go_ret
      exact ⟨_, rfl, HO.out, HB.out⟩
theorem or8 (v z : Int) (v0 : 0 ≤ v) (v1 : v < 72057594037927936) (z0 : 0 ≤ z) (z1 : z ≤ 255) : bits BinOp.or IntKind.u64 (v * 256) z = v * 256 + z := by
  obtain ⟨a, rfl⟩ := Int.eq_ofNat_of_zero_le v0
  obtain ⟨b, rfl⟩ := Int.eq_ofNat_of_zero_le z0
  have h := bits_or_u64_nat (a * 256) b (by omega) (by omega)
  have e : a * 256 ||| b = a * 256 + b := by
    have := Nat.shiftLeft_add_eq_or_of_lt (a := a) (b := b) (i := 8) (by omega)
    rw [Nat.shiftLeft_eq] at this
    exact this.symm
  rw [e] at h
  rw [show ((a : Int) * 256) = ((a * 256 : Nat) : Int) from by omega, h]
  omega

/-- The document's read. -/
def rdN (zs : List Int) (p n : Nat) : Int := if p + n ≤ zs.length then val ((zs.drop p).take n) else 0
set_option maxHeartbeats 1000000 in
theorem rread15_ (a : Option Addr) (m c p n : Nat) (zs : List Int) (w : World) (hb : Bs w a m zs) (hm : m ≤ maxLen) (hp : p ≤ 1000000) (hn : n ≤ 8) :
    Calls Tryz.prog 65 #[.slice a m c, .int .i64 p, .int .i64 n] w fun e w' => e = .returned (.int .u64 (rdN zs p n)) ∧ w' = w := by
  unfold maxLen at hm
  have hl := hb.1
  unfold rdN
  by_cases hlt : m < p + n
  · have h1 : (p : Int) + n > m := by omega
    rw [if_neg (by omega)]
    go_enter Tryz.func65, Tryz.ntmps65
    go_wp2_with fail
    go_ret
    exact ⟨rfl, rfl⟩
  · have h1 : ¬ (p : Int) + n > m := by omega
    rw [if_pos (by omega)]
    have HB : Hid (∀ z ∈ zs.drop p, 0 ≤ z ∧ z ≤ 255) := fun z hz => hb.2.1 z (List.mem_of_mem_drop hz)
    have HL : Hid ((zs.drop p).length = m - p) := by show _ = _; rw [List.length_drop, hl]
    have HC : Hid (∀ j, j < n → ∃ b off, a = some ⟨b, off, none⟩ ∧ w.cell? ⟨b, off + (p + j), none⟩ = some (.int .u8 ((zs.drop p).getD j 0))) := fun j hj => by
      rcases hb.2.2 with h0 | ⟨b, off, e, hc⟩
      · omega
      · refine ⟨b, off, e, ?_⟩
        rw [hc (p + j) (by omega)]
        simp only [List.getD, List.getElem?_drop]
    generalize zs.drop p = ys at *
    clear hb
    go_enter Tryz.func65, Tryz.ntmps65
    go_wp2_with fail
    go_loop [7, 8] (fun v i => ∃ j : Nat, j ≤ n ∧ i = .int .i64 j ∧ v = .int .u64 (val (ys.take j))) (fun _ i => n - (intOf i).toNat)
    case atStart => exact ⟨0, by omega, rfl, rfl⟩
    case round =>
      obtain ⟨j, hj, rfl, rfl⟩ := hrel
      by_cases hjn : j < n
      · have hjI : (j : Int) < n := by omega
        obtain ⟨b, off, rfl, cc⟩ := HC.out j hjn
        have HV := hid (val_take ys j (by rw [HL.out]; omega))
        have u0 := val_bound (ys.take j) (fun z hz => HB.out z (List.mem_of_mem_take hz))
        have ul : (ys.take j).length = j := by rw [List.length_take, HL.out]; omega
        rw [ul] at u0
        have u2 : (256 : Int) ^ j ≤ 72057594037927936 := (by decide : ∀ x : Fin 8, (256 : Int) ^ (x : Nat) ≤ 72057594037927936) ⟨j, by omega⟩
        have ub := getD_byte6 HB.out j
        obtain ⟨V, HV2⟩ : ∃ V, Hid (val (ys.take j) = V) := ⟨_, rfl⟩
        rw [HV2.out] at u0 ⊢
        generalize ys.getD j 0 = y at *
        have v0 : 0 ≤ V := u0.1
        have v1 : V < 72057594037927936 := by omega
        have ho := or8 V y v0 v1 ub.1 ub.2
        have hpj : (p : Int) + j < m := by omega
        obtain ⟨pj, Hpj⟩ : ∃ x : Nat, Hid (p + j = x) := ⟨_, rfl⟩
        have tpj : (p : Int) + j = pj := by have := Hpj.out; omega
        have tl : (pj : Int) < m := by omega
        rw [Hpj.out] at cc
        clear u0 u2 ul hpj
        go_wp2_with fail
        go_round
        case rel => exact ⟨j + 1, by omega, by go_num, by rw [HV.out, HV2.out]⟩
        case measure => simp [intOf]; omega
      · have hjI : ¬ (j : Int) < n := by omega
        obtain rfl : j = n := by omega
        clear hjn hj
        go_wp2_with fail
        go_ret
        exact ⟨rfl, rfl⟩
end Go.Proofs.YtcbmgpmjnehjdaaGreat
namespace Go.Proofs.YtcbmgpmjnehjdaaGreat
set_option maxRecDepth 100000
open Go.RowKit
set_option linter.unusedVariables false

/-- A row as it is answered: two lists in new memory, and an error. -/
def Rp (w : World) (K V : List Int) (E : Int) (e : Ending) (w' : World) : Prop := ∃ ka kc va vc, e = .returned (.tuple #[.agg #[.slice ka K.length kc, .slice va V.length vc], .int .i64 E]) ∧ Vs w' (fun x => w.heap.size ≤ x) ka K.length kc K ∧ Vs w' (fun x => w.heap.size ≤ x) va V.length vc V ∧ Below w.heap.size w w'
theorem results_rw {fn : Func} {p u : Tmp} (h : fn.results = #[.cell p 54, .tmp u]) (tmps : Array Value) (w : World) (g : Nat) (ka va : Option Addr) (kn kc vn vc : Nat) (v : Value)
    (hp : tmps.getD p undef = .pointer (some ⟨g, 0, none⟩)) (hv : tmps.getD u undef = v) (h0 : w.cell? ⟨g, 0, none⟩ = some (.slice ka kn kc)) (h1 : w.cell? ⟨g, 1, none⟩ = some (.slice va vn vc)) :
    (results fn tmps).run Tryz.prog w = .ok (.tuple #[.agg #[.slice ka kn kc, .slice va vn vc], v]) w := by
  rw [results_cell_tmp h, hp, hv]
  go_simp
theorem two_cell {w : World} {g : Nat} {a b : Value} {T : TypeId} (h : w.heap[g]? = some (.cells #[a, b] T (0, 0))) : w.cell? ⟨g, 0, none⟩ = some a ∧ w.cell? ⟨g, 1, none⟩ = some b := by
  refine ⟨?_, ?_⟩
  · rw [cell_of_row w g 0 _ T (0, 0) h]; rfl
  · rw [cell_of_row w g 1 _ T (0, 0) h]; rfl
theorem two_set {w : World} {q : Nat} {x0 x1 a b : Value} {T : TypeId} (h : w.heap[q]? = some (.cells #[x0, x1] T (0, 0))) : ((w.setCell ⟨q, 0, none⟩ a).setCell ⟨q, 1, none⟩ b).heap[q]? = some (.cells #[a, b] T (0, 0)) := by
  simp [World.setCell, Array.getElem?_modify, h]
theorem two_other {w : World} {q j : Nat} {a b : Value} (h : j ≠ q) : ((w.setCell ⟨q, 0, none⟩ a).setCell ⟨q, 1, none⟩ b).heap[j]? = w.heap[j]? := by
  simp [World.setCell, Array.getElem?_modify, Ne.symm h]
set_option maxHeartbeats 400000 in
/-- The document's SameRow. -/
theorem sameRow_ (ka va kb vb : Option Addr) (kn kc vn vc ln lc un uc : Nat) (k v l u : List Int) (w : World) (hk : Bs w ka kn k) (hv : Bs w va vn v) (hl : Bs w kb ln l) (hu : Bs w vb un u) (h1 : kn ≤ maxLen) (h2 : vn ≤ maxLen) (h3 : ln ≤ maxLen) (h4 : un ≤ maxLen) :
    Calls Tryz.prog 38 #[.agg #[.slice ka kn kc, .slice va vn vc], .agg #[.slice kb ln lc, .slice vb un uc]] w fun e w' => e = .returned (.bool (sameB k l && sameB v u)) ∧ Below w.heap.size w w' := by
  unfold maxLen at h1 h2 h3 h4
  have BA : Below w.heap.size w ((w.alloc (.cells #[.slice ka kn kc, .slice va vn vc] 54)).alloc (.cells #[.slice kb ln lc, .slice vb un uc] 54)) := ((Below.refl _ _).alloc (Nat.le_refl _) _).alloc (by simp) _
  have HBA := hid BA
  have HK := hid hk
  have HV := hid hv
  have HL := hid hl
  have HU := hid hu
  have m1 : ((w.alloc (.cells #[.slice ka kn kc, .slice va vn vc] 54)).alloc (.cells #[.slice kb ln lc, .slice vb un uc] 54)).heap[w.heap.size]? = some (.cells #[.slice ka kn kc, .slice va vn vc] 54 (0, 0)) := (Below.heap_alloc _ _ _ (by simp)).trans (heap_alloc_new w _)
  have m2 : ((w.alloc (.cells #[.slice ka kn kc, .slice va vn vc] 54)).alloc (.cells #[.slice kb ln lc, .slice vb un uc] 54)).heap[w.heap.size + 1]? = some (.cells #[.slice kb ln lc, .slice vb un uc] 54 (0, 0)) := by
    have := heap_alloc_new (w.alloc (.cells #[.slice ka kn kc, .slice va vn vc] 54)) (.cells #[.slice kb ln lc, .slice vb un uc] 54)
    rw [World.size_alloc] at this
    exact this
  have HM1 := hid m1
  have HM2 := hid m2
  clear BA hk hv hl hu m1 m2
  obtain ⟨p, HP⟩ : ∃ p, Hid (sameB k l = p) := ⟨_, rfl⟩
  obtain ⟨q, HQ⟩ : ∃ p, Hid (sameB v u = p) := ⟨_, rfl⟩
  rw [HP.out, HQ.out]
  have ks1 := fun wx (h1 : Bs wx ka kn k) (h2 : Bs wx kb ln l) => same_d ka kb kn kc ln lc k l wx h1 h2 (by unfold maxLen; omega) (by unfold maxLen; omega)
  rw [HP.out] at ks1
  go_enter Tryz.func38, Tryz.ntmps38
  go_wp2_with fail
  refine (ks1 _ (HK.out.below HBA.out) (HL.out.below HBA.out)).mono ?_
  rintro e w1 ⟨rfl, d1⟩
  have HB1 := hid (bel_bel HBA.out HBA.out.size d1.below)
  have z1 : w1.cell? ⟨w.heap.size, 1, none⟩ = some (.slice va vn vc) := by rw [cell_of_row w1 w.heap.size 1 _ 54 (0, 0) ((d1.at _).trans HM1.out)]; rfl
  have z2 : w1.cell? ⟨w.heap.size + 1, 1, none⟩ = some (.slice vb un uc) := by rw [cell_of_row w1 (w.heap.size + 1) 1 _ 54 (0, 0) ((d1.at _).trans HM2.out)]; rfl
  clear d1 HM1 HM2 HBA
  have ks := same_d va vb vn vc un uc v u w1 (HV.out.below HB1.out) (HU.out.below HB1.out) (by unfold maxLen; omega) (by unfold maxLen; omega)
  rw [HQ.out] at ks
  go_wp2_with fail
  clear z1 z2
  refine ks.mono ?_
  rintro e w2 ⟨rfl, d2⟩
  have HB2 := hid (bel_bel HB1.out HB1.out.size d2.below)
  clear d2 ks
  cases p
  · go_wp2_with fail
    go_ret
    exact ⟨rfl, HB2.out⟩
  · go_wp2_with fail
    go_ret
    exact ⟨rfl, HB2.out⟩
/-- The boots' row. -/
def bOk (n : Int) : Bool := decide (0 ≤ n ∧ n ≤ 4611686018427387904)
def bK (n : Int) : List Int := if bOk n then [66] else []
def bV (n : Int) : List Int := if bOk n then be 8 n else []
def bE (n : Int) : Int := if bOk n then 0 else 114
set_option maxHeartbeats 400000 in
/-- The document's PutBoots. -/
theorem rputBoots_ (n : Int) (w : World) (hn : -9223372036854775808 ≤ n ∧ n ≤ 9223372036854775807) :
    Calls Tryz.prog 70 #[.int .i64 n] w fun e w' => Rp w (bK n) (bV n) (bE n) e w' := by
  by_cases h : 0 ≤ n ∧ n ≤ 4611686018427387904
  · have hok : bOk n = true := decide_eq_true h
    have h0 : ¬ n < 0 := by omega
    have h1 : ¬ n > 4611686018427387904 := by omega
    have HK : Hid (bK n = [66]) := by show _ = _; unfold bK; rw [hok]; rfl
    have HV : Hid (bV n = be 8 n) := by show _ = _; unfold bV; rw [hok]; rfl
    have HE : Hid (bE n = 0) := by show _ = _; unfold bE; rw [hok]; rfl
    rw [HK.out, HV.out, HE.out]
    clear hok HK HV HE
    go_enter Tryz.func70, Tryz.ntmps70
    go_wp2_with fail
    have BA : Below w.heap.size w ((w.alloc (.cells #[.slice none 0 0, .slice none 0 0] 54)).alloc (.cells #[.int .u8 66] 5)) := ((Below.refl _ _).alloc (Nat.le_refl _) _).alloc (by simp) _
    have m1 : ((w.alloc (.cells #[.slice none 0 0, .slice none 0 0] 54)).alloc (.cells #[.int .u8 66] 5)).heap[w.heap.size]? = some (.cells #[.slice none 0 0, .slice none 0 0] 54 (0, 0)) := (Below.heap_alloc _ _ _ (by simp)).trans (heap_alloc_new w _)
    have m2 : Bs ((w.alloc (.cells #[.slice none 0 0, .slice none 0 0] 54)).alloc (.cells #[.int .u8 66] 5)) (some ⟨w.heap.size + 1, 0, none⟩) 1 [66] := by
      have := bs_lit (w.alloc (.cells #[.slice none 0 0, .slice none 0 0] 54)) [66] (0, 0) (Okb1 66 (by omega))
      rw [World.size_alloc] at this
      exact this
    refine (rnum15_ 8 n _ (by omega) (by omega)).mono ?_
    rintro e w2 ⟨v2, rfl, o2, g2⟩
    obtain ⟨va, vc, rfl, vs⟩ := Vs.ofOwn o2 (be_byte _ _)
    have HB := hid (bel_bel BA BA.size g2)
    have HM := hid ((g2.block w.heap.size (by simp; omega)).trans m1)
    have HKB := hid (m2.below g2)
    have HVS := hid (vs.wide (V' := fun x => w.heap.size < x) fun x _ hx => by simp at hx; omega)
    clear BA m1 m2 o2 g2 vs
    have c0 : w2.cell? ⟨w.heap.size, 0, none⟩ = some (.slice none 0 0) := by rw [cell_of_row w2 w.heap.size 0 _ 54 (0, 0) HM.out]; rfl
    have c1 : w2.cell? ⟨w.heap.size, 1, none⟩ = some (.slice none 0 0) := by rw [cell_of_row w2 w.heap.size 1 _ 54 (0, 0) HM.out]; rfl
    have f0 : w2.frozen? ⟨w.heap.size, 0, none⟩ = false := by simp [World.frozen?, HM.out]
    have f1 : w2.frozen? ⟨w.heap.size, 1, none⟩ = false := by simp [World.frozen?, HM.out]
    have HM2 := hid (two_set (a := .slice (some ⟨w.heap.size + 1, 0, none⟩) 1 1) (b := .slice va 8 vc) HM.out)
    have HO := fun j (h : j ≠ w.heap.size) => two_other (w := w2) (a := .slice (some ⟨w.heap.size + 1, 0, none⟩) 1 1) (b := .slice va 8 vc) h
    have HB3 := hid ((HB.out.setCell (p := ⟨w.heap.size, 0, none⟩) (Nat.le_refl _) (.slice (some ⟨w.heap.size + 1, 0, none⟩) 1 1)).setCell (p := ⟨w.heap.size, 1, none⟩) (Nat.le_refl _) (.slice va 8 vc))
    go_wp2_with fail
    refine bodyPost_ret (v := .tuple #[.agg #[.slice (some ⟨w.heap.size + 1, 0, none⟩) 1 1, .slice va 8 vc], .int .i64 0]) ?_ rfl ?_
    · exact results_rw rfl _ _ w.heap.size _ _ 1 1 8 vc _ rfl rfl (two_cell HM2.out).1 (two_cell HM2.out).2
    · refine ⟨some ⟨w.heap.size + 1, 0, none⟩, 1, va, vc, by rw [be_length]; rfl, ?_, ?_, HB3.out⟩
      · exact ⟨HKB.out.same_block fun ad e _ => by obtain rfl := Option.some.inj e; exact HO _ (by show w.heap.size + 1 ≠ _; omega), by simp, by unfold maxLen; simp, fun e => (by cases e), fun ad e _ => by obtain rfl := Option.some.inj e; show w.heap.size ≤ w.heap.size + 1; omega⟩
      · rw [be_length]
        exact (HVS.out.step fun x _ hx _ => HO x (by omega)).wide fun x _ hx => by omega
  · have hok : bOk n = false := decide_eq_false h
    have HK : Hid (bK n = []) := by show _ = _; unfold bK; rw [hok]; rfl
    have HV : Hid (bV n = []) := by show _ = _; unfold bV; rw [hok]; rfl
    have HE : Hid (bE n = 114) := by show _ = _; unfold bE; rw [hok]; rfl
    rw [HK.out, HV.out, HE.out]
    have BA : Below w.heap.size w (w.alloc (.cells #[.slice none 0 0, .slice none 0 0] 54)) := (Below.refl _ _).alloc (Nat.le_refl _) _
    have m1 := heap_alloc_new w (.cells #[.slice none 0 0, .slice none 0 0] 54)
    by_cases h0 : n < 0
    · clear hok HK HV HE
      go_enter Tryz.func70, Tryz.ntmps70
      go_wp2_with fail
      refine bodyPost_ret (v := .tuple #[.agg #[.slice none 0 0, .slice none 0 0], .int .i64 114]) ?_ rfl ⟨none, 0, none, 0, rfl, vs_none _ _, vs_none _ _, BA⟩
      exact results_rw rfl _ _ w.heap.size _ _ 0 0 0 0 _ rfl rfl (two_cell m1).1 (two_cell m1).2
    · have h1 : n > 4611686018427387904 := by omega
      clear hok HK HV HE
      go_enter Tryz.func70, Tryz.ntmps70
      go_wp2_with fail
      refine bodyPost_ret (v := .tuple #[.agg #[.slice none 0 0, .slice none 0 0], .int .i64 114]) ?_ rfl ⟨none, 0, none, 0, rfl, vs_none _ _, vs_none _ _, BA⟩
      exact results_rw rfl _ _ w.heap.size _ _ 0 0 0 0 _ rfl rfl (two_cell m1).1 (two_cell m1).2
end Go.Proofs.YtcbmgpmjnehjdaaGreat
namespace Go.Proofs.YtcbmgpmjnehjdaaGreat
set_option maxRecDepth 100000
open Go.RowKit
set_option linter.unusedVariables false

/-- The boots of a row. -/
def gbOk (k v : List Int) : Bool := decide (v.length = 8 ∧ val v ≤ 4611686018427387904 ∧ k = [66])
def gbN (k v : List Int) : Int := if gbOk k v then val v else 0
def gbE (k v : List Int) : Int := if gbOk k v then 0 else 114
theorem rdN_all {v : List Int} (h : v.length = 8) : rdN v 0 8 = val v := by
  unfold rdN
  rw [if_pos (by omega), List.drop_zero, List.take_of_length_le (by omega)]
theorem be_val8 {v : List Int} (hb : ∀ z ∈ v, 0 ≤ z ∧ z ≤ 255) (h : v.length = 8) : be 8 (val v) = v := by
  have := be_val v hb
  rwa [h] at this
set_option maxHeartbeats 400000 in
theorem rgetBoots_ (ka va : Option Addr) (kn kc vn vc : Nat) (k v : List Int) (w : World) (hk : Bs w ka kn k) (hv : Bs w va vn v) (h1 : kn ≤ maxLen) (h2 : vn ≤ maxLen) :
    Calls Tryz.prog 31 #[.agg #[.slice ka kn kc, .slice va vn vc]] w fun e w' => e = .returned (.tuple #[.int .i64 (gbN k v), .int .i64 (gbE k v)]) ∧ Below w.heap.size w w' := by
  have h2' := h2
  unfold maxLen at h2'
  have hvl := hv.1
  have BA : Below w.heap.size w (w.alloc (.cells #[.slice ka kn kc, .slice va vn vc] 54)) := (Below.refl _ _).alloc (Nat.le_refl _) _
  have m1 := heap_alloc_new w (.cells #[.slice ka kn kc, .slice va vn vc] 54)
  have HM := hid m1
  have HB := hid BA
  have HK := hid hk
  have HV := hid hv
  have k1 := rread15_ va vn vc 0 8 v _ (hv.below BA) h2 (by omega) (by omega)
  clear BA m1
  by_cases h8 : vn = 8
  · have hv8 : v.length = 8 := hvl.trans h8
    rw [rdN_all hv8] at k1
    have hvb := val_bound v hv.2.1
    rw [hv8] at hvb
    obtain ⟨x, HX⟩ : ∃ x, Hid (val v = x) := ⟨_, rfl⟩
    rw [HX.out] at k1 hvb
    have hx0 : 0 ≤ x := hvb.1
    have hx1 : x ≤ 18446744073709551615 := by have := hvb.2; omega
    have e8 : ((vn : Int) != 8) = false := by rw [h8]; rfl
    have e8' : (vn : Int) = 8 := by omega
    have HBV : Hid (be 8 x = v) := by show _ = _; rw [← HX.out]; exact be_val8 hv.2.1 hv8
    have HVN := hid h8
    clear hk hv hvb h8 e8'
    by_cases hb : x ≤ 4611686018427387904
    · have hb' : ¬ x > 4611686018427387904 := by omega
      obtain ⟨q, HQ⟩ : ∃ q, Hid (sameB [66] k = q) := ⟨_, rfl⟩
      have HG : Hid (gbN k v = (if q then x else 0) ∧ gbE k v = (if q then 0 else 114)) := by
        have hq : gbOk k v = q := by
          rw [← HQ.out]
          unfold gbOk sameB
          refine decide_eq_decide.2 ⟨fun h => h.2.2.symm, fun h => ⟨hv8, by rw [HX.out]; exact hb, h.symm⟩⟩
        unfold gbN gbE
        rw [hq, HX.out]
        exact ⟨rfl, rfl⟩
      have kp := fun wx => rputBoots_ x wx (by omega)
      have hbo : bOk x = true := decide_eq_true ⟨hx0, hb⟩
      have f1 : bK x = [66] := by unfold bK; rw [hbo]; rfl
      have f2 : bV x = be 8 x := by unfold bV; rw [hbo]; rfl
      have f3 : bE x = 0 := by unfold bE; rw [hbo]; rfl
      rw [f1, f2, f3, HBV.out] at kp
      rw [HG.out.1, HG.out.2]
      clear f1 f2 f3 hbo HG
      have hwr : IntKind.i64.wrap x = x := by simp [IntKind.wrap, IntKind.bits, IntKind.signed]; omega
      go_enter Tryz.func31, Tryz.ntmps31
      go_wp2_with fail
      refine k1.mono ?_
      rintro e wy ⟨rfl, hw⟩
      rw [hw]
      clear hw wy k1
      have c1 := (two_cell HM.out).2
      go_wp2_with fail
      clear c1
      refine (kp _).mono ?_
      rintro e w2 ⟨pa, pc, qa, qc, rfl, vk, vv, g2⟩
      have HB2 := hid (bel_bel HB.out HB.out.size g2)
      have HM2 := hid ((g2.block w.heap.size (by simp)).trans HM.out)
      have HLT := hid g2.size
      have HVK := hid vk
      have HVV := hid vv
      clear vk vv g2 HBV HX
      rw [hvl] at HVV
      have B3 : Below w2.heap.size w2 (w2.alloc (.cells #[.slice pa 1 pc, .slice qa vn qc] 54)) := (Below.refl _ _).alloc (Nat.le_refl _) _
      have HM3 := hid ((B3.block w.heap.size (Nat.lt_of_lt_of_le (by simp) HLT.out)).trans HM2.out)
      have HB3 := hid (bel_bel HB2.out HB2.out.size B3)
      have ks := sameRow_ pa qa ka va 1 pc vn qc kn kc vn vc [66] v k v _ (HVK.out.bs.below B3) (HVV.out.bs.below B3) ((HK.out.below HB2.out).below B3) ((HV.out.below HB2.out).below B3) (by unfold maxLen; omega) (by unfold maxLen; omega) h1 h2
      rw [sameB_self, Bool.and_true, HQ.out] at ks
      have d0 := (two_cell HM3.out).1
      have d1 := (two_cell HM3.out).2
      clear B3 HM2 HM
      go_wp2_with fail
      clear d0 d1
      refine ks.mono ?_
      rintro e w4 ⟨rfl, g4⟩
      have HB4 := hid (bel_bel HB3.out HB3.out.size g4)
      clear g4 ks
      cases q
      · go_wp2_with fail
        go_ret2
        exact ⟨rfl, HB4.out⟩
      · go_wp2_with fail
        go_ret2
        exact ⟨rfl, HB4.out⟩
    · have hb' : x > 4611686018427387904 := by omega
      have HG : Hid (gbN k v = 0 ∧ gbE k v = 114) := by
        have hq : gbOk k v = false := decide_eq_false fun h => by have := h.2.1; rw [HX.out] at this; omega
        unfold gbN gbE
        rw [hq]
        exact ⟨rfl, rfl⟩
      rw [HG.out.1, HG.out.2]
      clear HG HBV
      go_enter Tryz.func31, Tryz.ntmps31
      go_wp2_with fail
      refine k1.mono ?_
      rintro e wy ⟨rfl, hw⟩
      rw [hw]
      clear hw wy k1
      have c1 := (two_cell HM.out).2
      go_wp2_with fail
      go_ret2
      exact ⟨rfl, HB.out⟩
  · have e8 : ((vn : Int) != 8) = true := bne_iff_ne.2 (by omega)
    have e8' : ¬ (vn : Int) = 8 := by omega
    have HG : Hid (gbN k v = 0 ∧ gbE k v = 114) := by
      have hq : gbOk k v = false := decide_eq_false fun h => by have := h.1; omega
      unfold gbN gbE
      rw [hq]
      exact ⟨rfl, rfl⟩
    rw [HG.out.1, HG.out.2]
    clear HG
    generalize rdN v 0 8 = x at k1
    go_enter Tryz.func31, Tryz.ntmps31
    go_wp2_with fail
    refine k1.mono ?_
    rintro e wy ⟨rfl, hw⟩
    rw [hw]
    clear hw wy k1
    have c1 := (two_cell HM.out).2
    go_wp2_with fail
    go_ret2
    exact ⟨rfl, HB.out⟩
end Go.Proofs.YtcbmgpmjnehjdaaGreat
namespace Go.Proofs.YtcbmgpmjnehjdaaGreat
set_option maxRecDepth 100000
open Go.RowKit
set_option linter.unusedVariables false

/-- A lane: its key lies in memory, the rest are numbers. -/
structure Ln where
  k : List Int
  S : Int
  C : Int
  N : Int
  D : Int
  E : Int
  s : Int
  n : Int
def i64r (x : Int) : Prop := -9223372036854775808 ≤ x ∧ x ≤ 9223372036854775807
def u64r (x : Int) : Prop := 0 ≤ x ∧ x ≤ 18446744073709551615
structure Ln.Ok (x : Ln) : Prop where
  S : i64r x.S
  C : i64r x.C
  N : i64r x.N
  D : u64r x.D
  E : u64r x.E
  s : i64r x.s
  n : i64r x.n
/-- The lane as a value, and in a variable. -/
def lnv (a : Option Addr) (c : Nat) (x : Ln) : Value := .agg #[.slice a x.k.length c, .int .i64 x.S, .int .i64 x.C, .int .i64 x.N, .int .u64 x.D, .int .u64 x.E, .int .i64 x.s, .int .i64 x.n]
def lnc (a : Option Addr) (m c : Nat) (S C N D E s n : Int) : Array Value := #[.slice a m c, .int .i64 S, .int .i64 C, .int .i64 N, .int .u64 D, .int .u64 E, .int .i64 s, .int .i64 n]
def Lm (w : World) (g : Nat) (a : Option Addr) (m c : Nat) (S C N D E s n : Int) : Prop := w.heap[g]? = some (.cells #[.slice a m c, .int .i64 S, .int .i64 C, .int .i64 N, .int .u64 D, .int .u64 E, .int .i64 s, .int .i64 n] 64 (0, 0))
section
variable {w w' : World} {g : Nat} {a : Option Addr} {m c : Nat} {S C N D E s n : Int}
theorem Lm.c0 (h : Lm w g a m c S C N D E s n) : w.cell? ⟨g, 0, none⟩ = some (.slice a m c) := (cell_of_row w g 0 _ _ (0, 0) h).trans rfl
theorem Lm.c1 (h : Lm w g a m c S C N D E s n) : w.cell? ⟨g, 1, none⟩ = some (.int .i64 S) := (cell_of_row w g 1 _ _ (0, 0) h).trans rfl
theorem Lm.c2 (h : Lm w g a m c S C N D E s n) : w.cell? ⟨g, 2, none⟩ = some (.int .i64 C) := (cell_of_row w g 2 _ _ (0, 0) h).trans rfl
theorem Lm.c3 (h : Lm w g a m c S C N D E s n) : w.cell? ⟨g, 3, none⟩ = some (.int .i64 N) := (cell_of_row w g 3 _ _ (0, 0) h).trans rfl
theorem Lm.c4 (h : Lm w g a m c S C N D E s n) : w.cell? ⟨g, 4, none⟩ = some (.int .u64 D) := (cell_of_row w g 4 _ _ (0, 0) h).trans rfl
theorem Lm.c5 (h : Lm w g a m c S C N D E s n) : w.cell? ⟨g, 5, none⟩ = some (.int .u64 E) := (cell_of_row w g 5 _ _ (0, 0) h).trans rfl
theorem Lm.c6 (h : Lm w g a m c S C N D E s n) : w.cell? ⟨g, 6, none⟩ = some (.int .i64 s) := (cell_of_row w g 6 _ _ (0, 0) h).trans rfl
theorem Lm.c7 (h : Lm w g a m c S C N D E s n) : w.cell? ⟨g, 7, none⟩ = some (.int .i64 n) := (cell_of_row w g 7 _ _ (0, 0) h).trans rfl
theorem Lm.lt (h : Lm w g a m c S C N D E s n) : g < w.heap.size := (Array.getElem?_eq_some_iff.1 h).1
theorem Lm.at (h : Lm w g a m c S C N D E s n) (e : w'.heap[g]? = w.heap[g]?) : Lm w' g a m c S C N D E s n := by unfold Lm at *; rw [e]; exact h
theorem Lm.kept (h : Lm w g a m c S C N D E s n) (hb : Below w.heap.size w w') : Lm w' g a m c S C N D E s n := h.at (hb.block g h.lt)
theorem Lm.new (w : World) (a : Option Addr) (m c : Nat) (S C N D E s n : Int) : Lm (w.alloc (.cells #[.slice a m c, .int .i64 S, .int .i64 C, .int .i64 N, .int .u64 D, .int .u64 E, .int .i64 s, .int .i64 n] 64)) w.heap.size a m c S C N D E s n := heap_alloc_new w _
end
theorem lnew (w : World) (a : Option Addr) (m c : Nat) (S C N D E s n : Int) : Below w.heap.size w (w.alloc (.cells #[.slice a m c, .int .i64 S, .int .i64 C, .int .i64 N, .int .u64 D, .int .u64 E, .int .i64 s, .int .i64 n] 64)) := (Below.refl _ _).alloc (Nat.le_refl _) _
/-- May the lane be? -/
def lok (m : Nat) (S C N s n : Int) : Bool := decide (vld s n = true ∧ m = 32 ∧ (S = 0 ∨ S = 1) ∧ 1 ≤ C ∧ C ≤ 2147483647 ∧ 0 ≤ N ∧ N ≤ 2147483647)
set_option maxHeartbeats 1000000 in
/-- The document's laneOK. -/
theorem rlaneOK_ (a : Option Addr) (m c : Nat) (S C N D E s n : Int) (w : World) (hm : m ≤ maxLen) :
    Calls Tryz.prog 111 #[.agg #[.slice a m c, .int .i64 S, .int .i64 C, .int .i64 N, .int .u64 D, .int .u64 E, .int .i64 s, .int .i64 n]] w fun e w' => e = .returned (.bool (lok m S C N s n)) ∧ Below w.heap.size w w' := by
  unfold maxLen at hm
  have B0 := lnew w a m c S C N D E s n
  have m0 := Lm.new w a m c S C N D E s n
  obtain ⟨r, HR⟩ : ∃ r, Hid (lok m S C N s n = r) := ⟨_, rfl⟩
  rw [HR.out]
  unfold lok at HR
  obtain ⟨q, hq⟩ : ∃ q, vld s n = q := ⟨_, rfl⟩
  have kv := fun wx => refValid_ s n wx
  rw [hq] at kv HR
  clear hq
  go_enter Tryz.func111, Tryz.ntmps111
  go_wp2_with fail
  refine (kv _).mono ?_
  rintro e w1 ⟨rfl, g1⟩
  have HB := hid (bel_bel B0 B0.size g1)
  have m1 := m0.kept g1
  have c0 := m1.c0
  have c1 := m1.c1
  have c2 := m1.c2
  have c3 := m1.c3
  clear B0 m0 g1 m1
  cases q
  · have hr : Hid (false = r) := by show _ = _; rw [← HR.out]; exact (decide_eq_false (by simp)).symm
    clear HR
    go_wp2_with fail
    all_goals
      go_ret
      exact ⟨ret_bool hr.out, HB.out⟩
  · go_wp2_with fail
    all_goals
      go_ret
      refine ⟨ret_bool ?_, HB.out⟩
      rw [← HR.out]
      simp only [true_and]
      first
        | exact (decide_eq_true (by omega)).symm
        | exact (decide_eq_false (by omega)).symm
        | exact decide_eq_decide.2 (by omega)
end Go.Proofs.YtcbmgpmjnehjdaaGreat
