import Derived.Test.YteeapmcpbmjpmaaGreatVQ
import Derived.Test.YteeapmcpbmjpmaaGreatVA
import Derived.Test.YteeapmcpbmjpmaaGreatUG
import Derived.Deep.RegionHeldLaw
import Derived.Test.YteeapmcpbmjpmaaGreatZL
namespace Go.Proofs.YteeapmcpbmjpmaaGreat
set_option maxRecDepth 100000
open Go.RowKit Go.Shelf Go.Maps
set_option linter.unusedVariables false
attribute [local go_sem ↓] Go.wp_at_zero Go.wp_at_succ

theorem getD_app {x r : List Int} {T j : Nat} (h : x.length = T) : (x ++ r).getD (T + j) 0 = r.getD j 0 := by
  subst h
  simp only [List.getD]
  rw [List.getElem?_append_right (by omega)]
  congr 2
  omega
theorem Okb.right {x r : List Int} (h : Okb (x ++ r)) : Okb r := fun z hz => h z (by simp [hz])
theorem set3a {w : World} {q : Nat} {x0 x1 x2 v : Value} {T : TypeId} (h : w.heap[q]? = some (.cells #[x0, x1, x2] T (0, 0))) : (w.setCell ⟨q, 0, none⟩ v).heap[q]? = some (.cells #[v, x1, x2] T (0, 0)) := by
  simp [World.setCell, Array.getElem?_modify, h]
theorem set3b {w : World} {q : Nat} {x0 x1 x2 v : Value} {T : TypeId} (h : w.heap[q]? = some (.cells #[x0, x1, x2] T (0, 0))) : (w.setCell ⟨q, 1, none⟩ v).heap[q]? = some (.cells #[x0, v, x2] T (0, 0)) := by
  simp [World.setCell, Array.getElem?_modify, h]
theorem bs_at {w : World} {b off n c m p : Nat} {zs : List Int} (h : Bs w (some ⟨b, off, none⟩) n zs) (hnc : n ≤ c) (hp : m + p ≤ n) : Bs w (some ⟨b, if c = m then off else off + m, none⟩) p ((zs.drop m).take p) := by
  refine ⟨by have := h.1; simp; omega, fun z hz => h.2.1 z (List.mem_of_mem_drop (List.mem_of_mem_take hz)), ?_⟩
  by_cases hp0 : p = 0
  · exact .inl hp0
  rcases h.2.2 with h0 | ⟨b', off', e, hc⟩
  · omega
  · obtain ⟨rfl, rfl⟩ : b = b' ∧ off = off' := by simpa using e
    rw [if_neg (by omega)]
    refine .inr ⟨b, off + m, rfl, fun i hi => ?_⟩
    rw [Nat.add_assoc, hc (m + i) (by omega)]
    simp only [List.getD, List.getElem?_take, if_pos hi, List.getElem?_drop]
end Go.Proofs.YteeapmcpbmjpmaaGreat
namespace Go.Proofs.YteeapmcpbmjpmaaGreat
set_option maxRecDepth 100000
open Go.RowKit Go.Shelf Go.Maps
set_option linter.unusedVariables false
attribute [local go_sem ↓] Go.wp_at_zero Go.wp_at_succ

/-- The document's table in the making. -/
structure Dt (w1 : World) (V : Nat → Prop) (W : World) (v : Value) (ds : List RD) : Prop where
  var : W.heap[w1.heap.size]? = some (.cells #[v] 30 (0, 0))
  own : W.ownsRow (w1.heap.size + 1) 55 2 v ds.length (rds ds)
  rv : ∀ d ∈ ds, RV2 W (fun x => V x ∧ x < w1.heap.size) d
  bel : Below w1.heap.size w1 W
theorem Dt.below {w1 W W' : World} {V : Nat → Prop} {v : Value} {ds : List RD} (h : Dt w1 V W v ds) (hb : Below W.heap.size W W') : Dt w1 V W' v ds :=
  ⟨(hb.block _ (Array.getElem?_eq_some_iff.1 h.var).1).trans h.var, own_bel h.own hb, fun d hd => (h.rv d hd).below hb, bel_bel h.bel h.bel.size hb⟩
theorem Dt.app {w1 W W3 w5 : World} {V : Nat → Prop} {v v5 : Value} {ds : List RD} {d : RD} (h : Dt w1 V W v ds) (hB : Below W.heap.size W W3) (hdv : RV2 W (fun x => V x ∧ x < w1.heap.size) d)
    (ho : w5.ownsRow (w1.heap.size + 1) 55 2 v5 (ds ++ [d]).length (rds (ds ++ [d]))) (hg : W3.grownBy w5 v.ownBlock) : Dt w1 V (w5.setCell ⟨w1.heap.size, 0, none⟩ v5) v5 (ds ++ [d]) := by
  have hown : ∀ q, v.ownBlock = some q → w1.heap.size + 1 ≤ q := fun q e => (h.own.lt q e).1
  have hown5 : ∀ q, v5.ownBlock = some q → w1.heap.size + 1 ≤ q := fun q e => (ho.lt q e).1
  have hset : ∀ x, x ≠ w1.heap.size → (w5.setCell ⟨w1.heap.size, 0, none⟩ v5).heap[x]? = w5.heap[x]? := fun x hx => by simp [World.setCell, Array.getElem?_modify, Ne.symm hx]
  have hlt : w1.heap.size < W.heap.size := (Array.getElem?_eq_some_iff.1 h.var).1
  have hs3 := hB.size
  have hsz : (w5.setCell ⟨w1.heap.size, 0, none⟩ v5).heap.size = w5.heap.size := by simp [World.setCell]
  have hv3 := (hB.block _ hlt).trans h.var
  have hv5 : w5.heap[w1.heap.size]? = some (.cells #[v] 30 (0, 0)) := (hg.block _ (by omega) (fun e => by have := hown _ e.symm; omega)).trans hv3
  have hlow : ∀ x, x < w1.heap.size → (w5.setCell ⟨w1.heap.size, 0, none⟩ v5).heap[x]? = W.heap[x]? := fun x hx => (hset x (by omega)).trans ((hg.block x (by omega) (fun e => by have := hown _ e.symm; omega)).trans (hB.block x (by omega)))
  refine ⟨?_, ?_, ?_, ?_⟩
  · simp [World.setCell, Array.getElem?_modify, hv5]
  · refine ho.kept (row := some w1.heap.size) ⟨rfl, rfl, rfl, by rw [hsz]; exact Nat.le_refl _, fun x _ hx => hset x (fun e => hx (by rw [e]))⟩ (.inr fun e => ?_)
    have := hown5 _ e
    omega
  · intro d' hd'
    have hst : ∀ {d : RD}, RV2 W (fun x => V x ∧ x < w1.heap.size) d → RV2 (w5.setCell ⟨w1.heap.size, 0, none⟩ v5) (fun x => V x ∧ x < w1.heap.size) d := fun h => h.step fun x _ hx _ => hlow x hx.2
    rcases List.mem_append.1 hd' with hd' | hd'
    · exact hst (h.rv d' hd')
    · rw [List.mem_singleton] at hd'
      subst hd'
      exact hst hdv
  · have := hg.size
    exact h.bel.trans ⟨hg.os.trans hB.os, hg.tape.trans hB.tape, hg.output.trans hB.output, by rw [hsz]; omega, fun x hx => hlow x hx⟩
theorem Dt.arm {w1 wr w5 : World} {V : Nat → Prop} {v : Value} {ds : List RD} {o : Obj} (h : Dt w1 V wr v ds) (hg : (wr.alloc o).drew.grownBy w5 v.ownBlock) : w5.heap[w1.heap.size]? = some (.cells #[v] 30 (0, 0)) ∧ ∀ x, x < w1.heap.size → w5.heap[x]? = wr.heap[x]? := by
  have hown : ∀ q, v.ownBlock = some q → w1.heap.size + 1 ≤ q := fun q e => (h.own.lt q e).1
  have hlt : w1.heap.size < wr.heap.size := (Array.getElem?_eq_some_iff.1 h.var).1
  have hsz : (wr.alloc o).drew.heap.size = wr.heap.size + 1 := by simp
  have hal : ∀ x, x < wr.heap.size → (wr.alloc o).drew.heap[x]? = wr.heap[x]? := fun x hx => Below.heap_alloc wr o x hx
  exact ⟨(hg.block _ (by omega) (fun e => by have := hown _ e.symm; omega)).trans ((hal _ hlt).trans h.var), fun x hx => (hg.block x (by omega) (fun e => by have := hown _ e.symm; omega)).trans (hal x (by omega))⟩
theorem asT_take {l : List Sx} {k : Nat} (hk : k < l.length) : asT (l.take (k + 1)) = asT (l.take k) ++ [((l.getD k default).k, (l.getD k default).v)] := by
  rw [take_snoc hk]
  simp [asT]
/-- The document's table as it was answered. -/
structure Dr (w : World) (V : Nat → Prop) (t : Nat) (a : Option Addr) (m c : Nat) (M : Tab) : Prop where
  var : w.heap[t]? = some (.cells #[.slice a m c] 30 (0, 0))
  rl : Rl w V a m M
theorem Dr.below {w w' : World} {V : Nat → Prop} {t : Nat} {a : Option Addr} {m c : Nat} {M : Tab} (h : Dr w V t a m c M) (hb : Below w.heap.size w w') : Dr w' V t a m c M :=
  ⟨(hb.block _ (Array.getElem?_eq_some_iff.1 h.var).1).trans h.var, h.rl.below hb⟩
theorem Dr.cell {w : World} {V : Nat → Prop} {t : Nat} {a : Option Addr} {m c : Nat} {M : Tab} (h : Dr w V t a m c M) : w.cell? ⟨t, 0, none⟩ = some (.slice a m c) := by rw [cell_of_row w t 0 _ 30 (0, 0) h.var]; rfl
end Go.Proofs.YteeapmcpbmjpmaaGreat
namespace Go.Proofs.YteeapmcpbmjpmaaGreat
set_option maxRecDepth 100000
open Go.RowKit Go.Shelf Go.Maps
set_option linter.unusedVariables false

def gsE (zs : List Int) : Int := if (gs zs).isSome then 0 else 114
theorem sl_nil (w : World) (V : Nat → Prop) (a : Option Addr) : Sl w V a 0 [] := ⟨rfl, .inl rfl⟩
theorem s_getsA {w0 w : World} {V : Nat → Prop} {a : Option Addr} {n c : Nat} {zs : List Int} {L : List Sx} {E : Int} (m : Nat) (B : Below w0.heap.size w0 w) (h : Vs w V a n c zs) (hn : n ≤ 5000000) (hL : (gs zs).getD [] = L) (hE : gsE zs = E) (hm : L.length = m) :
    Calls Tryz.prog 58 #[.slice a n c] w fun e w' => ∃ a' c', e = .returned (.tuple #[.slice a' m c', .int .i64 E]) ∧ Sl w' (Up w0) a' m L ∧ Below w0.heap.size w0 w' ∧ Below w.heap.size w w' := by
  subst hL hE hm
  unfold gsE
  cases hg : gs zs with
  | none =>
    refine (s_getsNo B h hn hg).mono ?_
    rintro e w1 ⟨rfl, g, bb⟩
    exact ⟨none, 0, rfl, sl_nil _ _ _, g, bb⟩
  | some l =>
    refine (s_gets _ B h hn hg rfl).mono ?_
    rintro e w1 ⟨a', c', rfl, sl, g, bb⟩
    exact ⟨a', c', rfl, sl, g, bb⟩
theorem s_fromNo {w0 w : World} {V : Nat → Prop} {a : Option Addr} {n c : Nat} {zs : List Int} (B : Below w0.heap.size w0 w) (h : Vs w V a n c zs) (hn : n ≤ 5000000) (hM : fb zs = none) :
    Calls Tryz.prog 33 #[.slice a n c] w fun e w' => e = .returned (.tuple #[.pointer none, .int .i64 114]) ∧ Below w0.heap.size w0 w' ∧ Below w.heap.size w w' := by
  refine (fromBytes_ a n c zs w h.bs h.nil h.nc (by omega)).mono ?_
  rintro e w1 (⟨M, t, b, hf, _⟩ | ⟨_, rfl, g⟩)
  · rw [hM] at hf; cases hf
  · exact ⟨rfl, bel_bel B B.size g, g⟩
theorem sameS_self (l : List Sx) : sameS l l = true := by simp [sameS]
theorem sameT_self' (M : Tab) : sameT M M = true := by simp [sameT]
theorem Vs.cut {w : World} {V : Nat → Prop} {a : Option Addr} {n c m d : Nat} {zs : List Int} (h : Vs w V a n c zs) (hm : m ≤ n) (hd : m ≤ d) (hdc : d ≤ c) : Vs w V a m d (zs.take m) := by
  refine ⟨⟨by rw [List.length_take, h.bs.1]; omega, fun z hz => h.bs.2.1 z (List.mem_of_mem_take hz), ?_⟩, hd, Nat.le_trans hdc h.cm, fun e => by have := h.nil e; omega, fun ad e h0 => h.lies ad e (by omega)⟩
  rcases h.bs.2.2 with h0 | ⟨b, off, e, hc⟩
  · exact .inl (by omega)
  · refine .inr ⟨b, off, e, fun i hi => ?_⟩
    rw [hc i (by omega)]
    simp [List.getD, hi]
end Go.Proofs.YteeapmcpbmjpmaaGreat
namespace Go.Proofs.YteeapmcpbmjpmaaGreat
set_option maxRecDepth 100000
open Go.RowKit Go.Shelf Go.Maps
set_option linter.unusedVariables false

/-- A row of bytes that may be written. -/
structure Yr (w : World) (g n : Nat) (ys : List Int) : Prop where
  blk : ∃ cur, w.heap[g]? = some (.cells cur 5 (0, 0))
  bs : Bs w (some ⟨g, 0, none⟩) n ys
theorem bs_set {w : World} {g n i : Nat} {zs : List Int} {z : Int} {cur : Array Value} (h : Bs w (some ⟨g, 0, none⟩) n zs) (hc : w.heap[g]? = some (.cells cur 5 (0, 0))) (hi : i < n) (hz : 0 ≤ z ∧ z ≤ 255) : Bs (w.setCell ⟨g, i, none⟩ (.int .u8 z)) (some ⟨g, 0, none⟩) n (zs.set i z) := by
  refine ⟨by rw [List.length_set]; exact h.1, fun y hy => ?_, .inr ⟨g, 0, rfl, fun j hj => ?_⟩⟩
  · rcases List.mem_or_eq_of_mem_set hy with h1 | rfl
    · exact h.2.1 y h1
    · exact hz
  · have hcell : ∀ j, j < n → w.cell? ⟨g, j, none⟩ = some (.int .u8 (zs.getD j 0)) := fun j hj => by
      rcases h.2.2 with h0 | ⟨b, off, e, hcc⟩
      · omega
      · simp at e
        obtain ⟨rfl, rfl⟩ := e
        have := hcc j hj
        rwa [Nat.zero_add] at this
    have hnew : (w.setCell ⟨g, i, none⟩ (.int .u8 z)).heap[g]? = some (.cells (cur.setIfInBounds i (.int .u8 z)) 5 (0, 0)) := by simp [World.setCell, Array.getElem?_modify, hc]
    have hlen := h.1
    rw [Nat.zero_add, cell_of_row _ _ j _ _ (0, 0) hnew]
    have hold := hcell j hj
    rw [cell_of_row _ _ j _ _ (0, 0) hc] at hold
    by_cases hji : j = i
    · subst hji
      have hsz := (Array.getElem?_eq_some_iff.1 hold).1
      rw [Array.getElem?_setIfInBounds_self_of_lt hsz]
      simp [List.getD, hlen, hj]
    · rw [Array.getElem?_setIfInBounds_ne (Ne.symm hji), hold]
      simp [List.getD, List.getElem?_set_ne (Ne.symm hji)]
theorem Yr.set {w : World} {g n i : Nat} {ys : List Int} {z : Int} (h : Yr w g n ys) (hi : i < n) (hz : 0 ≤ z ∧ z ≤ 255) : Yr (w.setCell ⟨g, i, none⟩ (.int .u8 z)) g n (ys.set i z) := by
  obtain ⟨cur, hc⟩ := h.blk
  exact ⟨⟨cur.setIfInBounds i (.int .u8 z), by simp [World.setCell, Array.getElem?_modify, hc]⟩, bs_set h.bs hc hi hz⟩
theorem Yr.lt {w : World} {g n : Nat} {ys : List Int} (h : Yr w g n ys) : g < w.heap.size := by
  obtain ⟨cur, hc⟩ := h.blk
  exact (Array.getElem?_eq_some_iff.1 hc).1
theorem Yr.same {w w' : World} {g n : Nat} {ys : List Int} (h : Yr w g n ys) (hk : w'.heap[g]? = w.heap[g]?) : Yr w' g n ys := by
  obtain ⟨cur, hc⟩ := h.blk
  refine ⟨⟨cur, hk.trans hc⟩, h.bs.same_block fun ad e _ => ?_⟩
  obtain rfl := Option.some.inj e
  exact hk
theorem Yr.below {w w' : World} {g n : Nat} {ys : List Int} (h : Yr w g n ys) (hb : Below w.heap.size w w') : Yr w' g n ys := h.same (hb.block g h.lt)
theorem Yr.fz {w : World} {g n : Nat} {ys : List Int} (h : Yr w g n ys) (i : Nat) : w.frozen? ⟨g, i, none⟩ = false := by
  obtain ⟨cur, hc⟩ := h.blk
  simp [World.frozen?, hc]
theorem Yr.cell {w : World} {g n : Nat} {ys : List Int} (h : Yr w g n ys) {i : Nat} (hi : i < n) : w.cell? ⟨g, i, none⟩ = some (.int .u8 (ys.getD i 0)) := by
  rcases h.bs.2.2 with h0 | ⟨b, off, e, hc⟩
  · omega
  · simp at e
    obtain ⟨rfl, rfl⟩ := e
    have := hc i hi
    rwa [Nat.zero_add] at this
theorem Yr.ofOwn {w : World} {B n : Nat} {v : Value} {ys : List Int} (h : w.ownsRow B 5 1 v n (cells ys)) (hy : Okb ys) (hn : 0 < n) : ∃ g c, v = .slice (some ⟨g, 0, none⟩) n c ∧ Yr w g n ys ∧ B ≤ g ∧ g < w.heap.size ∧ n ≤ c ∧ c ≤ maxLen := by
  obtain ⟨a, c, rfl, vs⟩ := Vs.ofOwn h hy
  rcases h.2 with ⟨e, e0⟩ | ⟨g, cap, cur, e, hh⟩
  · simp at e; omega
  · simp only [Value.slice.injEq] at e
    obtain ⟨rfl, -, rfl⟩ := e
    have hl := h.lt g rfl
    exact ⟨g, c, rfl, ⟨⟨cur, hh.2.1⟩, vs.bs⟩, hl.1, hl.2, vs.nc, vs.cm⟩
theorem Yr.vs {w : World} {g n c : Nat} {ys : List Int} (h : Yr w g n ys) (hnc : n ≤ c) (hcm : c ≤ maxLen) : Vs w (fun x => x = g) (some ⟨g, 0, none⟩) n c ys :=
  ⟨h.bs, hnc, hcm, fun e => (by cases e), fun ad e _ => (by obtain rfl := Option.some.inj e; rfl)⟩
theorem place13 (x : Int) (n : Nat) (h0 : 0 < n) (hn : n ≤ 4611686018427387904) : ∃ (r : Int) (k : Nat), x.tmod n = r ∧ -(n : Int) < r ∧ r < n ∧ k < n ∧ (r + n).tmod n = k ∧ (r + n) % n = k := by
  have h1 := Int.tmod_lt_of_pos x (show (0 : Int) < n by omega)
  have h2 := Int.lt_tmod_of_pos x (show (0 : Int) < n by omega)
  have h3 := Int.emod_nonneg (x.tmod n + n) (show (n : Int) ≠ 0 by omega)
  have h4 := Int.emod_lt_of_pos (x.tmod n + n) (show (0 : Int) < n by omega)
  refine ⟨x.tmod n, ((x.tmod n + n) % n).toNat, rfl, h2, h1, by omega, ?_, by omega⟩
  rw [Int.tmod_eq_emod_of_nonneg (by omega)]
  omega
theorem set_by (w : World) (g i : Nat) (v : Value) : w.grownBy (w.setCell ⟨g, i, none⟩ v) (some g) :=
  ⟨rfl, rfl, rfl, by simp [World.setCell], fun k _ hk => Below.heap_setCell _ _ _ _ (fun e => hk (by rw [e]))⟩
theorem by_trans {a b c : World} {g : Nat} (h : a.grownBy b (some g)) (k : b.grownBy c (some g)) : a.grownBy c (some g) := h.andThen k (fun j e => .inr e)
theorem Tw.by {w w' : World} {t b g : Nat} {V : Nat → Prop} {M : Tab} (h : Tw w t b V M) (hg : w.grownBy w' (some g)) (ht : t ≠ g) (hb : b ≠ g) (hV : ∀ x, V x → x ≠ g) : Tw w' t b V M :=
  h.step (hg.block t h.tbl.lt (fun e => ht (Option.some.inj e))) (hg.block b h.mp.lt (fun e => hb (Option.some.inj e))) (fun x hx hv _ => hg.block x hx (fun e => hV x hv (Option.some.inj e)))
theorem Dr.by {w w' : World} {t g : Nat} {V : Nat → Prop} {a : Option Addr} {m c : Nat} {M : Tab} (h : Dr w V t a m c M) (hg : w.grownBy w' (some g)) (ht : t ≠ g) (hV : ∀ x, V x → x ≠ g) : Dr w' V t a m c M :=
  ⟨(hg.block t (Array.getElem?_eq_some_iff.1 h.var).1 (fun e => ht (Option.some.inj e))).trans h.var, h.rl.step (fun x hx hv _ => hg.block x hx (fun e => hV x hv (Option.some.inj e)))⟩
theorem xor_byte (z y : Int) : 0 ≤ bits BinOp.xor IntKind.u8 z y ∧ bits BinOp.xor IntKind.u8 z y ≤ 255 := by
  rw [bits.eq_3, IntKind.wrap_u8]; omega
end Go.Proofs.YteeapmcpbmjpmaaGreat
namespace Go.Proofs.YteeapmcpbmjpmaaGreat
set_option maxRecDepth 100000
open Go.RowKit Go.Shelf Go.Maps
set_option linter.unusedVariables false

/-- Few and short enough to be laid anew. -/
def shortX (s : Sx) : Bool := decide (s.k.length ≤ 2000) && decide (s.v.length ≤ 2000)
def shortS (l : List Sx) : Bool := decide (l.length ≤ 2000) && l.all shortX
theorem shortS_no {l : List Sx} {k : Nat} (hk : k < l.length) (h : shortX (l.getD k default) = false) : shortS l = false := by
  have e : l.getD k default = l[k] := by simp [List.getD, hk]
  rw [e] at h
  cases hs : shortS l with
  | false => rfl
  | true =>
    unfold shortS at hs
    rw [Bool.and_eq_true] at hs
    have := (List.all_eq_true.1 hs.2) l[k] (List.getElem_mem hk)
    rw [h] at this
    cases this
theorem short_take {l : List Sx} {k : Nat} (hk : k < l.length) (h : (l.take k).all shortX = true) (hs : shortX (l.getD k default) = true) : (l.take (k + 1)).all shortX = true := by
  have e : l.getD k default = l[k] := by simp [List.getD, hk]
  rw [e] at hs
  rw [List.take_succ_eq_append_getElem hk, List.all_append, h]
  simp [hs]
set_option maxHeartbeats 2000000 in
theorem short_ (U : Nat → Prop) (a : Option Addr) (n c : Nat) (l : List Sx) (w : World) (hl : Sl w U a n l) (hn : n ≤ 140737488355328) :
    Calls Tryz.prog 23 #[.slice a n c] w fun e w' => e = .returned (.bool (shortS l)) ∧ Below w.heap.size w w' := by
  have HL := hid hl
  have HLN : Hid (l.length = n) := hl.len
  clear hl
  by_cases hb : 2000 < n
  · have hI : (n : Int) > 2000 := by omega
    have HX : Hid (shortS l = false) := by
      show _ = _
      unfold shortS
      rw [HLN.out, decide_eq_false (by omega)]
      rfl
    go_enter Tryz.func23, Tryz.ntmps23
    go_wp2_with fail
    go_ret
    rw [HX.out]
    exact ⟨rfl, Below.refl _ _⟩
  have hI0 : ¬ (n : Int) > 2000 := by omega
  go_enter Tryz.func23, Tryz.ntmps23
  go_wp2_with fail
  go_loopw [3] (fun i wr => ∃ k : Nat, k ≤ n ∧ i = .int .i64 k ∧ Hid ((l.take k).all shortX = true) ∧ Hid (Below w.heap.size w wr)) (fun i _ => n - (intOf i).toNat)
  case atStart => exact ⟨0, Nat.zero_le _, rfl, rfl, Below.refl _ _⟩
  case round =>
    obtain ⟨k, hk, rfl, HA, HB⟩ := hrel
    by_cases hlt : k < n
    · have hI : (k : Int) < n := by omega
      have hkL : k < l.length := by rw [HLN.out]; exact hlt
      obtain ⟨bl, off, ka, kc, va, vc, kn, vn, rfl, hkn, hvn, c0, c1, c2, v1, v2⟩ := (HL.out.below HB.out).at hlt
      have hno := fun h => shortS_no (l := l) hkL h
      have hyes := fun h => short_take hkL HA.out h
      obtain ⟨s, HS⟩ : ∃ s, Hid (l.getD k default = s) := ⟨_, rfl⟩
      rw [HS.out] at hkn hvn hno hyes
      have hs : shortX s = (decide (kn ≤ 2000) && decide (vn ≤ 2000)) := by unfold shortX; rw [hkn, hvn]
      have l1 : kn ≤ 9223372036854775807 := Nat.le_trans v1.nc v1.cm
      have l2 : vn ≤ 9223372036854775807 := Nat.le_trans v2.nc v2.cm
      clear hkn hvn v1 v2 c2 hlt hkL HS
      by_cases h1 : 2000 < kn
      · have e1 : (kn : Int) > 2000 := by omega
        have HX := hid (hno (by rw [hs, decide_eq_false (by omega)]; rfl))
        clear hno hyes hs
        go_wp2_with fail
        go_ret
        rw [HX.out]
        exact ⟨rfl, HB.out⟩
      · have e1 : ¬ (kn : Int) > 2000 := by omega
        by_cases h2 : 2000 < vn
        · have e2 : (vn : Int) > 2000 := by omega
          have HX := hid (hno (by rw [hs, decide_eq_false (show ¬ vn ≤ 2000 by omega)]; simp))
          clear hno hyes hs
          go_wp2_with fail
          go_ret
          rw [HX.out]
          exact ⟨rfl, HB.out⟩
        · have e2 : ¬ (vn : Int) > 2000 := by omega
          have HX := hid (hyes (by rw [hs, decide_eq_true (show kn ≤ 2000 by omega), decide_eq_true (show vn ≤ 2000 by omega)]; rfl))
          clear hno hyes hs
          go_wp2_with fail
          go_roundw
          case rel => exact ⟨k + 1, by omega, by go_num, HX, HB⟩
          case measure => simp [intOf]; omega
    · have hI : ¬ (k : Int) < n := by omega
      have HX : Hid (shortS l = true) := by
        have h := HA.out
        rw [List.take_of_length_le (by rw [HLN.out]; omega)] at h
        show _ = _
        unfold shortS
        rw [h, decide_eq_true (by rw [HLN.out]; omega)]
        rfl
      clear hlt
      go_wp2_with fail
      go_ret
      rw [HX.out]
      exact ⟨rfl, HB.out⟩
end Go.Proofs.YteeapmcpbmjpmaaGreat
namespace Go.Proofs.YteeapmcpbmjpmaaGreat
set_option maxRecDepth 100000
open Go.RowKit Go.Shelf Go.Maps
set_option linter.unusedVariables false

theorem take_sx {l : List Sx} {k : Nat} (hk : k < l.length) : l.take (k + 1) = l.take k ++ [l.getD k default] := by
  have e : l.getD k default = l[k] := by simp [List.getD, hk]
  rw [List.take_succ_eq_append_getElem hk, e]
end Go.Proofs.YteeapmcpbmjpmaaGreat
namespace Go.Proofs.YteeapmcpbmjpmaaGreat
set_option maxRecDepth 100000
open Go.RowKit Go.Shelf Go.Maps
set_option linter.unusedVariables false
attribute [local go_sem ↓] Go.wp_at_zero Go.wp_at_succ

end Go.Proofs.YteeapmcpbmjpmaaGreat
