import Derived.Test.YtnmklleoilicdaaVH
namespace Go.Proofs.Ytnmklleoilicdaa
set_option maxRecDepth 100000
open Go.RowKit Go.Shelf Go.Maps
set_option linter.unusedVariables false

/-- A row of bytes that may be written. -/
structure Yr (w : World) (g n : Nat) (ys : List Int) : Prop where
  blk : ∃ cur, w.heap[g]? = some (.cells cur 5 (0, 0))
  bs : Bs w (some ⟨g, 0, none⟩) n ys
theorem bs_set {w : World} {g n i : Nat} {zs : List Int} {z : Int} {cur : Array Value} (h : Bs w (some ⟨g, 0, none⟩) n zs) (hc : w.heap[g]? = some (.cells cur 5 (0, 0))) (hi : i < n) (hz : 0 ≤ z ∧ z ≤ 255) : Bs (w.setCell ⟨g, i, none⟩ (.int .u8 z)) (some ⟨g, 0, none⟩) n (zs.set i z) := by
  refine ⟨by rw [List.length_set]; exact h.1, fun y hy => ?_, .inr ⟨g, 0, rfl, fun j hj => ?_⟩⟩
  · rcases List.mem_or_eq_of_mem_set hy with h1 | rfl
    · exact h.2.1 y h1
    · exact hz
  · have hcell : ∀ j, j < n → w.cell? ⟨g, j, none⟩ = some (.int .u8 (zs.getD j 0)) := fun j hj => by
      rcases h.2.2 with h0 | ⟨b, off, e, hcc⟩
      · omega
      · simp at e
        obtain ⟨rfl, rfl⟩ := e
        have := hcc j hj
        rwa [Nat.zero_add] at this
    have hnew : (w.setCell ⟨g, i, none⟩ (.int .u8 z)).heap[g]? = some (.cells (cur.setIfInBounds i (.int .u8 z)) 5 (0, 0)) := by simp [World.setCell, Array.getElem?_modify, hc]
    have hlen := h.1
    rw [Nat.zero_add, cell_of_row _ _ j _ _ (0, 0) hnew]
    have hold := hcell j hj
    rw [cell_of_row _ _ j _ _ (0, 0) hc] at hold
    by_cases hji : j = i
    · subst hji
      have hsz := (Array.getElem?_eq_some_iff.1 hold).1
      rw [Array.getElem?_setIfInBounds_self_of_lt hsz]
      simp [List.getD, hlen, hj]
    · rw [Array.getElem?_setIfInBounds_ne (Ne.symm hji), hold]
      simp [List.getD, List.getElem?_set_ne (Ne.symm hji)]
theorem Yr.set {w : World} {g n i : Nat} {ys : List Int} {z : Int} (h : Yr w g n ys) (hi : i < n) (hz : 0 ≤ z ∧ z ≤ 255) : Yr (w.setCell ⟨g, i, none⟩ (.int .u8 z)) g n (ys.set i z) := by
  obtain ⟨cur, hc⟩ := h.blk
  exact ⟨⟨cur.setIfInBounds i (.int .u8 z), by simp [World.setCell, Array.getElem?_modify, hc]⟩, bs_set h.bs hc hi hz⟩
theorem Yr.lt {w : World} {g n : Nat} {ys : List Int} (h : Yr w g n ys) : g < w.heap.size := by
  obtain ⟨cur, hc⟩ := h.blk
  exact (Array.getElem?_eq_some_iff.1 hc).1
theorem Yr.same {w w' : World} {g n : Nat} {ys : List Int} (h : Yr w g n ys) (hk : w'.heap[g]? = w.heap[g]?) : Yr w' g n ys := by
  obtain ⟨cur, hc⟩ := h.blk
  refine ⟨⟨cur, hk.trans hc⟩, h.bs.same_block fun ad e _ => ?_⟩
  obtain rfl := Option.some.inj e
  exact hk
theorem Yr.below {w w' : World} {g n : Nat} {ys : List Int} (h : Yr w g n ys) (hb : Below w.heap.size w w') : Yr w' g n ys := h.same (hb.block g h.lt)
theorem Yr.fz {w : World} {g n : Nat} {ys : List Int} (h : Yr w g n ys) (i : Nat) : w.frozen? ⟨g, i, none⟩ = false := by
  obtain ⟨cur, hc⟩ := h.blk
  simp [World.frozen?, hc]
theorem Yr.cell {w : World} {g n : Nat} {ys : List Int} (h : Yr w g n ys) {i : Nat} (hi : i < n) : w.cell? ⟨g, i, none⟩ = some (.int .u8 (ys.getD i 0)) := by
  rcases h.bs.2.2 with h0 | ⟨b, off, e, hc⟩
  · omega
  · simp at e
    obtain ⟨rfl, rfl⟩ := e
    have := hc i hi
    rwa [Nat.zero_add] at this
theorem Yr.ofOwn {w : World} {B n : Nat} {v : Value} {ys : List Int} (h : w.ownsRow B 5 1 v n (cells ys)) (hy : Okb ys) (hn : 0 < n) : ∃ g c, v = .slice (some ⟨g, 0, none⟩) n c ∧ Yr w g n ys ∧ B ≤ g ∧ g < w.heap.size ∧ n ≤ c ∧ c ≤ maxLen := by
  obtain ⟨a, c, rfl, vs⟩ := Vs.ofOwn h hy
  rcases h.2 with ⟨e, e0⟩ | ⟨g, cap, cur, e, hh⟩
  · simp at e; omega
  · simp only [Value.slice.injEq] at e
    obtain ⟨rfl, -, rfl⟩ := e
    have hl := h.lt g rfl
    exact ⟨g, c, rfl, ⟨⟨cur, hh.2.1⟩, vs.bs⟩, hl.1, hl.2, vs.nc, vs.cm⟩
theorem Yr.vs {w : World} {g n c : Nat} {ys : List Int} (h : Yr w g n ys) (hnc : n ≤ c) (hcm : c ≤ maxLen) : Vs w (fun x => x = g) (some ⟨g, 0, none⟩) n c ys :=
  ⟨h.bs, hnc, hcm, fun e => (by cases e), fun ad e _ => (by obtain rfl := Option.some.inj e; rfl)⟩
theorem place13 (x : Int) (n : Nat) (h0 : 0 < n) (hn : n ≤ 4611686018427387904) : ∃ (r : Int) (k : Nat), x.tmod n = r ∧ -(n : Int) < r ∧ r < n ∧ k < n ∧ (r + n).tmod n = k ∧ (r + n) % n = k := by
  have h1 := Int.tmod_lt_of_pos x (show (0 : Int) < n by omega)
  have h2 := Int.lt_tmod_of_pos x (show (0 : Int) < n by omega)
  have h3 := Int.emod_nonneg (x.tmod n + n) (show (n : Int) ≠ 0 by omega)
  have h4 := Int.emod_lt_of_pos (x.tmod n + n) (show (0 : Int) < n by omega)
  refine ⟨x.tmod n, ((x.tmod n + n) % n).toNat, rfl, h2, h1, by omega, ?_, by omega⟩
  rw [Int.tmod_eq_emod_of_nonneg (by omega)]
  omega
theorem set_by (w : World) (g i : Nat) (v : Value) : w.grownBy (w.setCell ⟨g, i, none⟩ v) (some g) :=
  ⟨rfl, rfl, rfl, by simp [World.setCell], fun k _ hk => Below.heap_setCell _ _ _ _ (fun e => hk (by rw [e]))⟩
theorem by_trans {a b c : World} {g : Nat} (h : a.grownBy b (some g)) (k : b.grownBy c (some g)) : a.grownBy c (some g) := h.andThen k (fun j e => .inr e)
theorem Tw.by {w w' : World} {t b g : Nat} {V : Nat → Prop} {M : Tab} (h : Tw w t b V M) (hg : w.grownBy w' (some g)) (ht : t ≠ g) (hb : b ≠ g) (hV : ∀ x, V x → x ≠ g) : Tw w' t b V M :=
  h.step (hg.block t h.tbl.lt (fun e => ht (Option.some.inj e))) (hg.block b h.mp.lt (fun e => hb (Option.some.inj e))) (fun x hx hv _ => hg.block x hx (fun e => hV x hv (Option.some.inj e)))
theorem Dr.by {w w' : World} {t g : Nat} {V : Nat → Prop} {a : Option Addr} {m c : Nat} {M : Tab} (h : Dr w V t a m c M) (hg : w.grownBy w' (some g)) (ht : t ≠ g) (hV : ∀ x, V x → x ≠ g) : Dr w' V t a m c M :=
  ⟨(hg.block t (Array.getElem?_eq_some_iff.1 h.var).1 (fun e => ht (Option.some.inj e))).trans h.var, h.rl.step (fun x hx hv _ => hg.block x hx (fun e => hV x hv (Option.some.inj e)))⟩
theorem xor_byte (z y : Int) : 0 ≤ bits BinOp.xor IntKind.u8 z y ∧ bits BinOp.xor IntKind.u8 z y ≤ 255 := by
  rw [bits.eq_3, IntKind.wrap_u8]; omega
end Go.Proofs.Ytnmklleoilicdaa
