import Derived.Test.YtnmklleoilicdaaWB
import Derived.Test.YtnmklleoilicdaaUJ
namespace Go.Proofs.Ytnmklleoilicdaa
set_option maxRecDepth 100000
open Go.RowKit Go.Shelf Go.Maps
set_option linter.unusedVariables false

/-- The law's variables that its closure reads. -/
structure Ev (W : World) (gw gn ga : Nat) (wa : Option Addr) (n wc gl : Nat) : Prop where
  w : W.heap[gw]? = some (.cells #[.slice wa n wc] 51 (0, 0))
  n : W.heap[gn]? = some (.cells #[.int .i64 n] 3 (0, 0))
  a : W.heap[ga]? = some (.cells #[allF gl] 62 (0, 0))
theorem Ev.below {W W' : World} {gw gn ga : Nat} {wa : Option Addr} {n wc gl : Nat} (h : Ev W gw gn ga wa n wc gl) (hb : Below W.heap.size W W') : Ev W' gw gn ga wa n wc gl :=
  ⟨(hb.block _ (Array.getElem?_eq_some_iff.1 h.w).1).trans h.w, (hb.block _ (Array.getElem?_eq_some_iff.1 h.n).1).trans h.n, (hb.block _ (Array.getElem?_eq_some_iff.1 h.a).1).trans h.a⟩
theorem Ev.cw {W : World} {gw gn ga : Nat} {wa : Option Addr} {n wc gl : Nat} (h : Ev W gw gn ga wa n wc gl) : W.cell? ⟨gw, 0, none⟩ = some (.slice wa n wc) := by rw [cell_of_row W gw 0 _ 51 (0, 0) h.w]; rfl
theorem Ev.cn {W : World} {gw gn ga : Nat} {wa : Option Addr} {n wc gl : Nat} (h : Ev W gw gn ga wa n wc gl) : W.cell? ⟨gn, 0, none⟩ = some (.int .i64 n) := by rw [cell_of_row W gn 0 _ 3 (0, 0) h.n]; rfl
theorem Ev.ca {W : World} {gw gn ga : Nat} {wa : Option Addr} {n wc gl : Nat} (h : Ev W gw gn ga wa n wc gl) : W.cell? ⟨ga, 0, none⟩ = some (allF gl) := by rw [cell_of_row W ga 0 _ 62 (0, 0) h.a]; rfl
theorem one_cell {W : World} {g : Nat} {v : Value} {T : TypeId} (h : W.heap[g]? = some (.cells #[v] T (0, 0))) : W.cell? ⟨g, 0, none⟩ = some v ∧ W.frozen? ⟨g, 0, none⟩ = false := ⟨by rw [cell_of_row W g 0 _ T (0, 0) h]; rfl, by simp [World.frozen?, h]⟩
theorem one_set {W : World} {g : Nat} {v u : Value} {T : TypeId} (h : W.heap[g]? = some (.cells #[v] T (0, 0))) : (W.setCell ⟨g, 0, none⟩ u).heap[g]? = some (.cells #[u] T (0, 0)) := by simp [World.setCell, Array.getElem?_modify, h]
set_option maxHeartbeats 1000000 in
theorem walks1_ (w9 W : World) (gw gn ga gl j : Nat) (wa : Option Addr) (n wc : Nat) (a : Option Addr) (c : Nat) (V V' : Nat → Prop) (A : Tab) (kv vv : Value) (hT : Tok A) (hn : n = A.length) (hnm : n ≤ 100000) (ev : Ev w9 gw gn ga wa n wc gl) (gd : Gd w9 V gl a n c A) (rl : Rl w9 V' wa n A)
    (hb : Below w9.heap.size w9 W) (hc : W.heap[w9.heap.size + 1]? = some (.cells #[.int .i64 j] 3 (0, 0))) (hi : W.heap[w9.heap.size]? = some (.cells #[.bool true] 4 (0, 0))) (hj : j < n) :
    Calls Try.prog 29 #[kv, vv, .pointer (some ⟨w9.heap.size + 1, 0, none⟩), .pointer (some ⟨ga, 0, none⟩), .pointer (some ⟨gn, 0, none⟩), .pointer (some ⟨w9.heap.size, 0, none⟩), .pointer (some ⟨gw, 0, none⟩)] W fun e W' => e = .returned (.bool true) ∧ Below w9.heap.size w9 W' ∧ W'.heap[w9.heap.size + 1]? = some (.cells #[.int .i64 (j + 1 : Nat)] 3 (0, 0)) ∧ W'.heap[w9.heap.size]? = some (.cells #[.bool true] 4 (0, 0)) ∧ (∀ x, x < W.heap.size → x ≠ w9.heap.size → x ≠ w9.heap.size + 1 → W'.heap[x]? = W.heap[x]?) := by
  have HT := hid hT
  have HN := hid hn
  have HEV := hid ev
  have HGD := hid gd
  have HRL := hid rl
  have HB := hid hb
  have hlt : w9.heap.size + 1 < W.heap.size := (Array.getElem?_eq_some_iff.1 hc).1
  obtain ⟨J, HJ⟩ : ∃ J : Nat, Hid (j + 1 = J) := ⟨_, rfl⟩
  have hJ : (j : Int) + 1 = J := by have := HJ.out; omega
  have hJn : (J : Int) ≤ n := by omega
  obtain ⟨cc, fc⟩ := one_cell hc
  have HC1 := hid (one_set (u := .int .i64 J) hc)
  have HI1 : Hid ((W.setCell ⟨w9.heap.size + 1, 0, none⟩ (.int .i64 J)).heap[w9.heap.size]? = some (.cells #[.bool true] 4 (0, 0))) := (Below.heap_setCell _ _ _ _ (by show _ ≠ w9.heap.size + 1; omega)).trans hi
  have HB1 := hid (hb.setCell (p := ⟨w9.heap.size + 1, 0, none⟩) (by show _ ≤ w9.heap.size + 1; omega) (.int .i64 J))
  have HS1 : Hid (∀ x, x < W.heap.size → x ≠ w9.heap.size + 1 → (W.setCell ⟨w9.heap.size + 1, 0, none⟩ (.int .i64 J)).heap[x]? = W.heap[x]?) := fun x _ hx => Below.heap_setCell _ _ _ _ hx
  have hsz1 : (W.setCell ⟨w9.heap.size + 1, 0, none⟩ (.int .i64 J)).heap.size = W.heap.size := by simp [World.setCell]
  have HSZ := hid hsz1
  have c1 := (one_cell HC1.out).1
  clear hT hn ev gd rl hb hsz1
  rw [HJ.out]
  by_cases h4 : J < 4
  · have h4I : (J : Int) < 4 := by omega
    go_enter Try.func29, Try.ntmps29
    have ca := (HEV.out.below HB1.out).ca
    have cn := (HEV.out.below HB1.out).cn
    unfold allF at ca
    go_wp2_with fail
    clear cc fc c1 ca cn
    generalize W.setCell ⟨w9.heap.size + 1, 0, none⟩ (.int .i64 J) = w1 at *
    have kw := walked_ gl a n c V A ((n : Int) + 1) n w1 (HGD.out.below HB1.out) HT.out HN.out (by omega) (by omega) (.inl ⟨by omega, rfl⟩)
    unfold allF at kw
    refine kw.mono ?_
    rintro e w2 ⟨xa, xc, rfl, r2, g2⟩
    have hfull : A.take n = A := List.take_of_length_le (by rw [← HN.out]; exact Nat.le_refl _)
    rw [hfull] at r2
    have HB2 := hid (bel_bel HB1.out HB1.out.size g2)
    have HC2 := hid ((g2.block _ (by rw [HSZ.out]; omega)).trans HC1.out)
    have HI2 := hid ((g2.block _ (by rw [HSZ.out]; omega)).trans HI1.out)
    have HS2 : Hid (∀ x, x < W.heap.size → x ≠ w9.heap.size + 1 → w2.heap[x]? = W.heap[x]?) := fun x hx h => (g2.block x (by rw [HSZ.out]; exact hx)).trans (HS1.out x hx h)
    have HZ2 : Hid (W.heap.size ≤ w2.heap.size) := by have := g2.size; rw [HSZ.out] at this; exact this
    have HR2 := hid r2
    have ci := (one_cell HI2.out).1
    have cw := (HEV.out.below HB2.out).cw
    clear kw g2 r2 hfull HB1 HC1 HI1 HS1 HSZ
    go_wp2_with fail
    clear ci cw
    refine (s_sameRows (w0 := w9) xc wc true HB2.out HR2.out (HRL.out.below HB2.out) (by omega) (by omega) (sameT_self' _)).mono ?_
    rintro e w3 ⟨rfl, g, bb⟩
    have HC3 := hid ((bb.block _ (by have := HZ2.out; omega)).trans HC2.out)
    have HI3 := hid ((bb.block _ (by have := HZ2.out; omega)).trans HI2.out)
    have HS3 : Hid (∀ x, x < W.heap.size → x ≠ w9.heap.size + 1 → w3.heap[x]? = W.heap[x]?) := fun x hx h => (bb.block x (by have := HZ2.out; omega)).trans (HS2.out x hx h)
    have HB3 := hid g
    obtain ⟨ci, fi⟩ := one_cell HI3.out
    have HI4 := hid (one_set (u := .bool true) HI3.out)
    have HC4 : Hid ((w3.setCell ⟨w9.heap.size, 0, none⟩ (.bool true)).heap[w9.heap.size + 1]? = some (.cells #[.int .i64 J] 3 (0, 0))) := (Below.heap_setCell _ _ _ _ (by show _ ≠ w9.heap.size; omega)).trans HC3.out
    have HB4 := hid (HB3.out.setCell (p := ⟨w9.heap.size, 0, none⟩) (Nat.le_refl _) (.bool true))
    have HS4 : Hid (∀ x, x < W.heap.size → x ≠ w9.heap.size → x ≠ w9.heap.size + 1 → (w3.setCell ⟨w9.heap.size, 0, none⟩ (.bool true)).heap[x]? = W.heap[x]?) := fun x hx h1 h2 => (Below.heap_setCell _ _ _ _ h1).trans (HS3.out x hx h2)
    have cc := (one_cell HC4.out).1
    have cn := (HEV.out.below HB4.out).cn
    clear g bb HC2 HI2 HS2 HB2 HR2
    go_wp2_with fail
    go_ret
    exact ⟨by first | rfl | simp, HB4.out, HC4.out, HI4.out, HS4.out⟩
  · have h4I : ¬ (J : Int) < 4 := by omega
    have cn := (HEV.out.below HB1.out).cn
    have HS4 : Hid (∀ x, x < W.heap.size → x ≠ w9.heap.size → x ≠ w9.heap.size + 1 → (W.setCell ⟨w9.heap.size + 1, 0, none⟩ (.int .i64 J)).heap[x]? = W.heap[x]?) := fun x hx _ h2 => HS1.out x hx h2
    go_enter Try.func29, Try.ntmps29
    go_wp2_with fail
    go_ret
    exact ⟨by first | rfl | simp, HB1.out, HC1.out, HI1.out, HS4.out⟩
end Go.Proofs.Ytnmklleoilicdaa
