import Derived.Test.YtghehfhkiknjhaaTH
namespace Go.Proofs.Ytghehfhkiknjhaa
set_option maxRecDepth 100000
open Go.RowKit Go.Maps
set_option linter.unusedVariables false

theorem Lies.only {w w' : World} {g r : Nat} {a : Option Addr} {n c : Nat} {zs : List Int} (h : Lies w g a n c zs) (ho : Only r w w') (hne : g ≠ r) : Lies w' g a n c zs := h.kept fun _ => ho.block g hne
theorem Lies.vs {w : World} {g : Nat} {a : Option Addr} {n c : Nat} {zs : List Int} (h : Lies w g a n c zs) : Vs w (fun x => x = g) a n c zs := by
  refine ⟨h.bs, h.2.1, h.2.2.1, fun e => ?_, fun ad e hn => ?_⟩
  · rcases h.2.2.2.2 with ⟨_, _, h⟩ | ⟨off, cur, e', _⟩
    · exact h
    · rw [e] at e'; cases e'
  · rcases h.2.2.2.2 with ⟨h, _⟩ | ⟨off, cur, e', _⟩
    · rw [e] at h; cases h
    · rw [e] at e'
      obtain rfl := Option.some.inj e'
      rfl
theorem Rs.kept {w w' : World} {r g tot : Nat} {st : Option (List Int)} (h : Rs w r g st tot) (hr : w'.heap[r]? = w.heap[r]?) (hk : g < w.heap.size → w'.heap[g]? = w.heap[g]?) : Rs w' r g st tot := by
  cases st with
  | none =>
    obtain ⟨p, e, hb⟩ := h
    exact ⟨p, e, hb.kept hr⟩
  | some zs => exact ⟨h.1.kept hr hk, h.2⟩
theorem Rs.lt {w : World} {r g tot : Nat} {st : Option (List Int)} (h : Rs w r g st tot) : r < w.heap.size := by
  cases st with
  | none =>
    obtain ⟨p, e, hb⟩ := h
    exact hb.lt
  | some zs => exact h.1.lt
theorem set3 {w : World} {q : Nat} {x0 x1 x2 a b c : Value} {T : TypeId} (h : w.heap[q]? = some (.cells #[x0, x1, x2] T (0, 0))) : (((w.setCell ⟨q, 0, none⟩ a).setCell ⟨q, 1, none⟩ b).setCell ⟨q, 2, none⟩ c).heap[q]? = some (.cells #[a, b, c] T (0, 0)) := by
  simp [World.setCell, Array.getElem?_modify, h]
theorem set3_other {w : World} {q j : Nat} {a b c : Value} (h : j ≠ q) : (((w.setCell ⟨q, 0, none⟩ a).setCell ⟨q, 1, none⟩ b).setCell ⟨q, 2, none⟩ c).heap[j]? = w.heap[j]? := by
  simp [World.setCell, Array.getElem?_modify, Ne.symm h]
theorem sizeS : (Try.prog.info? 37).map (·.size) = some 3 := by kernel_rfl
set_option maxHeartbeats 1000000 in
theorem readSet_ (r g tot : Nat) (st : Option (List Int)) (w : World) (h : Rs w r g st tot) (ht : tot ≤ 100000000) (hgr : g ≠ r) (hgl : g < w.heap.size) :
    Calls Try.prog 60 #[.pointer (some ⟨r, 0, none⟩)] w fun en w' => ∃ d : SD, d.s = (rdT st).1 ∧ en = .returned (.agg (sdc d).toArray) ∧ SV w' (fun x => x = g) d ∧ Rs w' r g (rdT st).2 tot ∧ w.grownBy w' (some r) := by
  obtain ⟨s1, E1⟩ : ∃ s, Hid ((gt 1 st).2 = s) := ⟨_, rfl⟩
  obtain ⟨x, X1⟩ : ∃ s, Hid ((gt 1 st).1 = s) := ⟨_, rfl⟩
  obtain ⟨s2, E2⟩ : ∃ s, Hid ((gt 1 s1).2 = s) := ⟨_, rfl⟩
  obtain ⟨y, X2⟩ : ∃ s, Hid ((gt 1 s1).1 = s) := ⟨_, rfl⟩
  obtain ⟨s3, E3⟩ : ∃ s, Hid ((gt 2 s2).2 = s) := ⟨_, rfl⟩
  obtain ⟨z, X3⟩ : ∃ s, Hid ((gt 2 s2).1 = s) := ⟨_, rfl⟩
  obtain ⟨s4, E4⟩ : ∃ s, Hid ((tk y.toNat s3).2 = s) := ⟨_, rfl⟩
  obtain ⟨k, X4⟩ : ∃ s, Hid ((tk y.toNat s3).1 = s) := ⟨_, rfl⟩
  obtain ⟨s5, E5⟩ : ∃ s, Hid ((tk z.toNat s4).2 = s) := ⟨_, rfl⟩
  obtain ⟨v, X5⟩ : ∃ s, Hid ((tk z.toNat s4).1 = s) := ⟨_, rfl⟩
  have HR : Hid (rdT st = (⟨k, v, decide (x = 0)⟩, s5)) := by
    show rdT st = _
    unfold rdT
    rw [E1.out, X1.out, E2.out, X2.out, E3.out, X3.out, E4.out, X4.out, E5.out, X5.out]
  rw [HR.out]
  have k1 := fun wx (h : Rs wx r g st tot) => rs_get8 r g tot st wx h ht
  have k2 := fun wx (h : Rs wx r g s1 tot) => rs_get8 r g tot s1 wx h ht
  have k3 := fun wx (h : Rs wx r g s2 tot) => rs_get16 r g tot s2 wx h ht
  have b1 : ∀ wx, Rs wx r g s1 tot → 0 ≤ y ∧ y < 256 := fun wx h => by rw [← X2.out]; exact gt_bound 1 s1 h.okb
  have b2 : ∀ wx, Rs wx r g s2 tot → 0 ≤ z ∧ z < 65536 := fun wx h => by rw [← X3.out]; exact gt_bound 2 s2 h.okb
  have k4 := fun wx (h : Rs wx r g s3 tot) (hy : 0 ≤ y) => rs_bytes r g tot y s3 wx h ht hy
  have k5 := fun wx (h : Rs wx r g s4 tot) (hy : 0 ≤ z) => rs_bytes r g tot z s4 wx h ht hy
  rw [E1.out, X1.out] at k1
  rw [E2.out, X2.out] at k2
  rw [E3.out, X3.out] at k3
  rw [E4.out, X4.out] at k4
  rw [E5.out, X5.out] at k5
  obtain ⟨o, HOB⟩ : ∃ o, Hid (Obj.cells #[.slice none 0 0, .slice none 0 0, .bool false] 37 = o) := ⟨_, rfl⟩
  have hrl := h.lt
  have H0 : Hid (Rs (w.alloc o) r g st tot) := h.kept (Below.heap_alloc w o r hrl) (fun hg => Below.heap_alloc w o g hg)
  have HNW : Hid ((w.alloc o).heap[w.heap.size]? = some o) := heap_alloc_new w o
  have HGZ : Hid (w.grownBy (w.alloc o) (some r)) := (World.grownBy_alloc w o none).but _
  have HWS : Hid ((w.alloc o).heap.size = w.heap.size + 1) := by simp [Hid]
  rw [← HOB.out] at H0 HNW HGZ HWS
  clear h E1 E2 E3 E4 E5 X1 X2 X3 X4 X5
  go_enter Try.func60, Try.ntmps60
  go_wp2_with fail
  refine (k1 _ H0.out).mono ?_
  rintro e w1 ⟨rfl, h1, o1⟩
  have H1 := hid h1
  have O1 := hid o1
  clear h1 o1 k1 H0
  go_wp2_with fail
  refine (k2 _ H1.out).mono ?_
  rintro e w2 ⟨rfl, h2, o2⟩
  have hy := b1 _ H1.out
  have H2 := hid h2
  have O2 := hid (O1.out.trans o2)
  clear h2 o2 k2 H1 b1 O1
  go_wp2_with fail
  refine (k3 _ H2.out).mono ?_
  rintro e w3 ⟨rfl, h3, o3⟩
  have hz := b2 _ H2.out
  have H3 := hid h3
  have O3 := hid (O2.out.trans o3)
  have e1 : IntKind.i64.wrap y = y := by simp [IntKind.wrap, IntKind.bits, IntKind.signed]; omega
  have e2 : IntKind.i64.wrap z = z := by simp [IntKind.wrap, IntKind.bits, IntKind.signed]; omega
  clear h3 o3 k3 H2 b2 O2
  go_wp2_with fail
  refine (k4 _ H3.out hy.1).mono ?_
  rintro e w4 ⟨a4, n4, hn4, rfl, l4, h4, o4⟩
  have H4 := hid h4
  have O4 := hid (O3.out.trans o4)
  have L4 := hid l4
  have HN4 := hid hn4
  clear h4 o4 k4 H3 l4 O3 hn4
  go_wp2_with fail
  refine (k5 _ H4.out hz.1).mono ?_
  rintro e w5 ⟨a5, n5, hn5, rfl, l5, h5, o5⟩
  have H5 := hid h5
  have O5 := hid (O4.out.trans o5)
  have L5 := hid l5
  have L45 := hid (L4.out.only o5 hgr)
  have HN5 := hid hn5
  clear h5 o5 k5 H4 l5 O4 L4 hn5
  have HN := hid ((O5.out.block w.heap.size (by omega)).trans HNW.out)
  have c0 : w5.cell? ⟨w.heap.size, 0, none⟩ = some (.slice none 0 0) := by rw [cell_of_row w5 w.heap.size 0 _ 37 (0, 0) HN.out]; rfl
  have c1 : w5.cell? ⟨w.heap.size, 1, none⟩ = some (.slice none 0 0) := by rw [cell_of_row w5 w.heap.size 1 _ 37 (0, 0) HN.out]; rfl
  have c2 : w5.cell? ⟨w.heap.size, 2, none⟩ = some (.bool false) := by rw [cell_of_row w5 w.heap.size 2 _ 37 (0, 0) HN.out]; rfl
  have f0 : ∀ i, w5.frozen? ⟨w.heap.size, i, none⟩ = false := fun i => by simp [World.frozen?, HN.out]
  have f1 := f0 0
  have f2 := f0 1
  have f3 := f0 2
  go_wp2_with fail
  have HRW := hid (set3 (a := .slice a4 n4 n4) (b := .slice a5 n5 n5) (c := .bool (x == 0)) HN.out)
  have hx : (x == 0) = decide (x = 0) := by
    by_cases h : x = 0
    · subst h; rfl
    · rw [decide_eq_false h]; exact beq_eq_false_iff_ne.2 h
  have HSO := fun j (h : j ≠ w.heap.size) => set3_other (w := w5) (a := .slice a4 n4 n4) (b := .slice a5 n5 n5) (c := .bool (x == 0)) h
  refine bodyPost_ret (v := .agg #[.slice a4 n4 n4, .slice a5 n5 n5, .bool (x == 0)]) ?_ rfl ?_
  · exact results_cell_row rfl _ _ w.heap.size 37 _ (0, 0) _ rfl HRW.out Try.underlying37 rfl sizeS
  clear c0 c1 c2 f0 f1 f2 f3
  refine ⟨⟨a4, n4, a5, n5, ⟨k, v, decide (x = 0)⟩⟩, rfl, ?_, ⟨?_, ?_⟩, H5.out.kept (HSO r (by omega)) (fun _ => HSO g (by omega)), ?_⟩
  · show _ = Ending.returned (.agg #[.slice a4 k.length n4, .slice a5 v.length n5, .bool (decide (x = 0))])
    rw [← hx, ← HN4.out, ← HN5.out]
  · show Vs _ _ a4 k.length n4 k
    rw [← HN4.out]
    exact (L45.out.kept fun _ => HSO g (by omega)).vs
  · show Vs _ _ a5 v.length n5 v
    rw [← HN5.out]
    exact (L5.out.kept fun _ => HSO g (by omega)).vs
  · have q := HGZ.out.andThen O5.out.grown (fun j e => .inr e)
    refine q.andThen (row' := some w.heap.size) ⟨rfl, rfl, rfl, by simp, fun i _ hi => HSO i (fun e => hi (by rw [e]))⟩ (fun j e => .inl (by obtain rfl := Option.some.inj e; exact Nat.le_refl _))
end Go.Proofs.Ytghehfhkiknjhaa
