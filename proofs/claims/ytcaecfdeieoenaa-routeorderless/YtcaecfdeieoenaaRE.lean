import Derived.Test.YtcaecfdeieoenaaRD
namespace Go.Proofs.Ytcaecfdeieoenaa
set_option maxRecDepth 100000
open Go.RowKit Go.Shelf
set_option linter.unusedVariables false
attribute [local go_sem] Oper.semAt_some

theorem Kq.refl (n a b : Nat) (W : World) : Kq n a b W W := ⟨Nat.le_refl _, fun _ _ => rfl, fun _ _ => rfl⟩
set_option maxHeartbeats 4000000 in
theorem routeNew_ {Tr : World → Value → List Wy → Prop} (R : Rte Tr) (F H L : Int) (w : World) (hF : InI F) (hH : InU H) (hL : InU L) :
    Calls Try.prog 7 #[.agg #[.int .i64 F, .int .u64 H, .int .u64 L]] w fun e w' => e = .returned (.bool true) ∧ Below w.heap.size w w' := by
  have B0 := anew w F H L
  have m0 := Am.new w F H L
  refine (callsIn_wide (n := 9)).1 ?_
  refine callsIn_of_wp_marks Try.func7 rfl trivial ?_ rfl
  simp only [Try.ntmps7, List.size_toArray, List.length_cons, List.length_nil, Nat.reduceAdd, Nat.reduceSub, Array.replicate_succ, Array.replicate_zero, List.push_toArray, List.append_toArray, List.nil_append, List.cons_append]
  gi_wp2_with (refine ⟨trivial, ?_⟩; gi_at_call 8; refine (callsIn_wide.2 (first_ R _)).mono ?_; rintro e w1 ⟨rfl, g2⟩)
  replace m0 := m0.kept g2
  replace B0 := bel_bel B0 B0.size g2
  clear g2
  gi_wp2_with (refine ⟨trivial, ?_⟩; gi_at_call 22; refine (callsIn_wide.2 (R.new_ _)).mono ?_; rintro e w2 ⟨⟨t0, rfl, ht⟩, g2⟩; obtain ⟨ta, rfl⟩ := R.ptr ht; have m1 := m0.kept g2; have c0 := m1.c0; have c1 := m1.c1; have c2 := m1.c2)
  have HT := hid ht
  replace B0 := bel_bel B0 B0.size g2
  clear g2 ht m0
  have x1 : fK [] F H L = 0 := rfl
  have x2 : fO [] F H L = false := rfl
  gi_wp2_with (refine ⟨trivial, ?_⟩; gi_at_call 15; refine (callsIn_wide.2 (R.find_ _ _ [] F H L HT.out hF hH hL (by simp))).mono ?_; rintro e w3 ⟨rfl, g2⟩)
  replace HT := hid (R.kept HT.out g2)
  replace B0 := bel_bel B0 B0.size g2
  clear g2 c0 c1 c2 m1
  have Ba : Below w3.heap.size w3 (w3.alloc (.cells #[.int .i64 0] 3)) := (Below.refl _ _).alloc (Nat.le_refl _) _
  gi_wp2_with (refine ⟨trivial, ?_⟩; gi_at_call 13; refine (callsIn_wide.2 (R.all_ w3 _ _ [] HT.out Ba (by simp))).mono ?_; rintro e w4 ⟨⟨gf, lb, rfl, eg, hseq⟩, g4⟩)
  have b4 := (Boxed.new w3 3 (.int .i64 0)).kept (grown_of_below g4) (fun e => by cases e)
  have B3 : Below w3.heap.size w3 w4 := bel_bel Ba Ba.size g4
  have hs4 : w3.heap.size + 1 ≤ w4.heap.size := by have := g4.size; rwa [World.size_alloc] at this
  rw [World.size_alloc] at hseq
  clear g4 Ba
  refine wpIn_rangeFunc_ownH rfl (by omega) (gf := gf) (lb := lb) rfl trivial eg (hseq 8 (by omega)) Kq.t (Kq.b (by omega) (Nat.le_refl _)) (Below.refl _ _) (fun _ => rfl)
    (fun pre W => Boxed W w3.heap.size 3 (.int .i64 0) ∧ Below w3.heap.size w3 W)
    (fun _ _ _ => False)
    (OwnFrom.and (Own.from (boxed_own _ _ (fun _ : List Wi => Value.int .i64 0)) _) (ownFrom_below (Nat.le_refl _) (by omega)))
    (fun _ _ _ _ _ hs _ _ => hs)
    ⟨b4, B3⟩
    (fun x a' W => True)
    (fun _ _ _ _ _ _ hs _ _ => hs)
    ?assign ?body ?done ?stop
  case assign =>
    rintro lp pre x W K hi hK
    gi_wp2
    exact hK _ _ (KeepsFrom.refl _ _) (Kq.refl _ _ _ _) hi trivial
  case body =>
    rintro lp pre x a' W hlp _ _ _ hlt
    simp at hlt
  case done =>
    rintro D xs W hD _ ⟨bI, hB⟩ hK
    have cI := bI.cell
    have HT2 := hid (R.kept HT.out hB)
    gi_wp2_with (refine ⟨trivial, ?_⟩; gi_at_call 17; refine (callsIn_wide.2 (R.len_ _ _ [] HT2.out (by simp))).mono ?_; rintro e w5 ⟨rfl, g2⟩)
    have hK2 := (g2.block D (Array.getElem?_eq_some_iff.1 hK).1).trans hK
    refine ⟨by simp, .inl ⟨_, _, rfl, run_takeDeferred hK2, ?_⟩⟩
    exact ⟨_, results_tmp rfl _ _ _, rfl, ((B0.trans (hB.mono B0.size)).trans (g2.mono (Nat.le_trans B0.size hB.size))).trans (belowK_b (w := w) (Nat.le_refl _) _ D _ _ (by have := B0.size; omega) hK2 rfl rfl)⟩
  case stop =>
    rintro D c pre W _ _ h _
    exact h.elim
end Go.Proofs.Ytcaecfdeieoenaa
