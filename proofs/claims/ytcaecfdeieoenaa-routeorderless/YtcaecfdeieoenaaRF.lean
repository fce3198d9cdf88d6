import Derived.Test.YtcaecfdeieoenaaRE
namespace Go.Proofs.Ytcaecfdeieoenaa
set_option maxRecDepth 100000
open Go.RowKit Go.Shelf
set_option linter.unusedVariables false
attribute [local go_sem] Oper.semAt_some

theorem map_snoc (pre : List Wi) (x : Wi) : (pre ++ [x]).map (·.1) = pre.map (·.1) ++ [x.1] := by simp
theorem fb_snoc (F H L : Int) (l : List Wy) (x : Wy) (s : Int × Int) : (l ++ [x]).foldl (fb F H L) s = fb F H L (l.foldl (fb F H L) s) x := by simp
set_option maxHeartbeats 8000000 in
theorem routeFlat_ {Tr : World → Value → List Wy → Prop} (R : Rte Tr) (a : Option Addr) (m : List Wy) (c : Nat) (F H L : Int) (w : World) (hm : Ws w a m) (hnc : m.length ≤ c ∧ c ≤ maxLen) (hF : InI F) (hH : InU H) (hL : InU L) :
    Calls Try.prog 4 #[.slice a m.length c, .agg #[.int .i64 F, .int .u64 H, .int .u64 L]] w fun e w' => e = .returned (.bool true) ∧ Below w.heap.size w w' := by
  have B0 := anew w F H L
  have m0 := Am.new w F H L
  have HM := hid (hm.kept B0)
  have hll : (layL (m.take 300)).length ≤ 99999 := by have := lay_le (m.take 300); rw [List.length_take] at this; omega
  have HO : Hid (∀ x ∈ layL (m.take 300), x.Ok) := (tl_lay (fun x hx => hm.1 x (List.mem_of_mem_take hx))).2
  have HF := hid (fb_fnd F H L HO.out)
  clear hm
  refine (callsIn_wide (n := 9)).1 ?_
  refine callsIn_of_wp_marks Try.func4 rfl trivial ?_ rfl
  simp only [Try.ntmps4, List.size_toArray, List.length_cons, List.length_nil, Nat.reduceAdd, Nat.reduceSub, Array.replicate_succ, Array.replicate_zero, List.push_toArray, List.append_toArray, List.nil_append, List.cons_append]
  gi_wp2_with (refine ⟨trivial, ?_⟩; gi_at_call 8; refine (callsIn_wide.2 (first_ R _)).mono ?_; rintro e w1 ⟨rfl, g2⟩)
  replace m0 := m0.kept g2
  replace HM := hid (HM.out.kept g2)
  replace B0 := bel_bel B0 B0.size g2
  clear g2
  have k0 := lay_ R a m c w1 HM.out hnc
  generalize layL (m.take 300) = l at *
  gi_wp2_with (refine ⟨trivial, ?_⟩; gi_at_call 12; refine (callsIn_wide.2 k0).mono ?_; rintro e w3 ⟨⟨t0, rfl, ht⟩, g2⟩; obtain ⟨ta, rfl⟩ := R.ptr ht; have HT := hid ht; have Bc : Below w3.heap.size w3 ((w3.alloc (.cells #[.int .i64 (-1)] 3)).alloc (.cells #[.int .i64 0] 3)) := ((Below.refl _ _).alloc (Nat.le_refl _) _).alloc (by simp) _)
  gi_wp2_with (refine ⟨trivial, ?_⟩; gi_at_call 13; refine (callsIn_wide.2 (R.all_ w3 _ _ l HT.out Bc hll)).mono ?_; rintro e w4 ⟨⟨gf, lb, rfl, eg, hseq⟩, g4⟩)
  replace m0 := m0.kept g2
  replace B0 := bel_bel B0 B0.size g2
  have bB := ((Boxed.new w3 3 (.int .i64 (-1))).alloc (.cells #[.int .i64 0] 3)).kept (grown_of_below g4) (fun e => by cases e)
  have bL := (Boxed.new (w3.alloc (.cells #[.int .i64 (-1)] 3)) 3 (.int .i64 0)).kept (grown_of_below g4) (fun e => by cases e)
  have B3 : Below w3.heap.size w3 w4 := bel_bel Bc Bc.size g4
  have hs4 : w3.heap.size + 1 + 1 ≤ w4.heap.size := by have := g4.size; rwa [World.size_alloc, World.size_alloc] at this
  rw [World.size_alloc] at bL
  rw [World.size_alloc, World.size_alloc] at hseq
  clear g4 Bc g2 k0 HM ht
  refine with_act (fun A hA => ?_)
  refine wpIn_rangeFunc_ownH rfl (by omega) (gf := gf) (lb := lb) (by rw [hA]; rfl) trivial eg (hseq 8 (by omega)) Kq.t (Kq.b (by omega) (Nat.le_refl _)) (Below.refl _ _) (fun _ => rfl)
    (fun pre W => (Boxed W w3.heap.size 3 (.int .i64 ((pre.map (·.1)).foldl (fb F H L) (-1, 0)).1) ∧ Boxed W (w3.heap.size + 1) 3 (.int .i64 ((pre.map (·.1)).foldl (fb F H L) (-1, 0)).2)) ∧ (Below w3.heap.size w3 W ∧ w4.heap.size ≤ W.heap.size))
    (fun _ _ _ => False)
    (OwnFrom.and (OwnFrom.and (Own.from (boxed_own _ _ (fun pre : List Wi => Value.int .i64 ((pre.map (·.1)).foldl (fb F H L) (-1, 0)).1)) _) (Own.from (boxed_own _ _ (fun pre : List Wi => Value.int .i64 ((pre.map (·.1)).foldl (fb F H L) (-1, 0)).2)) _)) (OwnFrom.and (ownFrom_below (Nat.le_refl _) (by omega)) (ownFrom_size _ _)))
    (fun _ _ _ _ _ hs _ _ => hs)
    ⟨⟨bB, bL⟩, B3, Nat.le_refl _⟩
    (fun x a' W => ∃ Bp, w3.heap.size + 1 < Bp ∧ Pm W Bp x.1.F x.1.H x.1.L x.1.B ∧ a' = { tmps := (((A.tmps.setIfInBounds 25 (.agg #[.int .i64 x.1.F, .int .u64 x.1.H, .int .u64 x.1.L, .int .i64 x.1.B])).setIfInBounds 26 (.int .i64 x.1.K)).setIfInBounds 9 (.pointer (some ⟨Bp, 0, none⟩))).setIfInBounds 10 (.int .i64 x.1.K), defers := [] })
    (fun x a' _ X Y row hs hg hr => by obtain ⟨Bp, h1, h2, h3⟩ := hs; exact ⟨Bp, h1, pm_own h2 hg hr, h3⟩)
    ?assign ?body ?done ?stop
  case assign =>
    subst hA
    rintro lp pre x W K ⟨⟨b1, b2⟩, hB, hz⟩ hK
    unfold Wy.px
    gi_wp2
    refine hK _ _ ((KeepsOthers.alloc _ _).from _) (((Gs.refl (fun _ => False) W).alloc _).kq (fun _ h => h.elim) (by omega) hz (fun _ h => h.elim)) ⟨⟨b1.alloc _, b2.alloc _⟩, hB.alloc hB.size _, by simp; omega⟩ ⟨W.heap.size, b2.lt, Pm.new W _ _ _ _, ?_⟩
    simp only [List.setIfInBounds_toArray, List.set_cons_zero, List.set_cons_succ]
  case body =>
    subst hA
    rintro lp pre x a' W hlp _ ⟨⟨b1, b2⟩, hB, hz⟩ ⟨Bp, hBp, mP, ha⟩ hlt
    simp only [List.setIfInBounds_toArray, List.set_cons_zero, List.set_cons_succ] at ha
    subst ha
    have mA := m0.kept hB
    have c0 := mA.c0
    have c1 := mA.c1
    have c2 := mA.c2
    have p0 := mP.c0
    have p1 := mP.c1
    have p2 := mP.c2
    have p3 := mP.c3
    have HS : Hid (((pre ++ [x]).map (·.1)).foldl (fb F H L) (-1, 0) = fb F H L ((pre.map (·.1)).foldl (fb F H L) (-1, 0)) x.1) := by
      show _ = _
      rw [map_snoc, fb_snoc]
    obtain ⟨x, ⟨xF, xH, xL, xB, xK⟩⟩ := x
    simp only at mP p0 p1 p2 p3 HS
    have k1 : ∀ w, Calls Try.prog 14 #[.agg #[.int .i64 x.F, .int .u64 x.H, .int .u64 x.L, .int .i64 x.B], .agg #[.int .i64 F, .int .u64 H, .int .u64 L]] w fun e w' => e = .returned (.bool (x.ho F H L)) ∧ Below w.heap.size w w' := fun w => refHolds_ x.F x.H x.L x.B F H L w xH xL xB hH hL
    generalize hs : (pre.map (·.1)).foldl (fb F H L) (-1, 0) = s at *
    obtain ⟨s1, s2⟩ := s
    simp only at b1 b2
    cases hh : x.ho F H L with
    | false =>
      rw [hh] at k1
      have HE : Hid (fb F H L (s1, s2) x = (s1, s2)) := by show _ = _; unfold fb; rw [hh]; rfl
      clear hh
      gi_wp2_with (refine ⟨trivial, ?_⟩; gi_at_call 14; refine (calls_r (k1 _)).mono ?_; rintro e w5 ⟨rfl, g2⟩; have q3 := cell_be8 g2 p3; have b1' := b1.kept (grown_of_below g2) (fun e => by cases e); have b2' := b2.kept (grown_of_below g2) (fun e => by cases e); have cB := b1'.cell; have fB := b1'.frozen; have b2s := b2'.other (B' := w3.heap.size) (by omega) (.int .i64 x.B); have cLs := b2s.cell; have fLs := b2s.frozen)
      have G5 : Gs (fun j => j = w3.heap.size ∨ j = w3.heap.size + 1) W w5 := (Gs.refl _ W).below g2
      have B5 : Below w3.heap.size w3 w5 := bel_bel hB hB.size g2
      have hz5 : w4.heap.size ≤ w5.heap.size := Nat.le_trans hz g2.size
      exact ⟨G5.keeps (fun j h => by omega), G5.kq (fun j h => by omega) (by omega) hz (fun j h => by rcases h with rfl | rfl; all_goals first | exact Nr.boxed b1 (by decide) | exact Nr.boxed b2 (by decide)), ⟨⟨by rw [HS.out, HE.out]; exact b1', by rw [HS.out, HE.out]; exact b2'⟩, B5, hz5⟩⟩
    | true =>
      rw [hh] at k1
      by_cases hlt2 : s1 < x.B
      · have HE : Hid (fb F H L (s1, s2) x = (x.B, x.K)) := by show _ = _; unfold fb; simp [hh, hlt2]
        clear hh
        gi_wp2_with (refine ⟨trivial, ?_⟩; gi_at_call 14; refine (calls_r (k1 _)).mono ?_; rintro e w5 ⟨rfl, g2⟩; have q3 := cell_be8 g2 p3; have b1' := b1.kept (grown_of_below g2) (fun e => by cases e); have b2' := b2.kept (grown_of_below g2) (fun e => by cases e); have cB := b1'.cell; have fB := b1'.frozen; have b2s := b2'.other (B' := w3.heap.size) (by omega) (.int .i64 x.B); have cLs := b2s.cell; have fLs := b2s.frozen)
        have G5 : Gs (fun j => j = w3.heap.size ∨ j = w3.heap.size + 1) W ((w5.setCell ⟨w3.heap.size, 0, none⟩ (.int .i64 x.B)).setCell ⟨w3.heap.size + 1, 0, none⟩ (.int .i64 x.K)) := Gs.set (M := fun j => j = w3.heap.size ∨ j = w3.heap.size + 1) (Gs.set (M := fun j => j = w3.heap.size ∨ j = w3.heap.size + 1) ((Gs.refl _ W).below g2) (.inl (.inl rfl)) _) (.inl (.inr rfl)) _
        have B5 : Below w3.heap.size w3 ((w5.setCell ⟨w3.heap.size, 0, none⟩ (.int .i64 x.B)).setCell ⟨w3.heap.size + 1, 0, none⟩ (.int .i64 x.K)) := ((bel_bel hB hB.size g2).setCell (p := ⟨w3.heap.size, 0, none⟩) (Nat.le_refl _) _).setCell (p := ⟨w3.heap.size + 1, 0, none⟩) (by show w3.heap.size ≤ w3.heap.size + 1; omega) _
        exact ⟨G5.keeps (fun j h => by omega), G5.kq (fun j h => by omega) (by omega) hz (fun j h => by rcases h with rfl | rfl; all_goals first | exact Nr.boxed b1 (by decide) | exact Nr.boxed b2 (by decide)), ⟨⟨by rw [HS.out, HE.out]; exact (b1'.set _).other (by omega) _, by rw [HS.out, HE.out]; exact b2s.set _⟩, B5, Nat.le_trans hz G5.1⟩⟩
      · have HE : Hid (fb F H L (s1, s2) x = (s1, s2)) := by show _ = _; unfold fb; simp [hh, hlt2]
        clear hh
        gi_wp2_with (refine ⟨trivial, ?_⟩; gi_at_call 14; refine (calls_r (k1 _)).mono ?_; rintro e w5 ⟨rfl, g2⟩; have q3 := cell_be8 g2 p3; have b1' := b1.kept (grown_of_below g2) (fun e => by cases e); have b2' := b2.kept (grown_of_below g2) (fun e => by cases e); have cB := b1'.cell; have fB := b1'.frozen; have b2s := b2'.other (B' := w3.heap.size) (by omega) (.int .i64 x.B); have cLs := b2s.cell; have fLs := b2s.frozen)
        have G5 : Gs (fun j => j = w3.heap.size ∨ j = w3.heap.size + 1) W w5 := (Gs.refl _ W).below g2
        have B5 : Below w3.heap.size w3 w5 := bel_bel hB hB.size g2
        have hz5 : w4.heap.size ≤ w5.heap.size := Nat.le_trans hz g2.size
        exact ⟨G5.keeps (fun j h => by omega), G5.kq (fun j h => by omega) (by omega) hz (fun j h => by rcases h with rfl | rfl; all_goals first | exact Nr.boxed b1 (by decide) | exact Nr.boxed b2 (by decide)), ⟨⟨by rw [HS.out, HE.out]; exact b1', by rw [HS.out, HE.out]; exact b2'⟩, B5, hz5⟩⟩
  case done =>
    subst hA
    rintro D xs W hD hxs ⟨⟨b1, b2⟩, hB, hz⟩ hK
    rw [hxs] at b1 b2
    have mA := m0.kept hB
    have c0 := mA.c0
    have c1 := mA.c1
    have c2 := mA.c2
    have HT2 := hid (R.kept HT.out hB)
    have k2 := R.find_ W _ l F H L HT2.out hF hH hL hll
    have fin : ∀ w5, Below W.heap.size W w5 → Below w.heap.size w (w5.putObj D (.deferred none)) ∧ w5.heap[D]? = some (.deferred (some [])) := fun w5 g2 => by
      have hK2 := (g2.block D (Array.getElem?_eq_some_iff.1 hK).1).trans hK
      exact ⟨((B0.trans (hB.mono B0.size)).trans (g2.mono (Nat.le_trans B0.size hB.size))).trans (belowK_b (w := w) (Nat.le_refl _) _ D _ _ (by have := B0.size; omega) hK2 rfl rfl), hK2⟩
    cases hf : fnd l F H L with
    | none =>
      have hh := HF.out
      rw [hf] at hh
      simp only at hh
      rw [hh] at b1 b2
      have x1 : fK l F H L = 0 := by unfold fK; rw [hf]
      have x2 : fO l F H L = false := by unfold fO; rw [hf]; rfl
      rw [x1, x2] at k2
      clear hh hf x1 x2
      gi_wp2_with (refine ⟨trivial, ?_⟩; gi_at_call 15; refine (callsIn_wide.2 k2).mono ?_; rintro e w5 ⟨rfl, g2⟩; have cB := (b1.kept (grown_of_below g2) (fun e => by cases e)).cell; have cL := (b2.kept (grown_of_below g2) (fun e => by cases e)).cell)
      obtain ⟨F1, F2⟩ := fin w5 g2
      refine ⟨by simp, .inl ⟨_, _, rfl, run_takeDeferred F2, ?_⟩⟩
      exact ⟨_, results_tmp rfl _ _ _, rfl, F1⟩
    | some y =>
      have hh := HF.out
      rw [hf] at hh
      simp only at hh
      rw [hh] at b1 b2
      have x1 : fK l F H L = y.K := by unfold fK; rw [hf]
      have x2 : fO l F H L = true := by unfold fO; rw [hf]; rfl
      rw [x1, x2] at k2
      have hy0 := (vp_in (HO.out y (fnd_some hf).1).2.1).2.1
      clear hh hf x1 x2
      gi_wp2_with (refine ⟨trivial, ?_⟩; gi_at_call 15; refine (callsIn_wide.2 k2).mono ?_; rintro e w5 ⟨rfl, g2⟩; have cB := (b1.kept (grown_of_below g2) (fun e => by cases e)).cell; have cL := (b2.kept (grown_of_below g2) (fun e => by cases e)).cell)
      obtain ⟨F1, F2⟩ := fin w5 g2
      refine ⟨by simp, .inl ⟨_, _, rfl, run_takeDeferred F2, ?_⟩⟩
      exact ⟨_, results_tmp rfl _ _ _, rfl, F1⟩
  case stop =>
    rintro D c pre W _ _ h _
    exact h.elim
end Go.Proofs.Ytcaecfdeieoenaa
