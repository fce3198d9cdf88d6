import Derived.Test.YtmgoabedickooaaGreatDoorQ8
namespace Go.Proofs.YtmgoabedickooaaGreatDoor
set_option maxRecDepth 100000
open Go.RowKit
set_option linter.unusedVariables false

theorem Bs.cut {w : World} {a : Option Addr} {n m : Nat} {zs : List Int} (h : Bs w a n zs) (hm : m ≤ n) : Bs w a m (zs.take m) := by
  refine ⟨by rw [List.length_take, h.1]; omega, fun z hz => h.2.1 z (List.mem_of_mem_take hz), ?_⟩
  rcases h.2.2 with h0 | ⟨b, off, rfl, hc⟩
  · exact .inl (by omega)
  · refine .inr ⟨b, off, rfl, fun i hi => ?_⟩
    rw [hc i (by omega)]
    simp only [List.getD, List.getElem?_take, if_pos hi]
theorem rd_in {l : List Int} (hb : ∀ z ∈ l, 0 ≤ z ∧ z ≤ 255) : InI (rdF l) ∧ InU (rdH l) ∧ InU (rdL l) ∧ InI (rdB l) := by
  have f := gvIn8 (e := 0) hb
  have h1 := (gl_sub (W := 1) (e := 0) hb).1
  have b := gvIn8 (e := ge 1 l 0) h1
  have h2 := (gl_sub (W := 1) (e := ge 1 l 0) h1).1
  have x4 := gvIn32 (e := rde l) h2
  have x8 := gvIn64 (e := rde l) h2
  have h3 := (gl_sub (W := 8) (e := rde l) h2).1
  have y8 := gvIn64 (e := ge 8 (rdl l) (rde l)) h3
  refine ⟨?_, ?_, ?_, ?_⟩
  · unfold InI rdF; omega
  · unfold InU rdH
    split
    · omega
    · exact x8
  · unfold InU rdL
    split
    · exact ⟨x4.1, by have := x4.2; unfold rdl at *; omega⟩
    · exact y8
  · unfold InI rdB; omega
/-- A new reader, all its memory new: its bytes lie below it. -/
theorem newReader7 (a : Option Addr) (n c : Nat) (zs : List Int) (w : World) (hb : Bs w a n zs) (ha : a = none → c = 0) (hn : n ≤ 1000000) (hnc : n ≤ c) (h0 : 0 < w.heap.size) :
    Calls Tryz.prog 25 #[.slice a n c] w fun en w' => ∃ r g, en = .returned (.pointer (some ⟨r, 0, none⟩)) ∧ RS w' r g zs 0 0 ∧ w.heap.size ≤ r ∧ g < r ∧ Below w.heap.size w w' := by
  cases a with
  | none =>
    obtain rfl : c = 0 := ha rfl
    obtain rfl : n = 0 := by omega
    obtain rfl : zs = [] := List.eq_nil_of_length_eq_zero hb.1
    refine (newReader_nil w).mono ?_
    rintro en w' ⟨rfl, rfl⟩
    exact ⟨w.heap.size, 0, rfl, .inl ⟨rfl, by omega, none, 0, 0, heap_alloc_new w _, rfl, Nat.le_refl _, by unfold maxLen; omega, by simp, .inl ⟨rfl, rfl, rfl⟩⟩, Nat.le_refl _, h0, (Below.refl _ _).alloc (Nat.le_refl _) _⟩
  | some x =>
    refine (newReader_some x n c zs w hb hn).mono ?_
    rintro en w' ⟨g, cap, cur, w1, rfl, hbg, hgg, hnc', hcm, hcs, ht, hg, rfl⟩
    have hs := hg.size
    have hlt : g < w1.heap.size := (Array.getElem?_eq_some_iff.1 hgg).1
    refine ⟨w1.heap.size, g, rfl, .inl ⟨rfl, by omega, some ⟨g, 0, none⟩, n, cap, heap_alloc_new w1 _, hb.1, hnc', hcm, hb.2.1, .inr ⟨0, cur, rfl, ?_, by omega, ?_⟩⟩, hs, hlt, (below_of_grown hg).alloc hs _⟩
    · rw [Below.heap_alloc w1 _ g hlt]; exact hgg
    · simpa using ht
set_option maxHeartbeats 1000000 in
theorem get_ (a : Option Addr) (n c : Nat) (zs : List Int) (w : World) (hb : Bs w a n zs) (hnc : n ≤ c) (hcm : c ≤ maxLen) (ha : a = none → c = 0) (h0 : 0 < w.heap.size) :
    Calls Tryz.prog 8 #[.slice a n c] w fun e w' => e = .returned (.tuple #[.agg #[.int .i64 (qF zs), .int .u64 (qH zs), .int .u64 (qL zs), .int .i64 (qB zs)], .int .i64 (qN zs), .int .i64 (qE zs)]) ∧ Below w.heap.size w w' := by
  have hm : min n 18 ≤ n := Nat.min_le_left _ _
  have hz : zs.take (min n 18) = zs.take 18 := by
    rw [← hb.1]
    by_cases h : zs.length ≤ 18
    · rw [Nat.min_eq_left h, List.take_of_length_le (Nat.le_refl _), List.take_of_length_le h]
    · rw [Nat.min_eq_right (by omega)]
  have b1 := hb.cut hm
  rw [hz] at b1
  have hbyte := b1.2.1
  have hlen : (zs.take 18).length ≤ 18 := by rw [List.length_take]; omega
  obtain ⟨r1, r2⟩ := rd_gk zs hb.2.1
  obtain ⟨i1, i2, i3, i4⟩ := rd_in hbyte
  have k1 := fun w b1 h0 => newReader7 a (min n 18) c (zs.take 18) w b1 ha (by omega) (by omega) h0
  have k2 := fun r g w h hgr => read_ r g (zs.take 18) w h hlen hbyte hgr
  have k3 := fun r g l w h => errAny r g l (rdP (zs.take 18)) (rdE (zs.take 18)) w h
  have k4 := fun w => valid_ (rdF (zs.take 18)) (rdH (zs.take 18)) (rdL (zs.take 18)) (rdB (zs.take 18)) w i1 i2 i3 i4
  have hmin : (min (n : Int) 18).toNat = min n 18 := by omega
  unfold maxLen at hcm
  have m0 := Pm.new w 0 0 0 0
  have B0 := pnew w 0 0 0 0
  replace b1 := b1.below B0
  have HG : Hid ((decide (rdE (zs.take 18) = 0) && vp (rdF (zs.take 18)) (rdH (zs.take 18)) (rdL (zs.take 18)) (rdB (zs.take 18))) = gk zs) := r1
  have HQ : Hid (gk zs = true → qF zs = rdF (zs.take 18) ∧ qH zs = rdH (zs.take 18) ∧ qL zs = rdL (zs.take 18) ∧ qB zs = rdB (zs.take 18) ∧ qN zs = rdP (zs.take 18) ∧ qE zs = 0) := fun h => by
    obtain ⟨a1, a2, a3, a4, a5, a6⟩ := q7_good h
    obtain ⟨c1, c2, c3, c4, c5⟩ := r2 h
    rw [a1, a2, a3, a4, a5, a6, c1, c2, c3, c4, c5]
    exact ⟨rfl, rfl, rfl, rfl, rfl, rfl⟩
  have HB := hid (q7_bad (l := zs))
  clear r1 r2 hz hm hbyte hlen
  generalize rdF (zs.take 18) = F at *
  generalize rdH (zs.take 18) = H at *
  generalize rdL (zs.take 18) = L at *
  generalize rdB (zs.take 18) = B at *
  generalize rdP (zs.take 18) = P at *
  generalize rdE (zs.take 18) = E at *
  generalize zs.take 18 = l at *
  go_enter Tryz.func8, Tryz.ntmps8
  go_wp2_with fail
  refine (k1 _ b1 (by simp)).mono ?_
  rintro e w1 ⟨r, g, rfl, rs, hr, hgr, g2⟩
  rw [World.size_alloc] at hr
  replace m0 := m0.kept g2
  replace B0 := bel_bel B0 B0.size g2
  clear g2 k1 b1 hb
  go_wp2_with fail
  refine (k2 r g _ rs hgr).mono ?_
  rintro e w2 ⟨rfl, ⟨l', rs'⟩, g2⟩
  replace m0 := m0.at (g2.block _ (by omega))
  replace B0 := B0.trans (g2.mono (by omega))
  clear g2 k2 rs
  have m1 := Pm.new w2 F H L B
  have hw2 := m0.lt
  replace m0 := m0.alloc (.cells #[.int .i64 F, .int .u64 H, .int .u64 L, .int .i64 B] 50)
  replace rs' := rs'.kept ((Below.refl _ w2).alloc (Nat.le_refl _) (.cells #[.int .i64 F, .int .u64 H, .int .u64 L, .int .i64 B] 50))
  replace B0 := B0.alloc B0.size (.cells #[.int .i64 F, .int .u64 H, .int .u64 L, .int .i64 B] 50)
  go_wp2_with fail
  refine (k3 r g l' _ rs').mono ?_
  rintro e w3 ⟨rfl, nq, rfl⟩
  clear k3 rs'
  replace m0 : Pm ((w2.alloc (.cells #[.int .i64 F, .int .u64 H, .int .u64 L, .int .i64 B] 50)).drewN nq) w.heap.size 0 0 0 0 := m0
  replace m1 : Pm ((w2.alloc (.cells #[.int .i64 F, .int .u64 H, .int .u64 L, .int .i64 B] 50)).drewN nq) w2.heap.size F H L B := m1
  replace B0 := bel_drawn B0 nq
  generalize (w2.alloc (.cells #[.int .i64 F, .int .u64 H, .int .u64 L, .int .i64 B] 50)).drewN nq = w3 at *
  generalize w2.heap.size = gq at *
  have d0 := m1.c0
  have d1 := m1.c1
  have d2 := m1.c2
  have d3 := m1.c3
  by_cases hE : E = 0
  · subst hE
    go_wp2_with fail
    clear d0 d1 d2 d3
    refine (k4 _).mono ?_
    rintro e w4 ⟨rfl, g2⟩
    replace m0 := m0.kept g2
    replace m1 := m1.kept g2
    replace B0 := bel_bel B0 B0.size g2
    clear g2 k4
    cases hv : vp F H L B with
    | false =>
      have HE := hid (HB.out (by rw [← HG.out, hv]; rfl))
      clear hv HB HQ HG
      go_wp2_with (refine wpList_spx rfl rfl _ _ rfl w.heap.size 0 0 0 0 rfl rfl _ _ _ _ m0 ?_)
      refine bodyPost_ret (v := .tuple #[.agg #[.int .i64 0, .int .u64 0, .int .u64 0, .int .i64 0], .int .i64 0, .int .i64 70]) ?_ rfl ⟨?_, bel_row B0 (Nat.le_refl _) _⟩
      · exact results_p3 rfl _ _ w.heap.size 0 0 0 0 _ _ rfl rfl rfl (m0.row _ _ _ _)
      · rw [HE.out.1, HE.out.2.1, HE.out.2.2.1, HE.out.2.2.2.1, HE.out.2.2.2.2.1, HE.out.2.2.2.2.2]
    | true =>
      have HE := hid (HQ.out (by rw [← HG.out, hv]; rfl))
      have d0 := m1.c0
      have d1 := m1.c1
      have d2 := m1.c2
      have d3 := m1.c3
      clear hv HB HQ HG
      go_wp2_with (refine wpList_spx rfl rfl _ _ rfl w.heap.size F H L B rfl rfl _ _ _ _ m0 ?_)
      refine bodyPost_ret (v := .tuple #[.agg #[.int .i64 F, .int .u64 H, .int .u64 L, .int .i64 B], .int .i64 P, .int .i64 0]) ?_ rfl ⟨?_, bel_row B0 (Nat.le_refl _) _⟩
      · exact results_p3 rfl _ _ w.heap.size F H L B _ _ rfl rfl rfl (m0.row _ _ _ _)
      · rw [HE.out.1, HE.out.2.1, HE.out.2.2.1, HE.out.2.2.2.1, HE.out.2.2.2.2.1, HE.out.2.2.2.2.2]
  · have HE := hid (HB.out (by rw [← HG.out, decide_eq_false hE, Bool.false_and]))
    clear HB HQ HG
    go_wp2_with (refine wpList_spx rfl rfl _ _ rfl w.heap.size 0 0 0 0 rfl rfl _ _ _ _ m0 ?_)
    refine bodyPost_ret (v := .tuple #[.agg #[.int .i64 0, .int .u64 0, .int .u64 0, .int .i64 0], .int .i64 0, .int .i64 70]) ?_ rfl ⟨?_, bel_row B0 (Nat.le_refl _) _⟩
    · exact results_p3 rfl _ _ w.heap.size 0 0 0 0 _ _ rfl rfl rfl (m0.row _ _ _ _)
    · rw [HE.out.1, HE.out.2.1, HE.out.2.2.1, HE.out.2.2.2.1, HE.out.2.2.2.2.1, HE.out.2.2.2.2.2]
end Go.Proofs.YtmgoabedickooaaGreatDoor
