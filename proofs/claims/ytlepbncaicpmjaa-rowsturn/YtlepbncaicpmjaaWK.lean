import Derived.Test.YtlepbncaicpmjaaWJ
namespace Go.Proofs.Ytlepbncaicpmjaa
set_option maxRecDepth 100000
open Go.RowKit Go.Maps
set_option linter.unusedVariables false

set_option maxHeartbeats 2000000 in
/-- The law's put. -/
theorem put15_ (a a' : Option Addr) (n c m d : Nat) (l : List Pr) (l' : List Ln) (w : World) (hl : Pls w a n l) (hl' : Lls w a' m l') (hn : n ≤ 1000) (hm : m ≤ 1000) (hs : ∀ x ∈ l, (prow x).isSome) (hs' : ∀ x ∈ l', (lrw x).isSome) :
    Calls Try.prog 8 #[.slice a n c, .slice a' m d] w fun e w' => ∃ v ds, e = .returned v ∧ Rw2 w w' v ds ∧ ds.map (·.s) = rws l l' := by
  have hlen := hl.len
  have hlen' := hl'.len
  have HL := hid hl
  have HL' := hid hl'
  have HS := hid hs
  have HS' := hid hs'
  clear hl hl' hs hs'
  go_enter Try.func8, Try.ntmps8
  go_wp2_with fail
  go_loopw [5, 6] (fun v i wr => ∃ (j : Nat) (ds : List RD), j ≤ n ∧ i = .int .i64 j ∧ Hid (Rw2 w wr v ds) ∧ Hid (ds.map (·.s) = (l.take j).filterMap prow)) (fun _ i _ => n - (intOf i).toNat)
  case atStart => exact ⟨0, [], by omega, rfl, Rw2.nil w, rfl⟩
  case round =>
    obtain ⟨j, ds, hj, rfl, HR, HD⟩ := hrel
    by_cases hlt : j < n
    · have hjI : (j : Int) < n := by omega
      obtain ⟨b, off, rfl, hc⟩ : ∃ b off, a = some ⟨b, off, none⟩ ∧ ∀ i, i < n → PeerAt wr b (off + i * 3) (l.getD i pr0) := by
        rcases (HL.out.on HR.out.bel).at' with h0 | h1
        · omega
        · exact h1
      have hx := hc j hlt
      have HT := hid (take_Pls (l := l) (j := j) (by omega))
      have HDL : Hid (ds.length ≤ 1000000000) := by
        have h1 := congrArg List.length HD.out
        have h2 := List.length_filterMap_le prow l
        have h3 := List.length_filterMap_le prow (l.take j)
        rw [List.length_map] at h1
        try simp only [List.length_append] at h1
        rw [List.length_take] at h3
        show _ ≤ _
        omega
      obtain ⟨x, HX⟩ : ∃ x, Hid (l.getD j pr0 = x) := ⟨_, rfl⟩
      have hsx : (prow x).isSome := HS.out x (by rw [← HX.out, show l.getD j pr0 = l[j] from by simp [List.getD, show j < l.length by omega]]; exact List.getElem_mem _)
      rw [HX.out] at hx HT
      clear hc
      obtain ⟨K, k, ps⟩ := x
      obtain ⟨ka, kc, pa, pc, ⟨c0, c1, c2⟩, hk, hp, h1, h2, h3⟩ := hx
      simp only at c0 c1 c2 hk hp h1 h2 h3
      have HP : Hid (prow ⟨K, k, ps⟩ = if pkB K k.length ps then some (peK K, peV k ps) else none) := rfl
      have hq : pkB K k.length ps = true := by
        cases hq : pkB K k.length ps
        · rw [HP.out, hq] at hsx; simp at hsx
        · rfl
      have kp := putPeer_ K ka pa k.length kc ps.length pc k ps wr h3 hk hp h1 h2 (pkB K k.length ps) (pkB_iff K k.length ps)
      rw [hq] at kp HP
      simp only [if_true] at kp HP
      obtain ⟨RK, hRK⟩ : ∃ z, peK K = z := ⟨_, rfl⟩
      obtain ⟨RV, hRV⟩ : ∃ z, peV k ps = z := ⟨_, rfl⟩
      rw [hRK, hRV] at kp HP
      unfold Rp at kp
      obtain ⟨kl, Hkl⟩ : ∃ z : Nat, Hid (k.length = z) := ⟨_, rfl⟩
      obtain ⟨pl, Hpl⟩ : ∃ z : Nat, Hid (ps.length = z) := ⟨_, rfl⟩
      rw [Hkl.out, Hpl.out] at kp
      rw [Hkl.out] at c1
      rw [Hpl.out] at c2
      clear hq hsx hRK hRV hk hp h1 h2 h3
      go_wp2_with fail
      clear c0 c1 c2
      refine kp.mono ?_
      rintro e y1 ⟨ra, rc, sa, sc, rfl, vk, vv, g1⟩
      have HR1 := hid (HR.out.below g1)
      have HSZ : Hid (w.heap.size ≤ wr.heap.size) := HR.out.bel.size
      have HOW := hid HR.out.own.lt
      have HG1 := hid g1.size
      clear kp g1 HR
      obtain ⟨rk, Hrk⟩ : ∃ z : Nat, Hid (RK.length = z) := ⟨_, rfl⟩
      obtain ⟨rv, Hrv⟩ : ∃ z : Nat, Hid (RV.length = z) := ⟨_, rfl⟩
      rw [Hrk.out] at vk
      rw [Hrv.out] at vv
      rw [Hrk.out, Hrv.out]
      have m2 := heap_alloc_new y1 (.cells #[.slice ra rk rc, .slice sa rv sc] 38)
      have z0 := (two_cell m2).1
      have z1 := (two_cell m2).2
      have HR2 := hid (HR1.out.below (bel_al y1 (.cells #[.slice ra rk rc, .slice sa rv sc] 38)))
      have HRD : Hid (RV2 (y1.alloc (.cells #[.slice ra rk rc, .slice sa rv sc] 38)) (fun x => w.heap.size ≤ x ∧ u5.ownBlock ≠ some x) ⟨ra, rc, sa, sc, (RK, RV)⟩) := by
        have hw : ∀ y, y < y1.heap.size → wr.heap.size ≤ y → w.heap.size ≤ y ∧ u5.ownBlock ≠ some y := fun y _ hy => ⟨by have := HSZ.out; omega, fun f => by have := (HOW.out y f).2; omega⟩
        refine ⟨?_, ?_⟩
        · show Vs _ _ ra RK.length rc RK
          rw [Hrk.out]
          exact (vk.wide hw).step fun x hx _ _ => (bel_al y1 _).block x hx
        · show Vs _ _ sa RV.length sc RV
          rw [Hrv.out]
          exact (vv.wide hw).step fun x hx _ _ => (bel_al y1 _).block x hx
      clear vk vv m2 HR1
      obtain ⟨y2, HY2⟩ : ∃ y, Hid (y1.alloc (.cells #[.slice ra rk rc, .slice sa rv sc] 38) = y) := ⟨_, rfl⟩
      obtain ⟨g2, Hg2⟩ : ∃ g, Hid (y1.heap.size = g) := ⟨_, rfl⟩
      rw [HY2.out] at HR2 HRD z0 z1
      rw [Hg2.out] at z0 z1
      have HNW : Hid (∀ i u, (rdc ⟨ra, rc, sa, sc, (RK, RV)⟩)[i]? = some u → (y2.alloc (.cells #[.slice ra rk rc, .slice sa rv sc] 38)).cell? ⟨y2.heap.size, i, none⟩ = some u) := fun i u hi => by
        rw [cell_of_row _ y2.heap.size i _ 38 (0, 0) (heap_alloc_new y2 _)]
        simp only [rdc, Hrk.out, Hrv.out] at hi
        simpa using hi
      have HO6 := hid (HR2.out.own.alloc (.cells #[.slice ra rk rc, .slice sa rv sc] 38))
      have HBZ : Hid (w.heap.size ≤ (y2.alloc (.cells #[.slice ra rk rc, .slice sa rv sc] 38)).heap.size) := by have := HR2.out.bel.size; show _ ≤ _; simp; omega
      go_upto_region 6 with fail
      rw [HY2.out, Hg2.out]
      clear HY2
      go_wp2_with (first | (at_builtin; refine wpList_appRow rfl _ _ rfl w.heap.size u5 ds rfl (by exact HO6.out) y2.heap.size ⟨ra, rc, sa, sc, (RK, RV)⟩ rfl (by exact HNW.out) HDL.out HBZ.out ?_; intro v7 w7 o7 g7 l7; have HO7 := hid (HR2.out.app HRD.out o7 g7 l7); clear o7 g7 l7 HNW) | fail)
      go_roundw
      case rel => exact ⟨j + 1, ds ++ [⟨ra, rc, sa, sc, (RK, RV)⟩], by omega, by go_num, HO7, by show _ = _; rw [HT.out, List.filterMap_append, List.map_append, HD.out]; simp [HP.out]⟩
      case measure => simp [intOf]; omega
    · have hjI : ¬ (j : Int) < n := by omega
      obtain rfl : j = n := by omega
      rw [List.take_of_length_le (by omega)] at HD
      clear hlt hjI
      rename_i u5' u6'
      go_wp2_with fail
      go_loopw [5, 9] (fun v i wr => ∃ (k : Nat) (es : List RD), k ≤ m ∧ i = .int .i64 k ∧ Hid (Rw2 w wr v es) ∧ Hid (es.map (·.s) = l.filterMap prow ++ (l'.take k).filterMap lrw)) (fun _ i _ => m - (intOf i).toNat)
      case atStart => exact ⟨0, ds, by omega, rfl, HR, by show _ = _; rw [HD.out]; simp⟩
      case round =>
        clear HR HD ds
        obtain ⟨j, ds, hj, rfl, HR, HD⟩ := hrel
        by_cases hlt : j < m
        · have hjI : (j : Int) < m := by omega
          obtain ⟨b, off, rfl, hc⟩ : ∃ b off, a' = some ⟨b, off, none⟩ ∧ ∀ i, i < m → LaneAt wr b (off + i * 8) (l'.getD i ln0) := by
            rcases (HL'.out.on HR.out.bel).at' with h0 | h1
            · omega
            · exact h1
          have hx := hc j hlt
          have HT := hid (take_Lls (l := l') (j := j) (by omega))
          have HDL : Hid (ds.length ≤ 1000000000) := by
            have h1 := congrArg List.length HD.out
            have h2 := List.length_filterMap_le prow l
            have h3 := List.length_filterMap_le lrw (l'.take j)
            rw [List.length_map] at h1
            try simp only [List.length_append] at h1
            rw [List.length_take] at h3
            show _ ≤ _
            omega
          obtain ⟨x, HX⟩ : ∃ x, Hid (l'.getD j ln0 = x) := ⟨_, rfl⟩
          have hsx : (lrw x).isSome := HS'.out x (by rw [← HX.out, show l'.getD j ln0 = l'[j] from by simp [List.getD, show j < l'.length by omega]]; exact List.getElem_mem _)
          rw [HX.out] at hx HT
          clear hc
          obtain ⟨k, S, C, N, D, E, s, nn⟩ := x
          obtain ⟨ka, kc, ⟨c0, c1, c2, c3, c4, c5, c6, c7⟩, hk, h1, h3⟩ := hx
          simp only at c0 c1 c2 c3 c4 c5 c6 c7 hk h1 h3
          have HP : Hid (lrw ⟨k, S, C, N, D, E, s, nn⟩ = if lok k.length S C N s nn then some (lK k, lV S C N D E s nn) else none) := rfl
          have hq : lok k.length S C N s nn = true := by
            cases hq : lok k.length S C N s nn
            · rw [HP.out, hq] at hsx; simp at hsx
            · rfl
          have kp := putLane_ ka k.length kc k S C N D E s nn wr hk h1 h3.S h3.C h3.N h3.D h3.E h3.s h3.n
          unfold Rp lRK lRV lRE at kp
          obtain ⟨RK, hRK⟩ : ∃ z, lK k = z := ⟨_, rfl⟩
          obtain ⟨RV, hRV⟩ : ∃ z, lV S C N D E s nn = z := ⟨_, rfl⟩
          obtain ⟨kl, Hkl⟩ : ∃ z : Nat, Hid (k.length = z) := ⟨_, rfl⟩
          simp only [hq, hRK, hRV, if_true] at kp HP
          rw [Hkl.out] at kp c0
          clear hq hsx hRK hRV hk h1 h3
          go_wp2_with fail
          clear c0 c1 c2 c3 c4 c5 c6 c7
          refine kp.mono ?_
          rintro e y1 ⟨ra, rc, sa, sc, rfl, vk, vv, g1⟩
          have HR1 := hid (HR.out.below g1)
          have HSZ : Hid (w.heap.size ≤ wr.heap.size) := HR.out.bel.size
          have HOW := hid HR.out.own.lt
          have HG1 := hid g1.size
          clear kp g1 HR
          obtain ⟨rk, Hrk⟩ : ∃ z : Nat, Hid (RK.length = z) := ⟨_, rfl⟩
          obtain ⟨rv, Hrv⟩ : ∃ z : Nat, Hid (RV.length = z) := ⟨_, rfl⟩
          rw [Hrk.out] at vk
          rw [Hrv.out] at vv
          rw [Hrk.out, Hrv.out]
          have m2 := heap_alloc_new y1 (.cells #[.slice ra rk rc, .slice sa rv sc] 38)
          have z0 := (two_cell m2).1
          have z1 := (two_cell m2).2
          have HR2 := hid (HR1.out.below (bel_al y1 (.cells #[.slice ra rk rc, .slice sa rv sc] 38)))
          have HRD : Hid (RV2 (y1.alloc (.cells #[.slice ra rk rc, .slice sa rv sc] 38)) (fun x => w.heap.size ≤ x ∧ u5.ownBlock ≠ some x) ⟨ra, rc, sa, sc, (RK, RV)⟩) := by
            have hw : ∀ y, y < y1.heap.size → wr.heap.size ≤ y → w.heap.size ≤ y ∧ u5.ownBlock ≠ some y := fun y _ hy => ⟨by have := HSZ.out; omega, fun f => by have := (HOW.out y f).2; omega⟩
            refine ⟨?_, ?_⟩
            · show Vs _ _ ra RK.length rc RK
              rw [Hrk.out]
              exact (vk.wide hw).step fun x hx _ _ => (bel_al y1 _).block x hx
            · show Vs _ _ sa RV.length sc RV
              rw [Hrv.out]
              exact (vv.wide hw).step fun x hx _ _ => (bel_al y1 _).block x hx
          clear vk vv m2 HR1
          obtain ⟨y2, HY2⟩ : ∃ y, Hid (y1.alloc (.cells #[.slice ra rk rc, .slice sa rv sc] 38) = y) := ⟨_, rfl⟩
          obtain ⟨g2, Hg2⟩ : ∃ g, Hid (y1.heap.size = g) := ⟨_, rfl⟩
          rw [HY2.out] at HR2 HRD z0 z1
          rw [Hg2.out] at z0 z1
          have HNW : Hid (∀ i u, (rdc ⟨ra, rc, sa, sc, (RK, RV)⟩)[i]? = some u → (y2.alloc (.cells #[.slice ra rk rc, .slice sa rv sc] 38)).cell? ⟨y2.heap.size, i, none⟩ = some u) := fun i u hi => by
            rw [cell_of_row _ y2.heap.size i _ 38 (0, 0) (heap_alloc_new y2 _)]
            simp only [rdc, Hrk.out, Hrv.out] at hi
            simpa using hi
          have HO6 := hid (HR2.out.own.alloc (.cells #[.slice ra rk rc, .slice sa rv sc] 38))
          have HBZ : Hid (w.heap.size ≤ (y2.alloc (.cells #[.slice ra rk rc, .slice sa rv sc] 38)).heap.size) := by have := HR2.out.bel.size; show _ ≤ _; simp; omega
          go_upto_region 11 with fail
          rw [HY2.out, Hg2.out]
          clear HY2
          go_wp2_with (first | (at_builtin; refine wpList_appRow rfl _ _ rfl w.heap.size u5 ds rfl (by exact HO6.out) y2.heap.size ⟨ra, rc, sa, sc, (RK, RV)⟩ rfl (by exact HNW.out) HDL.out HBZ.out ?_; intro v7 w7 o7 g7 l7; have HO7 := hid (HR2.out.app HRD.out o7 g7 l7); clear o7 g7 l7 HNW) | fail)
          go_roundw
          case rel => exact ⟨j + 1, ds ++ [⟨ra, rc, sa, sc, (RK, RV)⟩], by omega, by go_num, HO7, by show _ = _; rw [HT.out, List.filterMap_append, List.map_append, HD.out]; simp [HP.out]⟩
          case measure => simp [intOf]; omega
        · have hjI : ¬ (j : Int) < m := by omega
          obtain rfl : j = m := by omega
          rw [List.take_of_length_le (by omega)] at HD
          go_wp2_with fail
          go_ret
          first | exact ⟨_, ds, rfl, HR.out, HD.out⟩ | exact ⟨_, rfl, ds, HR.out, HD.out⟩
end Go.Proofs.Ytlepbncaicpmjaa
