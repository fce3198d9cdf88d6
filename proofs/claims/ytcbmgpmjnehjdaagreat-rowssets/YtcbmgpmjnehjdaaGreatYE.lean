import Derived.Test.YtcbmgpmjnehjdaaGreatYD
import Derived.Test.YtcbmgpmjnehjdaaGreatSI
import Derived.Test.YtcbmgpmjnehjdaaGreatRI
import Derived.Test.YtcbmgpmjnehjdaaGreatYB
namespace Go.Proofs.YtcbmgpmjnehjdaaGreat
set_option maxRecDepth 100000
open Go.RowKit Go.Maps
set_option linter.unusedVariables false

/-- A row, or the zero one where there is none. -/
def rwd (o : Option (List Int × List Int)) : List Int × List Int := o.getD ([], [])
def drows (ps : List Pr) (ls : List Ln) : Tab := ps.map (fun x => rwd (prow x)) ++ ls.map (fun x => rwd (lrw x))
def dgood (ps : List Pr) (ls : List Ln) : Bool := ps.all (fun x => (prow x).isSome) && ls.all (fun x => (lrw x).isSome)
theorem rwd_map {α : Type} (f : α → Option (List Int × List Int)) : ∀ (l : List α), (∀ x ∈ l, (f x).isSome) → l.map (fun x => rwd (f x)) = l.filterMap f
  | [], _ => rfl
  | x :: l, h => by
    obtain ⟨y, hy⟩ := Option.isSome_iff_exists.1 (h x (List.mem_cons_self))
    rw [List.map_cons, rwd_map f l fun z hz => h z (List.mem_cons_of_mem _ hz), List.filterMap_cons_some hy, hy]
    rfl
theorem dgood_iff {ps : List Pr} {ls : List Ln} : dgood ps ls = true ↔ (∀ x ∈ ps, (prow x).isSome) ∧ (∀ x ∈ ls, (lrw x).isSome) := by
  unfold dgood
  rw [Bool.and_eq_true, List.all_eq_true, List.all_eq_true]
theorem drows_rws {ps : List Pr} {ls : List Ln} (h : dgood ps ls = true) : drows ps ls = rws ps ls := by
  obtain ⟨h1, h2⟩ := dgood_iff.1 h
  unfold drows rws
  rw [rwd_map prow ps h1, rwd_map lrw ls h2]
def Ro (w : World) (l : List Pr) (l' : List Ln) (e : Ending) (w' : World) : Prop := ∃ v ds q, e = .returned (.tuple #[v, .bool q]) ∧ Rw2 w w' v ds ∧ ds.map (·.s) = drows l l' ∧ ((q = true) ↔ (dgood l l' = true ∧ Kn (drows l l')))
set_option maxHeartbeats 4000000 in
/-- The document's rowsOf. -/
theorem rrowsOf_ (a a' : Option Addr) (n c m d : Nat) (l : List Pr) (l' : List Ln) (w : World) (hl : Pls w a n l) (hl' : Lls w a' m l') (hn : n ≤ 1000) (hm : m ≤ 1000) :
    Calls Tryz.prog 45 #[.slice a n c, .slice a' m d] w fun e w' => Ro w l l' e w' := by
  have hlen := hl.len
  have hlen' := hl'.len
  have HL := hid hl
  have HL' := hid hl'
  clear hl hl'
  go_enter Tryz.func45, Tryz.ntmps45
  go_wp2_with fail
  go_loopw [6, 7, 8] (fun v h i wr => ∃ (j : Nat) (ds : List RD) (q : Bool), j ≤ n ∧ i = .int .i64 j ∧ h = .bool q ∧ Hid (Rw2 w wr v ds) ∧ Hid (ds.map (·.s) = (l.take j).map (fun x => rwd (prow x))) ∧ Hid (q = ((l.take j).all (fun x => (prow x).isSome)))) (fun _ _ i _ => n - (intOf i).toNat)
  case atStart => exact ⟨0, [], true, by omega, rfl, rfl, Rw2.nil w, rfl, rfl⟩
  case round =>
    obtain ⟨j, ds, q, hj, rfl, rfl, HR, HD, HG⟩ := hrel
    by_cases hlt : j < n
    · have hjI : (j : Int) < n := by omega
      obtain ⟨b, off, rfl, hc⟩ : ∃ b off, a = some ⟨b, off, none⟩ ∧ ∀ i, i < n → PeerAt wr b (off + i * 3) (l.getD i pr0) := by
        rcases (HL.out.on HR.out.bel).at' with h0 | h1
        · omega
        · exact h1
      have hx := hc j hlt
      have HT := hid (take_Pls (l := l) (j := j) (by omega))
      have HDL : Hid (ds.length ≤ 1000000000) := by
        have h1 := congrArg List.length HD.out
        rw [List.length_map] at h1
        try rw [List.length_append, List.length_map] at h1
        rw [List.length_map, List.length_take] at h1
        show _ ≤ _
        omega
      obtain ⟨x, HX⟩ : ∃ x, Hid (l.getD j pr0 = x) := ⟨_, rfl⟩
      rw [HX.out] at hx HT
      clear hc
      obtain ⟨K, k, ps⟩ := x
      obtain ⟨ka, kc, pa, pc, ⟨c0, c1, c2⟩, hk, hp, h1, h2, h3⟩ := hx
      simp only at c0 c1 c2 hk hp h1 h2 h3
      have HP : Hid (prow ⟨K, k, ps⟩ = if pkB K k.length ps then some (peK K, peV k ps) else none) := rfl
      have kp := rputPeer_ K ka pa k.length kc ps.length pc k ps wr h3 hk hp h1 h2 (pkB K k.length ps) (pkB_iff K k.length ps)
      obtain ⟨ok, hok⟩ : ∃ ok, pkB K k.length ps = ok := ⟨_, rfl⟩
      rw [hok] at kp HP
      have HPW : Hid (rwd (prow ⟨K, k, ps⟩) = (if ok then peK K else [], if ok then peV k ps else []) ∧ (prow ⟨K, k, ps⟩).isSome = ok) := by
        show _ ∧ _
        rw [HP.out]
        cases ok <;> exact ⟨rfl, rfl⟩
      obtain ⟨RK, hRK⟩ : ∃ z, (if ok then peK K else []) = z := ⟨_, rfl⟩
      obtain ⟨RV, hRV⟩ : ∃ z, (if ok then peV k ps else []) = z := ⟨_, rfl⟩
      rw [hRK, hRV] at kp HPW
      unfold Rp at kp
      obtain ⟨kl, Hkl⟩ : ∃ z : Nat, Hid (k.length = z) := ⟨_, rfl⟩
      obtain ⟨pl, Hpl⟩ : ∃ z : Nat, Hid (ps.length = z) := ⟨_, rfl⟩
      rw [Hkl.out, Hpl.out] at kp
      rw [Hkl.out] at c1
      rw [Hpl.out] at c2
      clear hok hRK hRV hk hp h1 h2 h3 HP
      go_wp2_with fail
      clear c0 c1 c2
      refine kp.mono ?_
      rintro e y1 ⟨ra, rc, sa, sc, rfl, vk, vv, g1⟩
      have HR1 := hid (HR.out.below g1)
      have HSZ : Hid (w.heap.size ≤ wr.heap.size) := HR.out.bel.size
      have HOW := hid HR.out.own.lt
      clear kp g1 HR
      obtain ⟨rk, Hrk⟩ : ∃ z : Nat, Hid (RK.length = z) := ⟨_, rfl⟩
      obtain ⟨rv, Hrv⟩ : ∃ z : Nat, Hid (RV.length = z) := ⟨_, rfl⟩
      rw [Hrk.out] at vk
      rw [Hrv.out] at vv
      rw [Hrk.out, Hrv.out]
      have m2 := heap_alloc_new y1 (.cells #[.slice ra rk rc, .slice sa rv sc] 54)
      have z0 := (two_cell m2).1
      have z1 := (two_cell m2).2
      have HR2 := hid (HR1.out.below (bel_al y1 (.cells #[.slice ra rk rc, .slice sa rv sc] 54)))
      have HRD : Hid (RV2 (y1.alloc (.cells #[.slice ra rk rc, .slice sa rv sc] 54)) (fun x => w.heap.size ≤ x ∧ u6.ownBlock ≠ some x) ⟨ra, rc, sa, sc, (RK, RV)⟩) := by
        have hw : ∀ y, y < y1.heap.size → wr.heap.size ≤ y → w.heap.size ≤ y ∧ u6.ownBlock ≠ some y := fun y _ hy => ⟨by have := HSZ.out; omega, fun f => by have := (HOW.out y f).2; omega⟩
        refine ⟨?_, ?_⟩
        · show Vs _ _ ra RK.length rc RK
          rw [Hrk.out]
          exact (vk.wide hw).step fun x hx _ _ => (bel_al y1 _).block x hx
        · show Vs _ _ sa RV.length sc RV
          rw [Hrv.out]
          exact (vv.wide hw).step fun x hx _ _ => (bel_al y1 _).block x hx
      clear vk vv m2 HR1
      obtain ⟨y2, HY2⟩ : ∃ y, Hid (y1.alloc (.cells #[.slice ra rk rc, .slice sa rv sc] 54) = y) := ⟨_, rfl⟩
      obtain ⟨g2, Hg2⟩ : ∃ g, Hid (y1.heap.size = g) := ⟨_, rfl⟩
      rw [HY2.out] at HR2 HRD z0 z1
      rw [Hg2.out] at z0 z1
      have HNW : Hid (∀ i u, (rdc ⟨ra, rc, sa, sc, (RK, RV)⟩)[i]? = some u → (y2.alloc (.cells #[.slice ra rk rc, .slice sa rv sc] 54)).cell? ⟨y2.heap.size, i, none⟩ = some u) := fun i u hi => by
        rw [cell_of_row _ y2.heap.size i _ 54 (0, 0) (heap_alloc_new y2 _)]
        simp only [rdc, Hrk.out, Hrv.out] at hi
        simpa using hi
      have HO6 := hid (HR2.out.own.alloc (.cells #[.slice ra rk rc, .slice sa rv sc] 54))
      have HBZ : Hid (w.heap.size ≤ (y2.alloc (.cells #[.slice ra rk rc, .slice sa rv sc] 54)).heap.size) := by have := HR2.out.bel.size; show _ ≤ _; simp; omega
      have HNX : Hid ((ds ++ [(⟨ra, rc, sa, sc, (RK, RV)⟩ : RD)]).map (·.s) = (l.take (j + 1)).map (fun x => rwd (prow x))) := by
        show _ = _
        rw [HT.out, List.map_append, List.map_append, HD.out]
        simp [HPW.out.1]
      have HGX : Hid ((q && ok) = ((l.take (j + 1)).all (fun x => (prow x).isSome))) := by
        show _ = _
        rw [HT.out, List.all_append, HG.out]
        simp [HPW.out.2]
      cases q with
      | true =>
        cases ok with
        | true =>
          simp only [if_true]
          go_upto_region 8 with fail
          rw [HY2.out, Hg2.out]
          clear HY2
          go_wp2_with (first | (at_builtin; refine wpList_appRow rfl _ _ rfl w.heap.size u6 ds rfl (by exact HO6.out) y2.heap.size ⟨ra, rc, sa, sc, (RK, RV)⟩ rfl (by exact HNW.out) HDL.out HBZ.out ?_; intro v7 w7 o7 g7 l7; have HO7 := hid (HR2.out.app HRD.out o7 g7 l7); clear o7 g7 l7 HNW) | fail)
          go_roundw
          case rel => exact ⟨j + 1, ds ++ [⟨ra, rc, sa, sc, (RK, RV)⟩], true, by omega, by go_num, rfl, HO7, HNX, HGX⟩
          case measure => simp [intOf]; omega
        | false =>
          simp only [Bool.false_eq_true, if_false]
          go_upto_region 8 with fail
          rw [HY2.out, Hg2.out]
          clear HY2
          go_wp2_with (first | (at_builtin; refine wpList_appRow rfl _ _ rfl w.heap.size u6 ds rfl (by exact HO6.out) y2.heap.size ⟨ra, rc, sa, sc, (RK, RV)⟩ rfl (by exact HNW.out) HDL.out HBZ.out ?_; intro v7 w7 o7 g7 l7; have HO7 := hid (HR2.out.app HRD.out o7 g7 l7); clear o7 g7 l7 HNW) | fail)
          go_roundw
          case rel => exact ⟨j + 1, ds ++ [⟨ra, rc, sa, sc, (RK, RV)⟩], false, by omega, by go_num, rfl, HO7, HNX, HGX⟩
          case measure => simp [intOf]; omega
      | false =>
        cases ok with
        | true =>
          simp only [if_true]
          go_upto_region 8 with fail
          rw [HY2.out, Hg2.out]
          clear HY2
          go_wp2_with (first | (at_builtin; refine wpList_appRow rfl _ _ rfl w.heap.size u6 ds rfl (by exact HO6.out) y2.heap.size ⟨ra, rc, sa, sc, (RK, RV)⟩ rfl (by exact HNW.out) HDL.out HBZ.out ?_; intro v7 w7 o7 g7 l7; have HO7 := hid (HR2.out.app HRD.out o7 g7 l7); clear o7 g7 l7 HNW) | fail)
          go_roundw
          case rel => exact ⟨j + 1, ds ++ [⟨ra, rc, sa, sc, (RK, RV)⟩], false, by omega, by go_num, rfl, HO7, HNX, HGX⟩
          case measure => simp [intOf]; omega
        | false =>
          simp only [Bool.false_eq_true, if_false]
          go_upto_region 8 with fail
          rw [HY2.out, Hg2.out]
          clear HY2
          go_wp2_with (first | (at_builtin; refine wpList_appRow rfl _ _ rfl w.heap.size u6 ds rfl (by exact HO6.out) y2.heap.size ⟨ra, rc, sa, sc, (RK, RV)⟩ rfl (by exact HNW.out) HDL.out HBZ.out ?_; intro v7 w7 o7 g7 l7; have HO7 := hid (HR2.out.app HRD.out o7 g7 l7); clear o7 g7 l7 HNW) | fail)
          go_roundw
          case rel => exact ⟨j + 1, ds ++ [⟨ra, rc, sa, sc, (RK, RV)⟩], false, by omega, by go_num, rfl, HO7, HNX, HGX⟩
          case measure => simp [intOf]; omega
    · have hjI : ¬ (j : Int) < n := by omega
      obtain rfl : j = n := by omega
      rw [List.take_of_length_le (by omega)] at HD HG
      clear hlt hjI
      rename_i u6' u7' u8'
      go_wp2_with fail
      go_loopw [6, 7, 11] (fun v h i wr => ∃ (j : Nat) (ds : List RD) (q : Bool), j ≤ m ∧ i = .int .i64 j ∧ h = .bool q ∧ Hid (Rw2 w wr v ds) ∧ Hid (ds.map (·.s) = l.map (fun x => rwd (prow x)) ++ (l'.take j).map (fun x => rwd (lrw x))) ∧ Hid (q = (l.all (fun x => (prow x).isSome) && (l'.take j).all (fun x => (lrw x).isSome)))) (fun _ _ i _ => m - (intOf i).toNat)
      case atStart => exact ⟨0, ds, q, by omega, rfl, rfl, HR, by show _ = _; rw [HD.out]; simp, by show _ = _; rw [HG.out]; simp⟩
      case round =>
        clear HR HD HG
        obtain ⟨j, ds, q, hj, rfl, rfl, HR, HD, HG⟩ := hrel
        by_cases hlt : j < m
        · have hjI : (j : Int) < m := by omega
          obtain ⟨b, off, rfl, hc⟩ : ∃ b off, a' = some ⟨b, off, none⟩ ∧ ∀ i, i < m → LaneAt wr b (off + i * 8) (l'.getD i ln0) := by
            rcases (HL'.out.on HR.out.bel).at' with h0 | h1
            · omega
            · exact h1
          have hx := hc j hlt
          have HT := hid (take_Lls (l := l') (j := j) (by omega))
          have HDL : Hid (ds.length ≤ 1000000000) := by
            have h1 := congrArg List.length HD.out
            rw [List.length_map] at h1
            try rw [List.length_append, List.length_map] at h1
            rw [List.length_map, List.length_take] at h1
            show _ ≤ _
            omega
          obtain ⟨x, HX⟩ : ∃ x, Hid (l'.getD j ln0 = x) := ⟨_, rfl⟩
          rw [HX.out] at hx HT
          clear hc
          obtain ⟨k, S, C, N, D, E, s, nn⟩ := x
          obtain ⟨ka, kc, ⟨c0, c1, c2, c3, c4, c5, c6, c7⟩, hk, h1, h3⟩ := hx
          simp only at c0 c1 c2 c3 c4 c5 c6 c7 hk h1 h3
          have HP : Hid (lrw ⟨k, S, C, N, D, E, s, nn⟩ = if lok k.length S C N s nn then some (lK k, lV S C N D E s nn) else none) := rfl
          have kp := rputLane_ ka k.length kc k S C N D E s nn wr hk h1 h3.S h3.C h3.N h3.D h3.E h3.s h3.n
          unfold Rp lRK lRV lRE at kp
          obtain ⟨ok, hok⟩ : ∃ ok, lok k.length S C N s nn = ok := ⟨_, rfl⟩
          rw [hok] at kp HP
          have HPW : Hid (rwd (lrw ⟨k, S, C, N, D, E, s, nn⟩) = (if ok then lK k else [], if ok then lV S C N D E s nn else []) ∧ (lrw ⟨k, S, C, N, D, E, s, nn⟩).isSome = ok) := by
            show _ ∧ _
            rw [HP.out]
            cases ok <;> exact ⟨rfl, rfl⟩
          obtain ⟨RK, hRK⟩ : ∃ z, (if ok then lK k else []) = z := ⟨_, rfl⟩
          obtain ⟨RV, hRV⟩ : ∃ z, (if ok then lV S C N D E s nn else []) = z := ⟨_, rfl⟩
          rw [hRK, hRV] at kp HPW
          obtain ⟨kl, Hkl⟩ : ∃ z : Nat, Hid (k.length = z) := ⟨_, rfl⟩
          rw [Hkl.out] at kp c0
          clear hok hRK hRV hk h1 h3 HP
          go_wp2_with fail
          clear c0 c1 c2 c3 c4 c5 c6 c7
          refine kp.mono ?_
          rintro e y1 ⟨ra, rc, sa, sc, rfl, vk, vv, g1⟩
          have HR1 := hid (HR.out.below g1)
          have HSZ : Hid (w.heap.size ≤ wr.heap.size) := HR.out.bel.size
          have HOW := hid HR.out.own.lt
          clear kp g1 HR
          obtain ⟨rk, Hrk⟩ : ∃ z : Nat, Hid (RK.length = z) := ⟨_, rfl⟩
          obtain ⟨rv, Hrv⟩ : ∃ z : Nat, Hid (RV.length = z) := ⟨_, rfl⟩
          rw [Hrk.out] at vk
          rw [Hrv.out] at vv
          rw [Hrk.out, Hrv.out]
          have m2 := heap_alloc_new y1 (.cells #[.slice ra rk rc, .slice sa rv sc] 54)
          have z0 := (two_cell m2).1
          have z1 := (two_cell m2).2
          have HR2 := hid (HR1.out.below (bel_al y1 (.cells #[.slice ra rk rc, .slice sa rv sc] 54)))
          have HRD : Hid (RV2 (y1.alloc (.cells #[.slice ra rk rc, .slice sa rv sc] 54)) (fun x => w.heap.size ≤ x ∧ u6.ownBlock ≠ some x) ⟨ra, rc, sa, sc, (RK, RV)⟩) := by
            have hw : ∀ y, y < y1.heap.size → wr.heap.size ≤ y → w.heap.size ≤ y ∧ u6.ownBlock ≠ some y := fun y _ hy => ⟨by have := HSZ.out; omega, fun f => by have := (HOW.out y f).2; omega⟩
            refine ⟨?_, ?_⟩
            · show Vs _ _ ra RK.length rc RK
              rw [Hrk.out]
              exact (vk.wide hw).step fun x hx _ _ => (bel_al y1 _).block x hx
            · show Vs _ _ sa RV.length sc RV
              rw [Hrv.out]
              exact (vv.wide hw).step fun x hx _ _ => (bel_al y1 _).block x hx
          clear vk vv m2 HR1
          obtain ⟨y2, HY2⟩ : ∃ y, Hid (y1.alloc (.cells #[.slice ra rk rc, .slice sa rv sc] 54) = y) := ⟨_, rfl⟩
          obtain ⟨g2, Hg2⟩ : ∃ g, Hid (y1.heap.size = g) := ⟨_, rfl⟩
          rw [HY2.out] at HR2 HRD z0 z1
          rw [Hg2.out] at z0 z1
          have HNW : Hid (∀ i u, (rdc ⟨ra, rc, sa, sc, (RK, RV)⟩)[i]? = some u → (y2.alloc (.cells #[.slice ra rk rc, .slice sa rv sc] 54)).cell? ⟨y2.heap.size, i, none⟩ = some u) := fun i u hi => by
            rw [cell_of_row _ y2.heap.size i _ 54 (0, 0) (heap_alloc_new y2 _)]
            simp only [rdc, Hrk.out, Hrv.out] at hi
            simpa using hi
          have HO6 := hid (HR2.out.own.alloc (.cells #[.slice ra rk rc, .slice sa rv sc] 54))
          have HBZ : Hid (w.heap.size ≤ (y2.alloc (.cells #[.slice ra rk rc, .slice sa rv sc] 54)).heap.size) := by have := HR2.out.bel.size; show _ ≤ _; simp; omega
          have HNX : Hid ((ds ++ [(⟨ra, rc, sa, sc, (RK, RV)⟩ : RD)]).map (·.s) = l.map (fun x => rwd (prow x)) ++ (l'.take (j + 1)).map (fun x => rwd (lrw x))) := by
            show _ = _
            rw [HT.out, List.map_append, List.map_append, HD.out]
            simp [HPW.out.1]
          have HGX : Hid ((q && ok) = (l.all (fun x => (prow x).isSome) && (l'.take (j + 1)).all (fun x => (lrw x).isSome))) := by
            show _ = _
            rw [HT.out, List.all_append, HG.out]
            simp [HPW.out.2, Bool.and_assoc]
          cases q with
          | true =>
            cases ok with
            | true =>
              simp only [if_true]
              go_upto_region 14 with fail
              rw [HY2.out, Hg2.out]
              clear HY2
              go_wp2_with (first | (at_builtin; refine wpList_appRow rfl _ _ rfl w.heap.size u6 ds rfl (by exact HO6.out) y2.heap.size ⟨ra, rc, sa, sc, (RK, RV)⟩ rfl (by exact HNW.out) HDL.out HBZ.out ?_; intro v7 w7 o7 g7 l7; have HO7 := hid (HR2.out.app HRD.out o7 g7 l7); clear o7 g7 l7 HNW) | fail)
              go_roundw
              case rel => exact ⟨j + 1, ds ++ [⟨ra, rc, sa, sc, (RK, RV)⟩], true, by omega, by go_num, rfl, HO7, HNX, HGX⟩
              case measure => simp [intOf]; omega
            | false =>
              simp only [Bool.false_eq_true, if_false]
              go_upto_region 14 with fail
              rw [HY2.out, Hg2.out]
              clear HY2
              go_wp2_with (first | (at_builtin; refine wpList_appRow rfl _ _ rfl w.heap.size u6 ds rfl (by exact HO6.out) y2.heap.size ⟨ra, rc, sa, sc, (RK, RV)⟩ rfl (by exact HNW.out) HDL.out HBZ.out ?_; intro v7 w7 o7 g7 l7; have HO7 := hid (HR2.out.app HRD.out o7 g7 l7); clear o7 g7 l7 HNW) | fail)
              go_roundw
              case rel => exact ⟨j + 1, ds ++ [⟨ra, rc, sa, sc, (RK, RV)⟩], false, by omega, by go_num, rfl, HO7, HNX, HGX⟩
              case measure => simp [intOf]; omega
          | false =>
            cases ok with
            | true =>
              simp only [if_true]
              go_upto_region 14 with fail
              rw [HY2.out, Hg2.out]
              clear HY2
              go_wp2_with (first | (at_builtin; refine wpList_appRow rfl _ _ rfl w.heap.size u6 ds rfl (by exact HO6.out) y2.heap.size ⟨ra, rc, sa, sc, (RK, RV)⟩ rfl (by exact HNW.out) HDL.out HBZ.out ?_; intro v7 w7 o7 g7 l7; have HO7 := hid (HR2.out.app HRD.out o7 g7 l7); clear o7 g7 l7 HNW) | fail)
              go_roundw
              case rel => exact ⟨j + 1, ds ++ [⟨ra, rc, sa, sc, (RK, RV)⟩], false, by omega, by go_num, rfl, HO7, HNX, HGX⟩
              case measure => simp [intOf]; omega
            | false =>
              simp only [Bool.false_eq_true, if_false]
              go_upto_region 14 with fail
              rw [HY2.out, Hg2.out]
              clear HY2
              go_wp2_with (first | (at_builtin; refine wpList_appRow rfl _ _ rfl w.heap.size u6 ds rfl (by exact HO6.out) y2.heap.size ⟨ra, rc, sa, sc, (RK, RV)⟩ rfl (by exact HNW.out) HDL.out HBZ.out ?_; intro v7 w7 o7 g7 l7; have HO7 := hid (HR2.out.app HRD.out o7 g7 l7); clear o7 g7 l7 HNW) | fail)
              go_roundw
              case rel => exact ⟨j + 1, ds ++ [⟨ra, rc, sa, sc, (RK, RV)⟩], false, by omega, by go_num, rfl, HO7, HNX, HGX⟩
              case measure => simp [intOf]; omega
        · have hjI : ¬ (j : Int) < m := by omega
          obtain rfl : j = m := by omega
          rw [List.take_of_length_le (by omega)] at HD HG
          clear hlt hjI
          obtain ⟨va, vc, rfl, L5, -⟩ := Rwl.ofOwn HR.out.own (V := fun x => w.heap.size ≤ x) (fun d hd => (HR.out.sv d hd).wide fun x _ h => h.1) (fun x h => h)
          rw [HD.out] at L5
          have HDN : Hid (ds.length ≤ 1000000) := by
            have h1 := congrArg List.length HD.out
            rw [List.length_map, List.length_append, List.length_map, List.length_map] at h1
            show _ ≤ _
            omega
          have HDG : Hid (q = dgood l l') := HG.out
          have HDD : Hid (ds.map (·.s) = drows l l') := HD.out
          have kt := rtwice_ _ va ds.length vc (drows l l') wr L5 HDN.out
          obtain ⟨nn, HNN⟩ : ∃ z : Nat, Hid (ds.length = z) := ⟨_, rfl⟩
          rw [HNN.out] at kt ⊢
          cases q with
          | false =>
            go_wp2_with fail
            go_ret2
            refine ⟨_, ds, false, rfl, ?_, HDD.out, ⟨fun h => (by cases h), fun h => (by rw [← HDG.out] at h; exact h.1)⟩⟩
            rw [← HNN.out]
            exact HR.out
          | true =>
            go_wp2_with fail
            refine kt.mono ?_
            rintro e w9 ⟨q9, rfl, hq9, g9⟩
            have HR9 := hid (HR.out.below g9)
            clear kt g9 L5
            go_wp2_with fail
            go_ret2
            refine ⟨_, ds, !q9, rfl, ?_, HDD.out, ⟨fun h => ⟨HDG.out.symm, hq9.1 (by simpa using h)⟩, fun h => by rw [hq9.2 h.2]; rfl⟩⟩
            rw [← HNN.out]
            exact HR9.out
end Go.Proofs.YtcbmgpmjnehjdaaGreat
