import Derived.Test.YtnjfckijpbgagaaN6
import Derived.Test.YtnjfckijpbgagaaH9
namespace Go.Proofs.Ytnjfckijpbgagaa
set_option maxRecDepth 100000
open Go.RowKit
set_option linter.unusedVariables false

/-- A payload in a variable. -/
def Ym (w : World) (g : Nat) (F H L F' H' L' : Int) (s : Value) : Prop := w.heap[g]? = some (.cells #[.int .i64 F, .int .u64 H, .int .u64 L, .int .i64 F', .int .u64 H', .int .u64 L', s] 45 (0, 0))
section
variable {w w' : World} {g : Nat} {F H L F' H' L' : Int} {s : Value}
theorem Ym.lt (h : Ym w g F H L F' H' L' s) : g < w.heap.size := (Array.getElem?_eq_some_iff.1 h).1
theorem Ym.c0 (h : Ym w g F H L F' H' L' s) : w.cell? ⟨g, 0, none⟩ = some (.int .i64 F) := (cell_of_row w g 0 _ _ (0, 0) h).trans rfl
theorem Ym.c1 (h : Ym w g F H L F' H' L' s) : w.cell? ⟨g, 1, none⟩ = some (.int .u64 H) := (cell_of_row w g 1 _ _ (0, 0) h).trans rfl
theorem Ym.c2 (h : Ym w g F H L F' H' L' s) : w.cell? ⟨g, 2, none⟩ = some (.int .u64 L) := (cell_of_row w g 2 _ _ (0, 0) h).trans rfl
theorem Ym.c3 (h : Ym w g F H L F' H' L' s) : w.cell? ⟨g, 3, none⟩ = some (.int .i64 F') := (cell_of_row w g 3 _ _ (0, 0) h).trans rfl
theorem Ym.c4 (h : Ym w g F H L F' H' L' s) : w.cell? ⟨g, 4, none⟩ = some (.int .u64 H') := (cell_of_row w g 4 _ _ (0, 0) h).trans rfl
theorem Ym.c5 (h : Ym w g F H L F' H' L' s) : w.cell? ⟨g, 5, none⟩ = some (.int .u64 L') := (cell_of_row w g 5 _ _ (0, 0) h).trans rfl
theorem Ym.c6 (h : Ym w g F H L F' H' L' s) : w.cell? ⟨g, 6, none⟩ = some s := (cell_of_row w g 6 _ _ (0, 0) h).trans rfl
theorem Ym.at (h : Ym w g F H L F' H' L' s) (e : w'.heap[g]? = w.heap[g]?) : Ym w' g F H L F' H' L' s := by unfold Ym at *; rw [e]; exact h
theorem Ym.kept (h : Ym w g F H L F' H' L' s) (hb : Below w.heap.size w w') : Ym w' g F H L F' H' L' s := h.at (hb.block g h.lt)
theorem Ym.new (w : World) (F H L F' H' L' : Int) (s : Value) : Ym (w.alloc (.cells #[.int .i64 F, .int .u64 H, .int .u64 L, .int .i64 F', .int .u64 H', .int .u64 L', s] 45)) w.heap.size F H L F' H' L' s := heap_alloc_new w _
theorem Ym.alloc (h : Ym w g F H L F' H' L' s) (o : Obj) : Ym (w.alloc o) g F H L F' H' L' s := h.at (Below.heap_alloc _ _ _ h.lt)
end
theorem ynew (w : World) (F H L F' H' L' : Int) (s : Value) : Below w.heap.size w (w.alloc (.cells #[.int .i64 F, .int .u64 H, .int .u64 L, .int .i64 F', .int .u64 H', .int .u64 L', s] 45)) := (Below.refl _ _).alloc (Nat.le_refl _) _
theorem pa_le (F H L : Int) : (pa F H L).length ≤ 16 := by
  rw [pa_length]
  have := nb_le F
  split <;> omega
theorem pa_ne {F H L : Int} (h : (pa F H L).length ≠ 0) : F = 4 ∨ F = 6 := by
  rw [pa_length] at h
  split at h
  · rename_i hv
    have := of_decide_eq_true (show decide _ = true from hv)
    omega
  · exact absurd rfl h
set_option maxHeartbeats 2000000 in
theorem refPutPayload_ (F H L F' H' L' : Int) (a1 : Option Addr) (n1 c1 : Nat) (zs : List Int) (w : World) (hb1 : Bs w a1 n1 zs) (hn1 : n1 ≤ maxLen) (hH : InU H) (hL : InU L) (hH' : InU H') (hL' : InU L') :
    Calls Try.prog 19 #[.agg #[.int .i64 F, .int .u64 H, .int .u64 L, .int .i64 F', .int .u64 H', .int .u64 L', .slice a1 n1 c1]] w fun e w' => ∃ v, e = .returned (.tuple #[v, .int .i64 (yE F H L F' H' L' zs)]) ∧ w'.ownsRow w.heap.size 5 1 v (yB F H L F' H' L' zs).length (cells (yB F H L F' H' L' zs)) ∧ Below w.heap.size w w' := by
  have B0 := ynew w F H L F' H' L' (.slice a1 n1 c1)
  have m0 := Ym.new w F H L F' H' L' (.slice a1 n1 c1)
  have l1 := hb1.1
  unfold maxLen at hn1
  have k1 := fun w => refPutAddr_ F H L w hH hL
  have k2 := fun w => refPutAddr_ F' H' L' w hH' hL'
  have HYE : Hid (yE F H L F' H' L' zs = if yOk F H L F' H' L' n1 then 0 else 90) := by
    show _ = _
    unfold yE
    rw [l1]
  have HYB : Hid (yB F H L F' H' L' zs = if yOk F H L F' H' L' n1 = true then yRow F H L F' H' L' zs else []) := by
    show _ = _
    unfold yB
    rw [l1]
  have HOK : Hid (yOk F H L F' H' L' n1 = decide ((pa F H L).length ≠ 0 ∧ (pa F H L).length = (pa F' H' L').length ∧ (n1 : Int) ≤ 1280 - 1 - 2 * ((pa F H L).length : Int))) := rfl
  have HROW : Hid (yRow F H L F' H' L' zs = F :: (pa F H L ++ (pa F' H' L' ++ zs))) := rfl
  have hA := pa_le F H L
  have hA' := pa_le F' H' L'
  have HF := hid (pa_ne (F := F) (H := H) (L := L))
  have HP := hid (pa_byte F H L)
  have HP' := hid (pa_byte F' H' L')
  obtain ⟨P, HPE⟩ : ∃ P, Hid (pa F H L = P) := ⟨_, rfl⟩
  obtain ⟨P', HPE'⟩ : ∃ P', Hid (pa F' H' L' = P') := ⟨_, rfl⟩
  simp only [HPE.out, HPE'.out] at k1 k2 HOK HROW hA hA' HF HP HP'
  go_enter Try.func19, Try.ntmps19
  go_wp2_with fail
  refine (k1 _).mono ?_
  rintro e w1 ⟨v1, rfl, o1, g1⟩
  obtain ⟨p1, d1, rfl, y1, _⟩ := own_form o1 HP.out
  have m1 := m0.kept g1
  have B1 := bel_bel B0 B0.size g1
  have c3 := m1.c3
  have c4 := m1.c4
  have c5 := m1.c5
  clear o1 g1 m0 B0
  go_wp2_with fail
  refine (k2 _).mono ?_
  rintro e w2 ⟨v2, rfl, o2, g2⟩
  obtain ⟨p2, d2, rfl, y2, _⟩ := own_form o2 HP'.out
  have m2 := m1.kept g2
  have B2 := bel_bel B1 B1.size g2
  have y1' := y1.below g2
  clear o2 g2 m1 B1 c3 c4 c5 y1 k1 k2
  have BAD : yOk F H L F' H' L' n1 = false → (∃ v, Ending.returned (.tuple #[.slice none 0 0, .int .i64 90]) = .returned (.tuple #[v, .int .i64 (yE F H L F' H' L' zs)]) ∧ w2.ownsRow w.heap.size 5 1 v (yB F H L F' H' L' zs).length (cells (yB F H L F' H' L' zs)) ∧ Below w.heap.size w w2) := fun h => by
    rw [HYE.out, HYB.out, h]
    exact ⟨_, rfl, World.ownsRow_nil _ _ _ _, B2⟩
  have HBAD := hid BAD
  have c6 := m2.c6
  clear BAD
  by_cases h0 : P.length = 0
  · have q : ((P.length : Int) == 0) = true := by rw [h0]; rfl
    have HN : Hid (yOk F H L F' H' L' n1 = false) := HOK.out.trans (decide_eq_false (fun h => h.1 h0))
    go_wp2_with fail
    go_ret2
    exact HBAD.out HN.out
  · have q : ((P.length : Int) == 0) = false := by simpa using h0
    by_cases h2 : P.length = P'.length
    · by_cases h3 : (n1 : Int) ≤ 1279 - 2 * (P.length : Int)
      · have hF := HF.out h0
        have hF0 : 0 ≤ F ∧ F ≤ 255 := by omega
        have hF8 : F % 256 = F := by omega
        have q2 : ((P.length : Int) != (P'.length : Int)) = false := by rw [h2]; simp
        have q3 : ¬ (1279 - 2 * (P.length : Int) < (n1 : Int)) := by omega
        have HN : Hid (yOk F H L F' H' L' n1 = true) := HOK.out.trans (decide_eq_true ⟨h0, h2, by omega⟩)
        have HH2 := hid h2
        have c0 := m2.c0
        have O1 : (w2.alloc (.cells #[.int .u8 F] 5)).ownsRow w2.heap.size 5 1 (.slice (some ⟨w2.heap.size, 0, none⟩) 1 1) 1 (cells [F]) :=
          ⟨rfl, .inr ⟨w2.heap.size, 1, _, rfl, Nat.le_refl _, heap_alloc_new _ _, Nat.le_refl _, by unfold maxLen; omega, rfl, rfl⟩⟩
        have HO1 := hid O1
        have BA := hid ((Below.refl w2.heap.size w2).alloc (Nat.le_refl _) (.cells #[.int .u8 F] 5))
        have Y1 := hid (y1'.below BA.out)
        have Y2 := hid y2
        have YB := hid (hb1.below B2)
        have M2 := hid m2
        have BB := hid B2
        have hs2 := B2.size
        have hl2 := m2.lt
        clear O1 y1' y2 h2 hb1 HBAD m2 B2
        go_wp2_with (first | (at_builtin; refine wpList_app7 rfl _ _ rfl w2.heap.size v4 (1 + P.length + P'.length) ([F] ++ P ++ P') rfl o4 (by omega) a1 n1 c1 zs rfl (YB.out.below f4) (by omega) f4.size ?_; intro v5 w5 o5 j5; have f5 := hid (f4.grown j5 f4.size fun p hp => (o4.lt p hp).1)) | (at_builtin; refine wpList_app7 rfl _ _ rfl w2.heap.size v3 (1 + P.length) ([F] ++ P) rfl o3 (by omega) p2 P'.length d2 P' rfl (Y2.out.below f3) (by omega) f3.size ?_; intro v4 w4 o4 j4; have f4 := f3.grown j4 f3.size fun p hp => (o3.lt p hp).1; have c6 := (M2.out.kept f4).c6) | (at_builtin; refine wpList_app7 rfl _ _ rfl w2.heap.size (.slice (some ⟨w2.heap.size, 0, none⟩) 1 1) 1 [F] rfl HO1.out (by decide) p1 P.length d1 P rfl Y1.out (by omega) (by simp) ?_; intro v3 w3 o3 j3; have f3 := BA.out.grown j3 (by simp) fun p hp => (HO1.out.lt p hp).1))
        go_ret2
        have hlen : (yRow F H L F' H' L' zs).length = 1 + P.length + P'.length + n1 := by
          rw [HROW.out, List.length_cons, List.length_append, List.length_append, l1]
          omega
        have hrow : yRow F H L F' H' L' zs = [F] ++ P ++ P' ++ zs := by rw [HROW.out]; simp
        rw [HYE.out, HYB.out, HN.out, if_pos rfl, if_pos rfl, hlen, hrow]
        exact ⟨_, rfl, own_le7 o5 hs2, bel_bel BB.out hs2 f5.out⟩
      · have HN : Hid (yOk F H L F' H' L' n1 = false) := HOK.out.trans (decide_eq_false (fun h => h3 (by omega)))
        have q2 : ((P.length : Int) != (P'.length : Int)) = false := by rw [h2]; simp
        have q3 : 1279 - 2 * (P.length : Int) < (n1 : Int) := by omega
        clear h3 h2
        go_wp2_with fail
        go_ret2
        exact HBAD.out HN.out
    · have HN : Hid (yOk F H L F' H' L' n1 = false) := HOK.out.trans (decide_eq_false (fun h => h2 h.2.1))
      have q2 : ((P.length : Int) != (P'.length : Int)) = true := by rw [bne_iff_ne]; omega
      clear h2
      go_wp2_with fail
      go_ret2
      exact HBAD.out HN.out
end Go.Proofs.Ytnjfckijpbgagaa
namespace Go.Proofs.Ytnjfckijpbgagaa
set_option maxRecDepth 100000
open Go.RowKit
set_option linter.unusedVariables false

theorem yOk_v (F H L F' H' L' : Int) (n : Int) : yOk F H L F' H' L' n = (va F H L && (va F' H' L' && decide (F = F' ∧ 1 + ((pa F H L).length : Int) + ((pa F' H' L').length : Int) + n ≤ 1280))) := by
  have l1 := pa_length F H L
  have l2 := pa_length F' H' L'
  unfold yOk
  cases v1 : va F H L with
  | false =>
    rw [v1] at l1
    rw [Bool.false_and]
    exact decide_eq_false (fun h => h.1 l1)
  | true =>
    rw [v1, if_pos rfl] at l1
    have d1 := of_decide_eq_true (show decide _ = true from v1)
    have p1 : F = 4 ∧ (pa F H L).length = 4 ∨ F = 6 ∧ (pa F H L).length = 16 := by
      rw [l1]
      rcases d1 with rfl | ⟨rfl, _⟩
      · exact .inr ⟨rfl, rfl⟩
      · exact .inl ⟨rfl, rfl⟩
    cases v2 : va F' H' L' with
    | false =>
      rw [v2] at l2
      rw [Bool.false_and, Bool.and_false]
      refine decide_eq_false (fun h => h.1 ?_)
      rw [h.2.1]
      exact l2
    | true =>
      rw [v2, if_pos rfl] at l2
      have d2 := of_decide_eq_true (show decide _ = true from v2)
      have p2 : F' = 4 ∧ (pa F' H' L').length = 4 ∨ F' = 6 ∧ (pa F' H' L').length = 16 := by
        rw [l2]
        rcases d2 with rfl | ⟨rfl, _⟩
        · exact .inr ⟨rfl, rfl⟩
        · exact .inl ⟨rfl, rfl⟩
      rw [Bool.true_and, Bool.true_and]
      refine decide_eq_decide.2 ?_
      omega
set_option maxHeartbeats 4000000 in
theorem putPayload_ (F H L F' H' L' : Int) (a1 : Option Addr) (n1 c1 : Nat) (zs : List Int) (w : World) (hb1 : Bs w a1 n1 zs) (hn1 : n1 ≤ 140737488355328) (hF : InI F) (hH : InU H) (hL : InU L) (hF' : InI F') (hH' : InU H') (hL' : InU L') :
    Calls Try.prog 18 #[.agg #[.int .i64 F, .int .u64 H, .int .u64 L, .int .i64 F', .int .u64 H', .int .u64 L', .slice a1 n1 c1]] w fun e w' => ∃ v, e = .returned (.tuple #[v, .int .i64 (yE F H L F' H' L' zs)]) ∧ w'.ownsRow w.heap.size 5 1 v (yB F H L F' H' L' zs).length (cells (yB F H L F' H' L' zs)) ∧ Below w.heap.size w w' := by
  have B0 := ynew w F H L F' H' L' (.slice a1 n1 c1)
  have m0 := Ym.new w F H L F' H' L' (.slice a1 n1 c1)
  have l1 := hb1.1
  have k1 := fun w => validAddr_ F H L w hF hH hL
  have k2 := fun w => validAddr_ F' H' L' w hF' hH' hL'
  have k3 := fun w => putAddr_ F H L w hF hH hL
  have k4 := fun w => putAddr_ F' H' L' w hF' hH' hL'
  have HYE : Hid (yE F H L F' H' L' zs = if yOk F H L F' H' L' n1 then 0 else 90) := by
    show _ = _
    unfold yE
    rw [l1]
  have HYB : Hid (yB F H L F' H' L' zs = if yOk F H L F' H' L' n1 = true then yRow F H L F' H' L' zs else []) := by
    show _ = _
    unfold yB
    rw [l1]
  have HOK := hid (yOk_v F H L F' H' L' n1)
  have BAD : ∀ w2, Below w.heap.size w w2 → yOk F H L F' H' L' n1 = false → (∃ v, Ending.returned (.tuple #[.slice none 0 0, .int .i64 90]) = .returned (.tuple #[v, .int .i64 (yE F H L F' H' L' zs)]) ∧ w2.ownsRow w.heap.size 5 1 v (yB F H L F' H' L' zs).length (cells (yB F H L F' H' L' zs)) ∧ Below w.heap.size w w2) := fun w2 B2 h => by
    rw [HYE.out, HYB.out, h]
    exact ⟨_, rfl, World.ownsRow_nil _ _ _ _, B2⟩
  have HBAD := hid BAD
  clear BAD
  go_enter Try.func18, Try.ntmps18
  go_wp2_with fail
  refine (k1 _).mono ?_
  rintro e w1 ⟨rfl, g1⟩
  replace m0 := m0.kept g1
  replace B0 := bel_bel B0 B0.size g1
  clear g1 k1
  cases v1 : va F H L with
  | false =>
    have HN : Hid (yOk F H L F' H' L' n1 = false) := by
      show _ = _
      rw [HOK.out, v1, Bool.false_and]
    clear v1
    go_wp2_with fail
    go_ret2
    exact HBAD.out _ B0 HN.out
  | true =>
    rw [v1, Bool.true_and] at HOK
    have HV1 := hid v1
    clear v1
    have c3 := m0.c3
    have c4 := m0.c4
    have c5 := m0.c5
    go_wp2_with fail
    refine (k2 _).mono ?_
    rintro e w2 ⟨rfl, g1⟩
    replace m0 := m0.kept g1
    replace B0 := bel_bel B0 B0.size g1
    clear g1 k2 c3 c4 c5
    cases v2 : va F' H' L' with
    | false =>
      have HN : Hid (yOk F H L F' H' L' n1 = false) := by
        show _ = _
        rw [HOK.out, v2, Bool.false_and]
      clear v2
      go_wp2_with fail
      go_ret2
      exact HBAD.out _ B0 HN.out
    | true =>
      rw [v2, Bool.true_and] at HOK
      have HV2 := hid v2
      clear v2
      have c0 := m0.c0
      have c3 := m0.c3
      by_cases hFF : F = F'
      · have eF : (F != F') = false := by rw [hFF]; simp
        have HFF := hid hFF
        have hF46 : F = 4 ∨ F = 6 := by
          have := of_decide_eq_true (show decide _ = true from HV1.out)
          omega
        have hF8 : F % 256 = F := by omega
        clear hFF
        have BA := (Below.refl w2.heap.size w2).alloc (Nat.le_refl _) (.cells #[.int .u8 F] 5)
        have OF : Hid ((w2.alloc (.cells #[.int .u8 F] 5)).heap[w2.heap.size]? = some (.cells #[.int .u8 F] 5 (0, 0))) := heap_alloc_new _ _
        have M0 := hid (m0.kept BA)
        have BB := hid (bel_bel B0 B0.size BA)
        have YB := hid (hb1.below (bel_bel B0 B0.size BA))
        have hw2 : w2.heap.size < (w2.alloc (.cells #[.int .u8 F] 5)).heap.size := by simp
        have hlw := m0.lt
        have HP := hid (pa_byte F H L)
        have HP' := hid (pa_byte F' H' L')
        have hA := pa_le F H L
        have hA' := pa_le F' H' L'
        obtain ⟨P, HPE⟩ : ∃ P, Hid (pa F H L = P) := ⟨_, rfl⟩
        obtain ⟨P', HPE'⟩ : ∃ P', Hid (pa F' H' L' = P') := ⟨_, rfl⟩
        simp only [HPE.out, HPE'.out] at k3 k4 HOK hA hA' HP HP'
        have HROW : Hid (yRow F H L F' H' L' zs = F :: (P ++ (P' ++ zs))) := by
          show _ = _
          unfold yRow
          rw [HPE.out, HPE'.out]
        clear m0 B0 BA hb1
        go_wp2_with fail
        have d0 := M0.out.c0
        have d1 := M0.out.c1
        have d2 := M0.out.c2
        have d3 := M0.out.c3
        have d4 := M0.out.c4
        have d5 := M0.out.c5
        have hlt := M0.out.lt
        clear c0 c3
        generalize w2.alloc (.cells #[.int .u8 F] 5) = wa at *
        generalize w2.heap.size = q at *
        go_region_held (fun wx => wx.cell? ⟨w.heap.size, 0, none⟩ = some (.int .i64 F) ∧ wx.cell? ⟨w.heap.size, 1, none⟩ = some (.int .u64 H) ∧ wx.cell? ⟨w.heap.size, 2, none⟩ = some (.int .u64 L) ∧ wx.cell? ⟨w.heap.size, 3, none⟩ = some (.int .i64 F') ∧ wx.cell? ⟨w.heap.size, 4, none⟩ = some (.int .u64 H') ∧ wx.cell? ⟨w.heap.size, 5, none⟩ = some (.int .u64 L')) (go_keep) (first | (go_at_call 38; have HQ3 := G3; refine (k4 _).mono ?_; rintro e w4 ⟨v4, rfl, o4, g4⟩; obtain ⟨p4, r4, rfl, z4, _⟩ := own_form o4 HP'.out; have y0 := (g4.cell (p := ⟨w.heap.size, 0, none⟩) (by have := G3.out.size; exact Nat.lt_of_lt_of_le hlt this)).trans y0; have y1 := (g4.cell (p := ⟨w.heap.size, 1, none⟩) (by have := G3.out.size; exact Nat.lt_of_lt_of_le hlt this)).trans y1; have y2 := (g4.cell (p := ⟨w.heap.size, 2, none⟩) (by have := G3.out.size; exact Nat.lt_of_lt_of_le hlt this)).trans y2; have y3 := (g4.cell (p := ⟨w.heap.size, 3, none⟩) (by have := G3.out.size; exact Nat.lt_of_lt_of_le hlt this)).trans y3; have y4 := (g4.cell (p := ⟨w.heap.size, 4, none⟩) (by have := G3.out.size; exact Nat.lt_of_lt_of_le hlt this)).trans y4; have y5 := (g4.cell (p := ⟨w.heap.size, 5, none⟩) (by have := G3.out.size; exact Nat.lt_of_lt_of_le hlt this)).trans y5) | (go_at_call 38; refine (k3 _).mono ?_; rintro e w3 ⟨v3, rfl, o3, g3⟩; obtain ⟨p3, r3, rfl, z3, _⟩ := own_form o3 HP.out; have y0 := (g3.cell (p := ⟨w.heap.size, 0, none⟩) hlt).trans d0; have y1 := (g3.cell (p := ⟨w.heap.size, 1, none⟩) hlt).trans d1; have y2 := (g3.cell (p := ⟨w.heap.size, 2, none⟩) hlt).trans d2; have y3 := (g3.cell (p := ⟨w.heap.size, 3, none⟩) hlt).trans d3; have y4 := (g3.cell (p := ⟨w.heap.size, 4, none⟩) hlt).trans d4; have y5 := (g3.cell (p := ⟨w.heap.size, 5, none⟩) hlt).trans d5; have G3 := hid g3; have Z3 := hid z3; clear g3 o3 z3))
        have Ga : Below wa.heap.size wa w4 := by
          have h1 : Below wa.heap.size wa wa.drew := ⟨rfl, rfl, rfl, Nat.le_refl _, fun _ _ => rfl⟩
          have h2 := bel_bel h1 h1.size G3.out
          exact bel_bel h2 h2.size g4
        have m4 := M0.out.kept Ga
        have B4 := bel_bel BB.out BB.out.size Ga
        have F4 : Hid (w4.heap[q]? = some (.cells #[.int .u8 F] 5 (0, 0))) := (Ga.block q hw2).trans OF.out
        have Y4 := hid (YB.out.below Ga)
        have Z5 := hid (Z3.out.below g4)
        have Z4 := hid z4
        have c6 := m4.c6
        clear y0 y1 y2 y3 y4 y5 d0 d1 d2 d3 d4 d5 G3 HQ3 g4 o4 k3 k4 Z3 OF M0 BB YB z4 Ga
        by_cases hS : 1 + (P.length : Int) + (P'.length : Int) + (n1 : Int) ≤ 1280
        · have HN : Hid (yOk F H L F' H' L' n1 = true) := by
            show _ = _
            rw [HOK.out]
            exact decide_eq_true ⟨HFF.out, hS⟩
          have hS' : ¬ (1280 < 1 + (P.length : Int) + (P'.length : Int) + (n1 : Int)) := by omega
          have hS2 : n1 ≤ 1280 := by omega
          have HFL : Hid (fl (fun i => if i = 0 then [F] else if i = 1 then P else if i = 2 then P' else zs) 4 = yRow F H L F' H' L' zs) := by
            show _ = _
            rw [HROW.out]
            simp [fl]
          have hlen : Hid ((yRow F H L F' H' L' zs).length = (yB F H L F' H' L' zs).length) := by
            show _ = _
            rw [HYB.out, HN.out, if_pos rfl]
          have hw4 := hid (World.size_alloc w4 (.cells #[.slice (some ⟨q, 0, none⟩) 1 1, .slice p3 P.length r3, .slice p4 P'.length r4, .slice a1 n1 c1] 22))
          have BA := (Below.refl w4.heap.size w4).alloc (Nat.le_refl _) (.cells #[.slice (some ⟨q, 0, none⟩) 1 1, .slice p3 P.length r3, .slice p4 P'.length r4, .slice a1 n1 c1] 22)
          have kc := concat_ w4.heap.size 4 (fun i => if i = 0 then some ⟨q, 0, none⟩ else if i = 1 then p3 else if i = 2 then p4 else a1) (fun i => if i = 0 then 1 else if i = 1 then P.length else if i = 2 then P'.length else n1) (fun i => if i = 0 then 1 else if i = 1 then r3 else if i = 2 then r4 else c1) (fun i => if i = 0 then [F] else if i = 1 then P else if i = 2 then P' else zs)
            (w4.alloc (.cells #[.slice (some ⟨q, 0, none⟩) 1 1, .slice p3 P.length r3, .slice p4 P'.length r4, .slice a1 n1 c1] 22))
            (fun i hi => by
              have hh := heap_alloc_new w4 (.cells #[.slice (some ⟨q, 0, none⟩) 1 1, .slice p3 P.length r3, .slice p4 P'.length r4, .slice a1 n1 c1] 22)
              have : i = 0 ∨ i = 1 ∨ i = 2 ∨ i = 3 := by omega
              rcases this with rfl | rfl | rfl | rfl
              · exact (cell_of_row _ _ 0 _ _ (0, 0) hh).trans rfl
              · exact (cell_of_row _ _ 1 _ _ (0, 0) hh).trans rfl
              · exact (cell_of_row _ _ 2 _ _ (0, 0) hh).trans rfl
              · exact (cell_of_row _ _ 3 _ _ (0, 0) hh).trans rfl)
            (fun i hi => by
              have : i = 0 ∨ i = 1 ∨ i = 2 ∨ i = 3 := by omega
              rcases this with rfl | rfl | rfl | rfl
              · refine Bs.below ?_ BA
                refine ⟨rfl, fun z hz => ?_, .inr ⟨q, 0, rfl, fun j hj => ?_⟩⟩
                · simp at hz
                  omega
                · have hj' : j < 1 := hj
                  obtain rfl : j = 0 := by omega
                  exact (cell_of_row _ _ 0 _ _ (0, 0) F4.out).trans rfl
              · exact Z5.out.below BA
              · exact Z4.out.below BA
              · exact Y4.out.below BA)
            (by decide) (by decide) (fun i hi => by
              have : i = 0 ∨ i = 1 ∨ i = 2 ∨ i = 3 := by omega
              rcases this with rfl | rfl | rfl | rfl
              · show 1 ≤ 10000
                decide
              · show P.length ≤ 10000
                omega
              · show P'.length ≤ 10000
                omega
              · show n1 ≤ 10000
                omega) (show 0 < 1 by decide)
          rw [HFL.out, hlen.out] at kc
          have B5 := hid (bel_bel B4 B4.size BA)
          have hb4 := B4.size
          clear hS m4 B4 BA
          go_wp2_with fail
          refine kc.mono ?_
          rintro e w5 ⟨v5, rfl, o5, g5⟩
          go_wp2_with fail
          go_ret2
          refine ⟨_, by rw [HYE.out, HN.out]; rfl, own_le7 ?_ hb4, bel_bel B5.out B5.out.size g5⟩
          have ho := own_le7 o5 (B' := w4.heap.size) (by rw [hw4.out]; omega)
          rw [HYB.out, HN.out, if_pos rfl] at ho ⊢
          exact ho
        · have HN : Hid (yOk F H L F' H' L' n1 = false) := by
            show _ = _
            rw [HOK.out]
            exact decide_eq_false (fun h => hS h.2)
          have hS' : 1280 < 1 + (P.length : Int) + (P'.length : Int) + (n1 : Int) := by omega
          clear hS
          go_wp2_with fail
          go_ret2
          exact HBAD.out _ B4 HN.out
      · have eF : (F != F') = true := by rw [bne_iff_ne]; exact hFF
        have HN : Hid (yOk F H L F' H' L' n1 = false) := by
          show _ = _
          rw [HOK.out]
          exact decide_eq_false (fun h => hFF h.1)
        clear hFF
        go_wp2_with fail
        go_ret2
        exact HBAD.out _ B0 HN.out
end Go.Proofs.Ytnjfckijpbgagaa
