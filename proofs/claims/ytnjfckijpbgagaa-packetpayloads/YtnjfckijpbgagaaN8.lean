import Derived.Test.YtnjfckijpbgagaaHB
namespace Go.Proofs.Ytnjfckijpbgagaa
set_option maxRecDepth 100000
open Go.RowKit
set_option linter.unusedVariables false

set_option maxHeartbeats 8000000 in
theorem refGetPayload_ (a : Option Addr) (n c : Nat) (zs : List Int) (w : World) (hb : Bs w a n zs) (hnc : n ≤ c) (hc : c ≤ maxLen) :
    Calls Try.prog 21 #[.slice a n c] w fun e w' => Wo w.heap.size zs e w' ∧ Below w.heap.size w w' := by
  have B0 := ynew w 0 0 0 0 0 0 (.slice none 0 0)
  have m0 := Ym.new w 0 0 0 0 0 0 (.slice none 0 0)
  have hl := hb.1
  have hcm := hc
  unfold maxLen at hcm
  by_cases hn0 : n = 0
  · subst hn0
    have HN : Hid (zOk zs = false) := zOk_no (.inl (by unfold yN; rw [if_pos hl]))
    clear hb
    go_enter Try.func21, Try.ntmps21
    go_wp2_with (with_reducible show wpList _ _ _ (_ :: _) _ _; refine wpList_sy rfl rfl _ _ rfl w.heap.size 0 0 0 0 0 0 none 0 0 rfl rfl 0 0 0 0 0 0 (.slice none 0 0) (by with_reducible exact m0) ?_)
    refine bodyPost_ret (v := .tuple #[.agg #[.int .i64 0, .int .u64 0, .int .u64 0, .int .i64 0, .int .u64 0, .int .u64 0, .slice none 0 0], .int .i64 90]) ?_ rfl ⟨Wo.bad HN.out _, bel_row B0 (Nat.le_refl _) _⟩
    exact results_y2 rfl _ _ w.heap.size 0 0 0 0 0 0 _ _ rfl rfl (m0.row 0 0 0 0 0 0 _)
  · have hp : (0 : Int) < (n : Int) := by omega
    obtain ⟨b, off, rfl, hcq⟩ : ∃ b off, a = some ⟨b, off, none⟩ ∧ ∀ i, i < n → w.cell? ⟨b, off + i, none⟩ = some (.int .u8 (zs.getD i 0)) := by
      rcases hb.2.2 with h | h
      · omega
      · exact h
    have hz0 := hcq 0 (by omega)
    rw [Nat.add_zero] at hz0
    have HCQ := hid hcq
    have hblt : b < w.heap.size := World.block_lt_of_cell? w _ hz0
    have HBY := hid hb.2.1
    have HBS := hid hb
    have hyn : Hid (yN zs = if zs.getD 0 0 = 4 then 4 else if zs.getD 0 0 = 6 then 16 else 0) := by
      show _ = _
      unfold yN
      rw [if_neg (by omega)]
    obtain ⟨f, Hf⟩ : ∃ f, Hid (zs.getD 0 0 = f) := ⟨_, rfl⟩
    rw [Hf.out] at hz0 hyn
    replace hz0 := (B0.cell hblt).trans hz0
    have HBAD : Hid (∀ w2, yN zs = 0 ∨ zs.length < 1 + 2 * yN zs ∨ 1280 < zs.length → Wo w.heap.size zs (.returned (.tuple #[.agg #[.int .i64 0, .int .u64 0, .int .u64 0, .int .i64 0, .int .u64 0, .int .u64 0, .slice none 0 0], .int .i64 90])) w2) := fun w2 h => Wo.bad (zOk_no (by omega)) w2
    clear hcq hb hn0
    by_cases h4 : f = 4
    · subst h4
      rw [if_pos rfl] at hyn
      by_cases hr : n < 9
      · have hrI : (n : Int) < 9 := by omega
        have HW := hid (fun w2 => HBAD.out w2 (.inr (.inl (by rw [hyn.out]; omega))))
        clear hr
        go_enter Try.func21, Try.ntmps21
        go_wp2_with (with_reducible show wpList _ _ _ (_ :: _) _ _; refine wpList_sy rfl rfl _ _ rfl w.heap.size 0 0 0 0 0 0 none 0 0 rfl rfl 0 0 0 0 0 0 (.slice none 0 0) (by with_reducible exact m0) ?_)
        refine bodyPost_ret (v := .tuple #[.agg #[.int .i64 0, .int .u64 0, .int .u64 0, .int .i64 0, .int .u64 0, .int .u64 0, .slice none 0 0], .int .i64 90]) ?_ rfl ⟨HW.out _, bel_row B0 (Nat.le_refl _) _⟩
        exact results_y2 rfl _ _ w.heap.size 0 0 0 0 0 0 _ _ rfl rfl (m0.row 0 0 0 0 0 0 _)
      · have hrI : ¬ (n : Int) < 9 := by omega
        by_cases hr2 : 1280 < n
        · have hrJ : (1280 : Int) < (n : Int) := by omega
          have HW := hid (fun w2 => HBAD.out w2 (.inr (.inr (by omega))))
          clear hr
          go_enter Try.func21, Try.ntmps21
          go_wp2_with (with_reducible show wpList _ _ _ (_ :: _) _ _; refine wpList_sy rfl rfl _ _ rfl w.heap.size 0 0 0 0 0 0 none 0 0 rfl rfl 0 0 0 0 0 0 (.slice none 0 0) (by with_reducible exact m0) ?_)
          refine bodyPost_ret (v := .tuple #[.agg #[.int .i64 0, .int .u64 0, .int .u64 0, .int .i64 0, .int .u64 0, .int .u64 0, .slice none 0 0], .int .i64 90]) ?_ rfl ⟨HW.out _, bel_row B0 (Nat.le_refl _) _⟩
          exact results_y2 rfl _ _ w.heap.size 0 0 0 0 0 0 _ _ rfl rfl (m0.row 0 0 0 0 0 0 _)
        · have hrJ : ¬ (1280 : Int) < (n : Int) := by omega
          have HN : Hid (zOk zs = true) := decide_eq_true (by rw [hyn.out]; omega)
          have ls : (zS zs).length = 4 := by unfold zS; rw [hyn.out, List.length_take, List.length_drop]; omega
          have ld : (zD zs).length = 4 := by unfold zD; rw [hyn.out, List.length_take, List.length_drop]; omega
          have HCS : Hid (∀ w', Below w.heap.size w w' → ∀ i, i < 4 → w'.cell? ⟨b, off + 1 + i, none⟩ = some (.int .u8 ((zS zs).getD i 0))) := fun w' hw i hi => by
            rw [Nat.add_assoc, (hw.cell (p := ⟨b, off + (1 + i), none⟩) hblt).trans (HCQ.out (1 + i) (by omega))]
            unfold zS
            rw [hyn.out]
            simp only [List.getD, List.getElem?_take, if_pos hi, List.getElem?_drop]
          have HCD : Hid (∀ w', Below w.heap.size w w' → ∀ i, i < 4 → w'.cell? ⟨b, off + 5 + i, none⟩ = some (.int .u8 ((zD zs).getD i 0))) := fun w' hw i hi => by
            rw [Nat.add_assoc, (hw.cell (p := ⟨b, off + (5 + i), none⟩) hblt).trans (HCQ.out (5 + i) (by omega))]
            unfold zD
            rw [hyn.out]
            simp only [List.getD, List.getElem?_take, if_pos hi, List.getElem?_drop]
          have k1 := fun w hcc => refAddr_ b (off + 1) 4 (c - 1) (zS zs) w ls (by decide) (fun z hz => HBY.out z (List.mem_of_mem_drop (List.mem_of_mem_take hz))) hcc
          have k2 := fun w hcc => refAddr_ b (off + 5) 4 (c - 5) (zD zs) w ld (by decide) (fun z hz => HBY.out z (List.mem_of_mem_drop (List.mem_of_mem_take hz))) hcc
          obtain ⟨o3, Ho3⟩ : ∃ x, Hid ((if c = 9 then off else off + 9) = x) := ⟨_, rfl⟩
          have HZB : Hid (zB zs = zs.drop 9) := by
            show _ = _
            unfold zB
            rw [HN.out, if_pos rfl, hyn.out]
          have XB : Hid (Bs w (some ⟨b, o3, none⟩) (n - 9) (zB zs)) := by
            show Bs _ _ _ _
            rw [HZB.out, ← Ho3.out]
            refine ⟨by rw [List.length_drop, hl], fun z hz => HBY.out z (List.mem_of_mem_drop hz), ?_⟩
            by_cases hck : c = 9
            · exact .inl (by omega)
            · rw [if_neg hck]
              refine .inr ⟨b, off + 9, rfl, fun i hi => ?_⟩
              rw [Nat.add_assoc, HCQ.out (9 + i) (by omega)]
              simp only [List.getD, List.getElem?_drop]
          have hck1 : (if c = 9 then off else off + 9) = o3 := Ho3.out
          have HVAL : Hid (∀ a m cc w2, w2.ownsRow w.heap.size 5 1 (.slice a m cc) m (cells (zB zs)) → Wo w.heap.size zs (.returned (.tuple #[.agg #[.int .i64 4, .int .u64 (ah (zS zs)), .int .u64 (alP (zS zs)), .int .i64 4, .int .u64 (ah (zD zs)), .int .u64 (alP (zD zs)), .slice a m cc], .int .i64 0])) w2) := fun a m cc w2 ho => by
            refine ⟨a, m, cc, ?_, ho⟩
            unfold zZ zE
            rw [HN.out, hyn.out]
            rfl
          have haf : af 4 = 4 := rfl
          rw [haf] at k1 k2
          obtain ⟨H, HH⟩ : ∃ H, Hid (ah (zS zs) = H) := ⟨_, rfl⟩
          obtain ⟨L, HL⟩ : ∃ H, Hid (alP (zS zs) = H) := ⟨_, rfl⟩
          obtain ⟨H', HH'⟩ : ∃ H, Hid (ah (zD zs) = H) := ⟨_, rfl⟩
          obtain ⟨L', HL'⟩ : ∃ H, Hid (alP (zD zs) = H) := ⟨_, rfl⟩
          simp only [HH.out, HL.out] at k1 HVAL
          simp only [HH'.out, HL'.out] at k2 HVAL
          have HZY : Hid (∀ z ∈ zB zs, 0 ≤ z ∧ z ≤ 255) := XB.out.2.1
          clear haf hr hr2 ls ld
          go_enter Try.func21, Try.ntmps21
          have HB0 := hid B0
          have HM0 := hid m0
          clear B0 m0
          go_wp2_with fail
          refine (k1 _ (HCS.out _ HB0.out)).mono ?_
          rintro e w1 ⟨rfl, g1⟩
          have m1 := HM0.out.kept g1
          have B1 := bel_bel HB0.out HB0.out.size g1
          clear g1 k1 HB0 HM0 hz0
          have mA := Am.new w1 4 H L
          have MA := hid mA
          have M2 := hid (m1.alloc (.cells #[.int .i64 4, .int .u64 H, .int .u64 L] 43))
          have HB2 := hid (B1.alloc B1.size (.cells #[.int .i64 4, .int .u64 H, .int .u64 L] 43))
          have hw1 := m1.lt
          clear m1 mA B1
          go_wp2_with fail
          refine (k2 _ (HCD.out _ HB2.out)).mono ?_
          rintro e w2 ⟨rfl, g2⟩
          have m2 := M2.out.kept g2
          have mA := MA.out.kept g2
          have B2 := bel_bel HB2.out HB2.out.size g2
          clear g2 k2 HB2 M2 MA
          have mB := Am.new w2 4 H' L'
          have hw2 := mA.lt
          have MB := hid mB
          have BA := (Below.refl w2.heap.size w2).alloc (Nat.le_refl _) (.cells #[.int .i64 4, .int .u64 H', .int .u64 L'] 43)
          have MA := hid (mA.kept BA)
          have M3 := hid (m2.kept BA)
          have HB3 := hid (bel_bel B2 B2.size BA)
          have XB3 := hid (XB.out.below (bel_bel B2 B2.size BA))
          clear m2 mA mB B2 BA
          go_wp2_with fail
          have d0 := MA.out.c0
          have d1 := MA.out.c1
          have d2 := MA.out.c2
          have e0 := MB.out.c0
          have e1 := MB.out.c1
          have e2 := MB.out.c2
          have lA := MA.out.lt
          have lB := MB.out.lt
          have lM := M3.out.lt
          generalize w2.alloc (.cells #[.int .i64 4, .int .u64 H', .int .u64 L'] 43) = w3 at *
          generalize w2.heap.size = qB at *
          generalize w1.heap.size = qA at *
          have nA : ¬ qA = w.heap.size := by omega
          have nA' : ¬ w.heap.size = qA := by omega
          have nB : ¬ qB = w.heap.size := by omega
          have nB' : ¬ w.heap.size = qB := by omega
          by_cases hck : c = 9
          · rw [if_pos hck] at hck1
            subst hck1
            subst hck
            obtain rfl : n = 9 := by omega
            replace XB3 : Hid (Bs w3 (some ⟨b, off, none⟩) 0 (zB zs)) := XB3
            have kby := fun w hbb => refBytes (some ⟨b, off, none⟩) 0 0 (zB zs) w hbb (by omega)
            go_region_held (fun wx => wx.cell? ⟨qA, 0, none⟩ = some (.int .i64 4) ∧ wx.cell? ⟨qA, 1, none⟩ = some (.int .u64 H) ∧ wx.cell? ⟨qA, 2, none⟩ = some (.int .u64 L) ∧ wx.cell? ⟨qB, 0, none⟩ = some (.int .i64 4) ∧ wx.cell? ⟨qB, 1, none⟩ = some (.int .u64 H') ∧ wx.cell? ⟨qB, 2, none⟩ = some (.int .u64 L')) (go_keep) (first | (go_at_call 10; refine (kby _ (by exact XB3.out)).mono ?_; rintro e w6 ⟨v6, rfl, o6, g6⟩; obtain ⟨a6, c6, rfl, _, _⟩ := own_form o6 HZY.out; have m6 := Ym.kept (by exact M3.out) g6; have q0 := m6.c0; have q1 := m6.c1; have q2 := m6.c2; have q3 := m6.c3; have q4 := m6.c4; have q5 := m6.c5; have q6 := m6.c6; have f0 := m6.fz 0; have f1 := m6.fz 1; have f2 := m6.fz 2; have f3 := m6.fz 3; have f4 := m6.fz 4; have f5 := m6.fz 5; have f6 := m6.fz 6; have M6 := hid m6; clear m6; have d0 := (g6.cell (p := ⟨qA, 0, none⟩) lA).trans d0; have d1 := (g6.cell (p := ⟨qA, 1, none⟩) lA).trans d1; have d2 := (g6.cell (p := ⟨qA, 2, none⟩) lA).trans d2; have e0 := (g6.cell (p := ⟨qB, 0, none⟩) lB).trans e0; have e1 := (g6.cell (p := ⟨qB, 1, none⟩) lB).trans e1; have e2 := (g6.cell (p := ⟨qB, 2, none⟩) lB).trans e2))
            have B3 : Below w.heap.size w w3.drew := ⟨HB3.out.os, HB3.out.tape, HB3.out.output, HB3.out.size, HB3.out.block⟩
            have B6 := bel_bel B3 B3.size g6
            have hw5 : w.heap.size < w3.drew.heap.size := lM
            have m7 := M6.out.set7 4 H L 4 H' L' (.slice a6 0 c6)
            have B7 := ((((((B6.setCell (p := ⟨w.heap.size, 0, none⟩) (Nat.le_refl _) (.int .i64 4)).setCell (p := ⟨w.heap.size, 1, none⟩) (Nat.le_refl _) (.int .u64 H)).setCell (p := ⟨w.heap.size, 2, none⟩) (Nat.le_refl _) (.int .u64 L)).setCell (p := ⟨w.heap.size, 3, none⟩) (Nat.le_refl _) (.int .i64 4)).setCell (p := ⟨w.heap.size, 4, none⟩) (Nat.le_refl _) (.int .u64 H')).setCell (p := ⟨w.heap.size, 5, none⟩) (Nat.le_refl _) (.int .u64 L')).setCell (p := ⟨w.heap.size, 6, none⟩) (Nat.le_refl _) (.slice a6 0 c6)
            have hne : ∀ k, (Value.slice a6 0 c6).ownBlock = some k → k ≠ w.heap.size := fun k hk => by
              have := (o6.lt k hk).1
              omega
            have o7 := own_le7 (own_set (own_set (own_set (own_set (own_set (own_set (own_set o6 hne 0 (.int .i64 4)) hne 1 (.int .u64 H)) hne 2 (.int .u64 L)) hne 3 (.int .i64 4)) hne 4 (.int .u64 H')) hne 5 (.int .u64 L')) hne 6 (.slice a6 0 c6)) (Nat.le_of_lt hw5)
            have HO := hid (HVAL.out a6 0 c6 _ o7)
            have M7 := hid m7
            have H7 := hid B7
            clear q0 q1 q2 q3 q4 q5 q6 f0 f1 f2 f3 f4 f5 f6 M6 o6 g6 B3 B6 m7 B7 o7 d0 d1 d2 e0 e1 e2
            go_wp2_with fail
            refine bodyPost_ret (v := .tuple #[.agg #[.int .i64 4, .int .u64 H, .int .u64 L, .int .i64 4, .int .u64 H', .int .u64 L', .slice a6 0 c6], .int .i64 0]) ?_ rfl ⟨HO.out, H7.out⟩
            exact results_y2 rfl _ _ w.heap.size 4 H L 4 H' L' _ _ rfl rfl M7.out
          · rw [if_neg hck] at hck1
            subst hck1
            have hncI : (n : Int) ≤ (c : Int) := by omega
            have hkc : (9 : Int) ≤ (c : Int) := by omega
            have hkn : (9 : Int) ≤ (n : Int) := by omega
            have hk2 : IntKind.i64.wrap 8 = 8 := by decide
            have hk3 : IntKind.i64.wrap 9 = 9 := by decide
            have hk4 : IntKind.i64.wrap (1 + 8) = 9 := by decide
            have kby := fun w hbb => refBytes (some ⟨b, (off + 9), none⟩) (n - 9) (c - 9) (zB zs) w hbb (by omega)
            go_region_held (fun wx => wx.cell? ⟨qA, 0, none⟩ = some (.int .i64 4) ∧ wx.cell? ⟨qA, 1, none⟩ = some (.int .u64 H) ∧ wx.cell? ⟨qA, 2, none⟩ = some (.int .u64 L) ∧ wx.cell? ⟨qB, 0, none⟩ = some (.int .i64 4) ∧ wx.cell? ⟨qB, 1, none⟩ = some (.int .u64 H') ∧ wx.cell? ⟨qB, 2, none⟩ = some (.int .u64 L')) (go_keep) (first | (go_at_call 10; refine (kby _ (by exact XB3.out)).mono ?_; rintro e w6 ⟨v6, rfl, o6, g6⟩; obtain ⟨a6, c6, rfl, _, _⟩ := own_form o6 HZY.out; have m6 := Ym.kept (by exact M3.out) g6; have q0 := m6.c0; have q1 := m6.c1; have q2 := m6.c2; have q3 := m6.c3; have q4 := m6.c4; have q5 := m6.c5; have q6 := m6.c6; have f0 := m6.fz 0; have f1 := m6.fz 1; have f2 := m6.fz 2; have f3 := m6.fz 3; have f4 := m6.fz 4; have f5 := m6.fz 5; have f6 := m6.fz 6; have M6 := hid m6; clear m6; have d0 := (g6.cell (p := ⟨qA, 0, none⟩) lA).trans d0; have d1 := (g6.cell (p := ⟨qA, 1, none⟩) lA).trans d1; have d2 := (g6.cell (p := ⟨qA, 2, none⟩) lA).trans d2; have e0 := (g6.cell (p := ⟨qB, 0, none⟩) lB).trans e0; have e1 := (g6.cell (p := ⟨qB, 1, none⟩) lB).trans e1; have e2 := (g6.cell (p := ⟨qB, 2, none⟩) lB).trans e2))
            have B3 : Below w.heap.size w w3.drew := ⟨HB3.out.os, HB3.out.tape, HB3.out.output, HB3.out.size, HB3.out.block⟩
            have B6 := bel_bel B3 B3.size g6
            have hw5 : w.heap.size < w3.drew.heap.size := lM
            have m7 := M6.out.set7 4 H L 4 H' L' (.slice a6 (n - 9) c6)
            have B7 := ((((((B6.setCell (p := ⟨w.heap.size, 0, none⟩) (Nat.le_refl _) (.int .i64 4)).setCell (p := ⟨w.heap.size, 1, none⟩) (Nat.le_refl _) (.int .u64 H)).setCell (p := ⟨w.heap.size, 2, none⟩) (Nat.le_refl _) (.int .u64 L)).setCell (p := ⟨w.heap.size, 3, none⟩) (Nat.le_refl _) (.int .i64 4)).setCell (p := ⟨w.heap.size, 4, none⟩) (Nat.le_refl _) (.int .u64 H')).setCell (p := ⟨w.heap.size, 5, none⟩) (Nat.le_refl _) (.int .u64 L')).setCell (p := ⟨w.heap.size, 6, none⟩) (Nat.le_refl _) (.slice a6 (n - 9) c6)
            have hne : ∀ k, (Value.slice a6 (n - 9) c6).ownBlock = some k → k ≠ w.heap.size := fun k hk => by
              have := (o6.lt k hk).1
              omega
            have o7 := own_le7 (own_set (own_set (own_set (own_set (own_set (own_set (own_set o6 hne 0 (.int .i64 4)) hne 1 (.int .u64 H)) hne 2 (.int .u64 L)) hne 3 (.int .i64 4)) hne 4 (.int .u64 H')) hne 5 (.int .u64 L')) hne 6 (.slice a6 (n - 9) c6)) (Nat.le_of_lt hw5)
            have HO := hid (HVAL.out a6 (n - 9) c6 _ o7)
            have M7 := hid m7
            have H7 := hid B7
            clear q0 q1 q2 q3 q4 q5 q6 f0 f1 f2 f3 f4 f5 f6 M6 o6 g6 B3 B6 m7 B7 o7 d0 d1 d2 e0 e1 e2
            go_wp2_with fail
            refine bodyPost_ret (v := .tuple #[.agg #[.int .i64 4, .int .u64 H, .int .u64 L, .int .i64 4, .int .u64 H', .int .u64 L', .slice a6 (n - 9) c6], .int .i64 0]) ?_ rfl ⟨HO.out, H7.out⟩
            exact results_y2 rfl _ _ w.heap.size 4 H L 4 H' L' _ _ rfl rfl M7.out
    · by_cases h6 : f = 6
      · subst h6
        rw [if_neg h4, if_pos rfl] at hyn
        by_cases hr : n < 33
        · have hrI : (n : Int) < 33 := by omega
          have HW := hid (fun w2 => HBAD.out w2 (.inr (.inl (by rw [hyn.out]; omega))))
          clear hr
          go_enter Try.func21, Try.ntmps21
          go_wp2_with (with_reducible show wpList _ _ _ (_ :: _) _ _; refine wpList_sy rfl rfl _ _ rfl w.heap.size 0 0 0 0 0 0 none 0 0 rfl rfl 0 0 0 0 0 0 (.slice none 0 0) (by with_reducible exact m0) ?_)
          refine bodyPost_ret (v := .tuple #[.agg #[.int .i64 0, .int .u64 0, .int .u64 0, .int .i64 0, .int .u64 0, .int .u64 0, .slice none 0 0], .int .i64 90]) ?_ rfl ⟨HW.out _, bel_row B0 (Nat.le_refl _) _⟩
          exact results_y2 rfl _ _ w.heap.size 0 0 0 0 0 0 _ _ rfl rfl (m0.row 0 0 0 0 0 0 _)
        · have hrI : ¬ (n : Int) < 33 := by omega
          by_cases hr2 : 1280 < n
          · have hrJ : (1280 : Int) < (n : Int) := by omega
            have HW := hid (fun w2 => HBAD.out w2 (.inr (.inr (by omega))))
            clear hr
            go_enter Try.func21, Try.ntmps21
            go_wp2_with (with_reducible show wpList _ _ _ (_ :: _) _ _; refine wpList_sy rfl rfl _ _ rfl w.heap.size 0 0 0 0 0 0 none 0 0 rfl rfl 0 0 0 0 0 0 (.slice none 0 0) (by with_reducible exact m0) ?_)
            refine bodyPost_ret (v := .tuple #[.agg #[.int .i64 0, .int .u64 0, .int .u64 0, .int .i64 0, .int .u64 0, .int .u64 0, .slice none 0 0], .int .i64 90]) ?_ rfl ⟨HW.out _, bel_row B0 (Nat.le_refl _) _⟩
            exact results_y2 rfl _ _ w.heap.size 0 0 0 0 0 0 _ _ rfl rfl (m0.row 0 0 0 0 0 0 _)
          · have hrJ : ¬ (1280 : Int) < (n : Int) := by omega
            have HN : Hid (zOk zs = true) := decide_eq_true (by rw [hyn.out]; omega)
            have ls : (zS zs).length = 16 := by unfold zS; rw [hyn.out, List.length_take, List.length_drop]; omega
            have ld : (zD zs).length = 16 := by unfold zD; rw [hyn.out, List.length_take, List.length_drop]; omega
            have HCS : Hid (∀ w', Below w.heap.size w w' → ∀ i, i < 16 → w'.cell? ⟨b, off + 1 + i, none⟩ = some (.int .u8 ((zS zs).getD i 0))) := fun w' hw i hi => by
              rw [Nat.add_assoc, (hw.cell (p := ⟨b, off + (1 + i), none⟩) hblt).trans (HCQ.out (1 + i) (by omega))]
              unfold zS
              rw [hyn.out]
              simp only [List.getD, List.getElem?_take, if_pos hi, List.getElem?_drop]
            have HCD : Hid (∀ w', Below w.heap.size w w' → ∀ i, i < 16 → w'.cell? ⟨b, off + 17 + i, none⟩ = some (.int .u8 ((zD zs).getD i 0))) := fun w' hw i hi => by
              rw [Nat.add_assoc, (hw.cell (p := ⟨b, off + (17 + i), none⟩) hblt).trans (HCQ.out (17 + i) (by omega))]
              unfold zD
              rw [hyn.out]
              simp only [List.getD, List.getElem?_take, if_pos hi, List.getElem?_drop]
            have k1 := fun w hcc => refAddr_ b (off + 1) 16 (c - 1) (zS zs) w ls (by decide) (fun z hz => HBY.out z (List.mem_of_mem_drop (List.mem_of_mem_take hz))) hcc
            have k2 := fun w hcc => refAddr_ b (off + 17) 16 (c - 17) (zD zs) w ld (by decide) (fun z hz => HBY.out z (List.mem_of_mem_drop (List.mem_of_mem_take hz))) hcc
            obtain ⟨o3, Ho3⟩ : ∃ x, Hid ((if c = 33 then off else off + 33) = x) := ⟨_, rfl⟩
            have HZB : Hid (zB zs = zs.drop 33) := by
              show _ = _
              unfold zB
              rw [HN.out, if_pos rfl, hyn.out]
            have XB : Hid (Bs w (some ⟨b, o3, none⟩) (n - 33) (zB zs)) := by
              show Bs _ _ _ _
              rw [HZB.out, ← Ho3.out]
              refine ⟨by rw [List.length_drop, hl], fun z hz => HBY.out z (List.mem_of_mem_drop hz), ?_⟩
              by_cases hck : c = 33
              · exact .inl (by omega)
              · rw [if_neg hck]
                refine .inr ⟨b, off + 33, rfl, fun i hi => ?_⟩
                rw [Nat.add_assoc, HCQ.out (33 + i) (by omega)]
                simp only [List.getD, List.getElem?_drop]
            have hck1 : (if c = 33 then off else off + 33) = o3 := Ho3.out
            have HVAL : Hid (∀ a m cc w2, w2.ownsRow w.heap.size 5 1 (.slice a m cc) m (cells (zB zs)) → Wo w.heap.size zs (.returned (.tuple #[.agg #[.int .i64 6, .int .u64 (ah (zS zs)), .int .u64 (alP (zS zs)), .int .i64 6, .int .u64 (ah (zD zs)), .int .u64 (alP (zD zs)), .slice a m cc], .int .i64 0])) w2) := fun a m cc w2 ho => by
              refine ⟨a, m, cc, ?_, ho⟩
              unfold zZ zE
              rw [HN.out, hyn.out]
              rfl
            have haf : af 16 = 6 := rfl
            rw [haf] at k1 k2
            obtain ⟨H, HH⟩ : ∃ H, Hid (ah (zS zs) = H) := ⟨_, rfl⟩
            obtain ⟨L, HL⟩ : ∃ H, Hid (alP (zS zs) = H) := ⟨_, rfl⟩
            obtain ⟨H', HH'⟩ : ∃ H, Hid (ah (zD zs) = H) := ⟨_, rfl⟩
            obtain ⟨L', HL'⟩ : ∃ H, Hid (alP (zD zs) = H) := ⟨_, rfl⟩
            simp only [HH.out, HL.out] at k1 HVAL
            simp only [HH'.out, HL'.out] at k2 HVAL
            have HZY : Hid (∀ z ∈ zB zs, 0 ≤ z ∧ z ≤ 255) := XB.out.2.1
            clear haf hr hr2 ls ld
            go_enter Try.func21, Try.ntmps21
            have HB0 := hid B0
            have HM0 := hid m0
            clear B0 m0
            go_wp2_with fail
            refine (k1 _ (HCS.out _ HB0.out)).mono ?_
            rintro e w1 ⟨rfl, g1⟩
            have m1 := HM0.out.kept g1
            have B1 := bel_bel HB0.out HB0.out.size g1
            clear g1 k1 HB0 HM0 hz0
            have mA := Am.new w1 6 H L
            have MA := hid mA
            have M2 := hid (m1.alloc (.cells #[.int .i64 6, .int .u64 H, .int .u64 L] 43))
            have HB2 := hid (B1.alloc B1.size (.cells #[.int .i64 6, .int .u64 H, .int .u64 L] 43))
            have hw1 := m1.lt
            clear m1 mA B1
            go_wp2_with fail
            refine (k2 _ (HCD.out _ HB2.out)).mono ?_
            rintro e w2 ⟨rfl, g2⟩
            have m2 := M2.out.kept g2
            have mA := MA.out.kept g2
            have B2 := bel_bel HB2.out HB2.out.size g2
            clear g2 k2 HB2 M2 MA
            have mB := Am.new w2 6 H' L'
            have hw2 := mA.lt
            have MB := hid mB
            have BA := (Below.refl w2.heap.size w2).alloc (Nat.le_refl _) (.cells #[.int .i64 6, .int .u64 H', .int .u64 L'] 43)
            have MA := hid (mA.kept BA)
            have M3 := hid (m2.kept BA)
            have HB3 := hid (bel_bel B2 B2.size BA)
            have XB3 := hid (XB.out.below (bel_bel B2 B2.size BA))
            clear m2 mA mB B2 BA
            go_wp2_with fail
            have d0 := MA.out.c0
            have d1 := MA.out.c1
            have d2 := MA.out.c2
            have e0 := MB.out.c0
            have e1 := MB.out.c1
            have e2 := MB.out.c2
            have lA := MA.out.lt
            have lB := MB.out.lt
            have lM := M3.out.lt
            generalize w2.alloc (.cells #[.int .i64 6, .int .u64 H', .int .u64 L'] 43) = w3 at *
            generalize w2.heap.size = qB at *
            generalize w1.heap.size = qA at *
            have nA : ¬ qA = w.heap.size := by omega
            have nA' : ¬ w.heap.size = qA := by omega
            have nB : ¬ qB = w.heap.size := by omega
            have nB' : ¬ w.heap.size = qB := by omega
            by_cases hck : c = 33
            · rw [if_pos hck] at hck1
              subst hck1
              subst hck
              obtain rfl : n = 33 := by omega
              replace XB3 : Hid (Bs w3 (some ⟨b, off, none⟩) 0 (zB zs)) := XB3
              have kby := fun w hbb => refBytes (some ⟨b, off, none⟩) 0 0 (zB zs) w hbb (by omega)
              go_region_held (fun wx => wx.cell? ⟨qA, 0, none⟩ = some (.int .i64 6) ∧ wx.cell? ⟨qA, 1, none⟩ = some (.int .u64 H) ∧ wx.cell? ⟨qA, 2, none⟩ = some (.int .u64 L) ∧ wx.cell? ⟨qB, 0, none⟩ = some (.int .i64 6) ∧ wx.cell? ⟨qB, 1, none⟩ = some (.int .u64 H') ∧ wx.cell? ⟨qB, 2, none⟩ = some (.int .u64 L')) (go_keep) (first | (go_at_call 10; refine (kby _ (by exact XB3.out)).mono ?_; rintro e w6 ⟨v6, rfl, o6, g6⟩; obtain ⟨a6, c6, rfl, _, _⟩ := own_form o6 HZY.out; have m6 := Ym.kept (by exact M3.out) g6; have q0 := m6.c0; have q1 := m6.c1; have q2 := m6.c2; have q3 := m6.c3; have q4 := m6.c4; have q5 := m6.c5; have q6 := m6.c6; have f0 := m6.fz 0; have f1 := m6.fz 1; have f2 := m6.fz 2; have f3 := m6.fz 3; have f4 := m6.fz 4; have f5 := m6.fz 5; have f6 := m6.fz 6; have M6 := hid m6; clear m6; have d0 := (g6.cell (p := ⟨qA, 0, none⟩) lA).trans d0; have d1 := (g6.cell (p := ⟨qA, 1, none⟩) lA).trans d1; have d2 := (g6.cell (p := ⟨qA, 2, none⟩) lA).trans d2; have e0 := (g6.cell (p := ⟨qB, 0, none⟩) lB).trans e0; have e1 := (g6.cell (p := ⟨qB, 1, none⟩) lB).trans e1; have e2 := (g6.cell (p := ⟨qB, 2, none⟩) lB).trans e2))
              have B3 : Below w.heap.size w w3.drew := ⟨HB3.out.os, HB3.out.tape, HB3.out.output, HB3.out.size, HB3.out.block⟩
              have B6 := bel_bel B3 B3.size g6
              have hw5 : w.heap.size < w3.drew.heap.size := lM
              have m7 := M6.out.set7 6 H L 6 H' L' (.slice a6 0 c6)
              have B7 := ((((((B6.setCell (p := ⟨w.heap.size, 0, none⟩) (Nat.le_refl _) (.int .i64 6)).setCell (p := ⟨w.heap.size, 1, none⟩) (Nat.le_refl _) (.int .u64 H)).setCell (p := ⟨w.heap.size, 2, none⟩) (Nat.le_refl _) (.int .u64 L)).setCell (p := ⟨w.heap.size, 3, none⟩) (Nat.le_refl _) (.int .i64 6)).setCell (p := ⟨w.heap.size, 4, none⟩) (Nat.le_refl _) (.int .u64 H')).setCell (p := ⟨w.heap.size, 5, none⟩) (Nat.le_refl _) (.int .u64 L')).setCell (p := ⟨w.heap.size, 6, none⟩) (Nat.le_refl _) (.slice a6 0 c6)
              have hne : ∀ k, (Value.slice a6 0 c6).ownBlock = some k → k ≠ w.heap.size := fun k hk => by
                have := (o6.lt k hk).1
                omega
              have o7 := own_le7 (own_set (own_set (own_set (own_set (own_set (own_set (own_set o6 hne 0 (.int .i64 6)) hne 1 (.int .u64 H)) hne 2 (.int .u64 L)) hne 3 (.int .i64 6)) hne 4 (.int .u64 H')) hne 5 (.int .u64 L')) hne 6 (.slice a6 0 c6)) (Nat.le_of_lt hw5)
              have HO := hid (HVAL.out a6 0 c6 _ o7)
              have M7 := hid m7
              have H7 := hid B7
              clear q0 q1 q2 q3 q4 q5 q6 f0 f1 f2 f3 f4 f5 f6 M6 o6 g6 B3 B6 m7 B7 o7 d0 d1 d2 e0 e1 e2
              go_wp2_with fail
              refine bodyPost_ret (v := .tuple #[.agg #[.int .i64 6, .int .u64 H, .int .u64 L, .int .i64 6, .int .u64 H', .int .u64 L', .slice a6 0 c6], .int .i64 0]) ?_ rfl ⟨HO.out, H7.out⟩
              exact results_y2 rfl _ _ w.heap.size 6 H L 6 H' L' _ _ rfl rfl M7.out
            · rw [if_neg hck] at hck1
              subst hck1
              have hncI : (n : Int) ≤ (c : Int) := by omega
              have hkc : (33 : Int) ≤ (c : Int) := by omega
              have hkn : (33 : Int) ≤ (n : Int) := by omega
              have hk2 : IntKind.i64.wrap 32 = 32 := by decide
              have hk3 : IntKind.i64.wrap 33 = 33 := by decide
              have hk4 : IntKind.i64.wrap (1 + 32) = 33 := by decide
              have kby := fun w hbb => refBytes (some ⟨b, (off + 33), none⟩) (n - 33) (c - 33) (zB zs) w hbb (by omega)
              go_region_held (fun wx => wx.cell? ⟨qA, 0, none⟩ = some (.int .i64 6) ∧ wx.cell? ⟨qA, 1, none⟩ = some (.int .u64 H) ∧ wx.cell? ⟨qA, 2, none⟩ = some (.int .u64 L) ∧ wx.cell? ⟨qB, 0, none⟩ = some (.int .i64 6) ∧ wx.cell? ⟨qB, 1, none⟩ = some (.int .u64 H') ∧ wx.cell? ⟨qB, 2, none⟩ = some (.int .u64 L')) (go_keep) (first | (go_at_call 10; refine (kby _ (by exact XB3.out)).mono ?_; rintro e w6 ⟨v6, rfl, o6, g6⟩; obtain ⟨a6, c6, rfl, _, _⟩ := own_form o6 HZY.out; have m6 := Ym.kept (by exact M3.out) g6; have q0 := m6.c0; have q1 := m6.c1; have q2 := m6.c2; have q3 := m6.c3; have q4 := m6.c4; have q5 := m6.c5; have q6 := m6.c6; have f0 := m6.fz 0; have f1 := m6.fz 1; have f2 := m6.fz 2; have f3 := m6.fz 3; have f4 := m6.fz 4; have f5 := m6.fz 5; have f6 := m6.fz 6; have M6 := hid m6; clear m6; have d0 := (g6.cell (p := ⟨qA, 0, none⟩) lA).trans d0; have d1 := (g6.cell (p := ⟨qA, 1, none⟩) lA).trans d1; have d2 := (g6.cell (p := ⟨qA, 2, none⟩) lA).trans d2; have e0 := (g6.cell (p := ⟨qB, 0, none⟩) lB).trans e0; have e1 := (g6.cell (p := ⟨qB, 1, none⟩) lB).trans e1; have e2 := (g6.cell (p := ⟨qB, 2, none⟩) lB).trans e2))
              have B3 : Below w.heap.size w w3.drew := ⟨HB3.out.os, HB3.out.tape, HB3.out.output, HB3.out.size, HB3.out.block⟩
              have B6 := bel_bel B3 B3.size g6
              have hw5 : w.heap.size < w3.drew.heap.size := lM
              have m7 := M6.out.set7 6 H L 6 H' L' (.slice a6 (n - 33) c6)
              have B7 := ((((((B6.setCell (p := ⟨w.heap.size, 0, none⟩) (Nat.le_refl _) (.int .i64 6)).setCell (p := ⟨w.heap.size, 1, none⟩) (Nat.le_refl _) (.int .u64 H)).setCell (p := ⟨w.heap.size, 2, none⟩) (Nat.le_refl _) (.int .u64 L)).setCell (p := ⟨w.heap.size, 3, none⟩) (Nat.le_refl _) (.int .i64 6)).setCell (p := ⟨w.heap.size, 4, none⟩) (Nat.le_refl _) (.int .u64 H')).setCell (p := ⟨w.heap.size, 5, none⟩) (Nat.le_refl _) (.int .u64 L')).setCell (p := ⟨w.heap.size, 6, none⟩) (Nat.le_refl _) (.slice a6 (n - 33) c6)
              have hne : ∀ k, (Value.slice a6 (n - 33) c6).ownBlock = some k → k ≠ w.heap.size := fun k hk => by
                have := (o6.lt k hk).1
                omega
              have o7 := own_le7 (own_set (own_set (own_set (own_set (own_set (own_set (own_set o6 hne 0 (.int .i64 6)) hne 1 (.int .u64 H)) hne 2 (.int .u64 L)) hne 3 (.int .i64 6)) hne 4 (.int .u64 H')) hne 5 (.int .u64 L')) hne 6 (.slice a6 (n - 33) c6)) (Nat.le_of_lt hw5)
              have HO := hid (HVAL.out a6 (n - 33) c6 _ o7)
              have M7 := hid m7
              have H7 := hid B7
              clear q0 q1 q2 q3 q4 q5 q6 f0 f1 f2 f3 f4 f5 f6 M6 o6 g6 B3 B6 m7 B7 o7 d0 d1 d2 e0 e1 e2
              go_wp2_with fail
              refine bodyPost_ret (v := .tuple #[.agg #[.int .i64 6, .int .u64 H, .int .u64 L, .int .i64 6, .int .u64 H', .int .u64 L', .slice a6 (n - 33) c6], .int .i64 0]) ?_ rfl ⟨HO.out, H7.out⟩
              exact results_y2 rfl _ _ w.heap.size 6 H L 6 H' L' _ _ rfl rfl M7.out
      · rw [if_neg h4, if_neg h6] at hyn
        have e4 : (f == 4) = false := by simpa using h4
        have e6 : (f == 6) = false := by simpa using h6
        clear h4 h6
        go_enter Try.func21, Try.ntmps21
        go_wp2_with (with_reducible show wpList _ _ _ (_ :: _) _ _; refine wpList_sy rfl rfl _ _ rfl w.heap.size 0 0 0 0 0 0 none 0 0 rfl rfl 0 0 0 0 0 0 (.slice none 0 0) (by with_reducible exact m0) ?_)
        refine bodyPost_ret (v := .tuple #[.agg #[.int .i64 0, .int .u64 0, .int .u64 0, .int .i64 0, .int .u64 0, .int .u64 0, .slice none 0 0], .int .i64 90]) ?_ rfl ⟨HBAD.out _ (.inl hyn.out), bel_row B0 (Nat.le_refl _) _⟩
        exact results_y2 rfl _ _ w.heap.size 0 0 0 0 0 0 _ _ rfl rfl (m0.row 0 0 0 0 0 0 _)
end Go.Proofs.Ytnjfckijpbgagaa
