import Derived.Test.YtcbmgpmjnehjdaaGreatQ2
import Derived.Test.YtcbmgpmjnehjdaaGreatP8
namespace Go.Proofs.YtcbmgpmjnehjdaaGreat
set_option maxRecDepth 100000
open Go.RowKit
set_option linter.unusedVariables false

theorem bh_in {F B : Int} (hB : 0 ≤ B ∧ B ≤ 200) : -1000 ≤ bh F B - 64 ∧ bh F B - 64 ≤ 1000 ∧ -1000 ≤ bh F B ∧ bh F B ≤ 1000 := by
  unfold bh
  split <;> omega
theorem Am.set1 {w : World} {g : Nat} {F H L : Int} (h : Am w g F H L) (x : Int) : Am (w.setCell ⟨g, 1, none⟩ (.int .u64 x)) g F x L := by
  unfold Am at *; simp [World.setCell, Array.getElem?_modify, h]
theorem Am.set2 {w : World} {g : Nat} {F H L : Int} (h : Am w g F H L) (x : Int) : Am (w.setCell ⟨g, 2, none⟩ (.int .u64 x)) g F H x := by
  unfold Am at *; simp [World.setCell, Array.getElem?_modify, h]
theorem Pm.fz {w : World} {g : Nat} {F H L B : Int} (h : Pm w g F H L B) (i : Nat) : w.frozen? ⟨g, i, none⟩ = false := by unfold Pm at h; simp [World.frozen?, h]
theorem Pm.other {w : World} {g g' : Nat} {F H L B : Int} (h : Pm w g F H L B) (hn : g ≠ g') (i : Nat) (v : Value) : Pm (w.setCell ⟨g', i, none⟩ v) g F H L B := h.at (Below.heap_setCell _ _ _ _ hn)
set_option maxHeartbeats 1000000 in
theorem begin_ (F H L B : Int) (w : World) (hF : InI F) (hH : InU H) (hL : InU L) (hB : 0 ≤ B ∧ B ≤ 200) :
    Calls Tryz.prog 164 #[.agg #[.int .i64 F, .int .u64 H, .int .u64 L], .int .i64 B] w fun e w' => e = .returned (.agg #[.int .i64 F, .int .u64 (bH F H B), .int .u64 (bL F L B), .int .i64 B]) ∧ Below w.heap.size w w' := by
  have B0 := anew w F H L
  have m0 := Am.new w F H L
  obtain ⟨b1, b2, b3, b4⟩ := bh_in (F := F) hB
  have k1 := fun w => width_ F w
  have k2 := fun w => clearLow_ H (bh F B - 64) w hH ⟨b1, b2⟩
  have k3 := fun w => clearLow_ L (bh F B) w hL ⟨b3, b4⟩
  have HX : Hid (bH F H B = cl H (bh F B - 64).toNat) := rfl
  have HY : Hid (bL F L B = cl L (bh F B).toNat) := rfl
  have hw : (if F = 4 then 32 else 128) - B = bh F B := rfl
  have hww : (0 : Int) ≤ (if F = 4 then 32 else 128) ∧ (if F = 4 then 32 else 128) ≤ (128 : Int) := by split <;> omega
  obtain ⟨W, Hw⟩ : ∃ W : Int, Hid ((if F = 4 then 32 else 128) = W) := ⟨_, rfl⟩
  rw [Hw.out] at hw hww k1
  rw [← HX.out] at k2
  rw [← HY.out] at k3
  generalize bH F H B = X at *
  generalize bL F L B = Y at *
  generalize bh F B = D at *
  clear HX HY
  go_enter Tryz.func164, Tryz.ntmps164
  have c0 := m0.c0
  go_wp2_with fail
  clear c0
  refine (k1 _).mono ?_
  rintro e w1 ⟨rfl, rfl⟩
  have c1 := m0.c1
  go_wp2_with fail
  clear c1
  refine (k2 _).mono ?_
  rintro e w1 ⟨rfl, rfl⟩
  have m1 : Pm ((w.alloc (.cells #[.int .i64 F, .int .u64 H, .int .u64 L] 119)).alloc (.cells #[.int .i64 0, .int .u64 0, .int .u64 0, .int .i64 0] 121)) (w.heap.size + 1) 0 0 0 0 := by
    have := Pm.new (w.alloc (.cells #[.int .i64 F, .int .u64 H, .int .u64 L] 119)) 0 0 0 0
    simpa using this
  replace m0 := m0.alloc (.cells #[.int .i64 0, .int .u64 0, .int .u64 0, .int .i64 0] 121)
  replace B0 := B0.alloc (by simp) (.cells #[.int .i64 0, .int .u64 0, .int .u64 0, .int .i64 0] 121)
  generalize (w.alloc (.cells #[.int .i64 F, .int .u64 H, .int .u64 L] 119)).alloc (.cells #[.int .i64 0, .int .u64 0, .int .u64 0, .int .i64 0] 121) = w1 at *
  have c1 := m0.c1
  have f1 := m0.fz 1
  have f2 := (m0.set1 X).fz 2
  have c2 := (m0.set1 X).c2
  go_wp2_with fail
  clear c1 c2
  refine (k3 _).mono ?_
  rintro e w2 ⟨rfl, rfl⟩
  replace m0 := m0.set1 X
  have c2 := m0.c2
  replace m1 := ((m1.other (g' := w.heap.size) (by omega) 1 (.int .u64 X)).other (g' := w.heap.size) (by omega) 2 (.int .u64 Y) : Pm _ (w.heap.size + 1) 0 0 0 0)
  have m2 := m0.set2 Y
  have d0 := m2.c0
  have d1 := m2.c1
  have d2 := m2.c2
  replace B0 := (B0.setCell (p := ⟨w.heap.size, 1, none⟩) (Nat.le_refl _) (.int .u64 X)).setCell (p := ⟨w.heap.size, 2, none⟩) (Nat.le_refl _) (.int .u64 Y)
  go_wp2_with (refine wpList_spx rfl rfl _ _ rfl (w.heap.size + 1) F X Y B rfl rfl _ _ _ _ m1 ?_)
  refine bodyPost_ret (v := .agg #[.int .i64 F, .int .u64 X, .int .u64 Y, .int .i64 B]) ?_ rfl ⟨rfl, bel_row B0 (by omega) _⟩
  exact results_cell_row rfl _ _ (w.heap.size + 1) 121 _ (0, 0) _ rfl (m1.row _ _ _ _) Tryz.underlying121 rfl sizep
/-- What a region with loads of a prefix's parts holds to. -/
def SP (g : Nat) (F H L B : Int) (w0 w : World) : Prop := (w.cell? ⟨g, 0, none⟩ = some (.int .i64 F) ∧ w.cell? ⟨g, 1, none⟩ = some (.int .u64 H) ∧ w.cell? ⟨g, 2, none⟩ = some (.int .u64 L) ∧ w.cell? ⟨g, 3, none⟩ = some (.int .i64 B)) ∧ Pm w g F H L B ∧ Below w0.heap.size w0 w
theorem SP.of {g : Nat} {F H L B : Int} {w0 w : World} (h : Pm w g F H L B) (hb : Below w0.heap.size w0 w) : SP g F H L B w0 w := ⟨⟨h.c0, h.c1, h.c2, h.c3⟩, h, hb⟩
theorem SP.kept {g : Nat} {F H L B : Int} {w0 w w' : World} (h : SP g F H L B w0 w) (hb : Below w.heap.size w w') : SP g F H L B w0 w' := SP.of (h.2.1.kept hb) (bel_bel h.2.2 h.2.2.size hb)
theorem SP.drew {g : Nat} {F H L B : Int} {w0 w : World} (h : SP g F H L B w0 w) : SP g F H L B w0 { w with drawn := w.drawn + 1 } := h.kept ⟨rfl, rfl, rfl, Nat.le_refl _, fun _ _ => rfl⟩
set_option maxHeartbeats 4000000 in
theorem pvalid_ (F H L B : Int) (w : World) (hF : InI F) (hH : InU H) (hL : InU L) (hB : InI B) :
    Calls Tryz.prog 135 #[.agg #[.int .i64 F, .int .u64 H, .int .u64 L, .int .i64 B]] w fun e w' => e = .returned (.bool (vp F H L B)) ∧ Below w.heap.size w w' := by
  have s0 := SP.of (Pm.new w F H L B) (pnew w F H L B)
  have k1 := fun w => validAddr_ F H L w hF hH hL
  have k2 := fun w => width_ F w
  cases hv : va F H L with
  | false =>
    have HE := hid (va_out hv B)
    rw [hv] at k1
    clear hv
    go_enter Tryz.func135, Tryz.ntmps135
    go_wp2_with fail
    refine wp_region_quiet (C := SP w.heap.size F H L B w) (by kernel_rfl) (by kernel_rfl) s0.drew ?_
    repeat
      refine wpQuiet_step (fun K hK => ?_)
      go_simp
      first
        | (refine hK _ ?_; clear hK K)
        | (apply Exists.intro
           refine ⟨fun wq hq => ?_, hK _ ?_⟩
           · first
             | rfl
             | (obtain ⟨⟨q0, q1, q2, q3⟩, _, _⟩ := hq; go_simp; rfl)
             | (go_at_call 162; exact (k1 _).mono fun _ _ h => ⟨h.1, hq.kept h.2⟩)
           clear hK K)
    refine wpQuiet_nil ?_
    intro w1 s1
    go_wp2_with fail
    go_ret
    exact ⟨ret_bool HE.out.symm, s1.2.2⟩
  | true =>
    have HVN : Hid (¬ (0 ≤ B ∧ B ≤ nb F) → vp F H L B = false) := fun h => by
      unfold vp
      rw [decide_eq_false (fun h' => h ⟨h'.1, h'.2.1⟩), Bool.and_false]
    have HVP := hid (fun h => vp_begin hv hH hL (B := B) h)
    have hnb := nb_va hv
    have hn128 := nb_le F
    rw [← hnb] at k2
    rw [hv] at k1
    generalize nb F = n at *
    clear hnb hv
    by_cases hneg : 0 ≤ B
    · by_cases hbig : B ≤ n
      · have HV := hid (HVP.out ⟨hneg, hbig⟩)
        have k3 := fun w => begin_ F H L B w hF hH hL (by omega)
        have he := fun w => eqp F (bH F H B) (bL F L B) B F H L B w
        have HS : Hid (spx F (bH F H B) (bL F L B) B F H L B = decide (bH F H B = H ∧ bL F L B = L)) := by
          show _ = _
          unfold spx
          exact decide_eq_decide.2 ⟨fun h => h.1.2, fun h => ⟨⟨rfl, h⟩, rfl⟩⟩
        generalize bH F H B = X at *
        generalize bL F L B = Y at *
        clear HVN HVP hB
        go_enter Tryz.func135, Tryz.ntmps135
        go_wp2_with fail
        refine wp_region_quiet (C := SP w.heap.size F H L B w) (by kernel_rfl) (by kernel_rfl) s0.drew ?_
        repeat
          refine wpQuiet_step (fun K hK => ?_)
          go_simp
          first
            | (refine hK _ ?_; clear hK K)
            | (apply Exists.intro
               refine ⟨fun wq hq => ?_, hK _ ?_⟩
               · first
                 | rfl
                 | (go_at_call 162; exact (k1 _).mono fun _ _ h => ⟨h.1, hq.kept h.2⟩)
                 | (go_at_call 163; exact (k2 _).mono fun _ _ h => ⟨h.1, by rw [h.2]; exact hq⟩)
                 | (go_at_call 164; exact (k3 _).mono fun _ _ h => ⟨h.1, hq.kept h.2⟩)
                 | (obtain ⟨⟨q0, q1, q2, q3⟩, _, _⟩ := hq; go_simp; rfl)
               clear hK K)
        refine wpQuiet_nil ?_
        intro w1 s1
        go_wp2_with fail
        go_ret
        exact ⟨ret_bool (HS.out.trans HV.out.symm), s1.2.2⟩
      · have HE := hid (HVN.out (by omega))
        have d2 : decide (B ≤ (n : Int)) = false := decide_eq_false hbig
        clear HVN HVP hB hbig
        go_enter Tryz.func135, Tryz.ntmps135
        go_wp2_with fail
        refine wp_region_quiet (C := SP w.heap.size F H L B w) (by kernel_rfl) (by kernel_rfl) s0.drew ?_
        repeat
          refine wpQuiet_step (fun K hK => ?_)
          go_simp
          first
            | (refine hK _ ?_; clear hK K)
            | (apply Exists.intro
               refine ⟨fun wq hq => ?_, hK _ ?_⟩
               · first
                 | rfl
                 | (go_at_call 162; exact (k1 _).mono fun _ _ h => ⟨h.1, hq.kept h.2⟩)
                 | (go_at_call 163; exact (k2 _).mono fun _ _ h => ⟨h.1, by rw [h.2]; exact hq⟩)
                 | (obtain ⟨⟨q0, q1, q2, q3⟩, _, _⟩ := hq; go_simp; rfl)
               clear hK K)
        refine wpQuiet_nil ?_
        intro w1 s1
        go_wp2_with fail
        go_ret
        exact ⟨ret_bool HE.out.symm, s1.2.2⟩
    · have HE := hid (HVN.out (by omega))
      have d2 : decide (0 ≤ B) = false := decide_eq_false hneg
      clear HVN HVP hB hneg
      go_enter Tryz.func135, Tryz.ntmps135
      go_wp2_with fail
      refine wp_region_quiet (C := SP w.heap.size F H L B w) (by kernel_rfl) (by kernel_rfl) s0.drew ?_
      repeat
        refine wpQuiet_step (fun K hK => ?_)
        go_simp
        first
          | (refine hK _ ?_; clear hK K)
          | (apply Exists.intro
             refine ⟨fun wq hq => ?_, hK _ ?_⟩
             · first
               | rfl
               | (go_at_call 162; exact (k1 _).mono fun _ _ h => ⟨h.1, hq.kept h.2⟩)
               | (obtain ⟨⟨q0, q1, q2, q3⟩, _, _⟩ := hq; go_simp; rfl)
             clear hK K)
      refine wpQuiet_nil ?_
      intro w1 s1
      go_wp2_with fail
      go_ret
      exact ⟨ret_bool HE.out.symm, s1.2.2⟩
end Go.Proofs.YtcbmgpmjnehjdaaGreat
