import Derived.Test.YtkeogggeefnoeaaGreatDoorQ1
import Derived.Laws.StructEq
import Derived.Test.YtkeogggeefnoeaaGreatDoorPA
import Derived.Test.YtkeogggeefnoeaaGreatDoorP3
import Derived.Laws.CopyOwn
import Derived.Below
import Derived.WalkKit
import Derived.WalkSpells
import Derived.WalkLawsBesides
namespace Go.Proofs.YtkeogggeefnoeaaGreatDoor
set_option linter.unusedSimpArgs false
set_option maxRecDepth 100000
open Go.RowKit
set_option linter.unusedVariables false

theorem eqa (F H L F' H' L' : Int) (w : World) : (Op.equalIn 9999 66 (.agg #[.int .i64 F, .int .u64 H, .int .u64 L]) (.agg #[.int .i64 F', .int .u64 H', .int .u64 L'])).run Tryz.prog w = .ok (sa F H L F' H' L') w := by
  rw [show (9999 : Nat) = 9998 + 1 from rfl, run_equalIn_agg w 9998 66 _ _ (by kernel_rfl) (by kernel_rfl)]
  simp only [Program.fieldsOf, Tryz.underlying66]
  go_simp
  unfold sa
  by_cases h1 : F = F' <;> by_cases h2 : H = H' <;> by_cases h3 : L = L' <;> simp [h1, h2, h3]
theorem eqp (F H L B F' H' L' B' : Int) (w : World) : (binOp .eql 68 (.agg #[.int .i64 F, .int .u64 H, .int .u64 L, .int .i64 B]) (.agg #[.int .i64 F', .int .u64 H', .int .u64 L', .int .i64 B'])).run Tryz.prog w = .ok (.bool (spx F H L B F' H' L' B')) w := by
  have ea := fun w => eqa F H L F' H' L' w
  have HS : spx F H L B F' H' L' B' = (sa F H L F' H' L' && (B == B')) := by unfold spx sa; rw [Bool.decide_and, Bool.beq_eq_decide_eq]
  rw [run_eql_struct, show (10000 : Nat) = 9999 + 1 from rfl, run_equalIn_agg w 9999 68 _ _ (by kernel_rfl) (by kernel_rfl), HS]
  simp only [Program.fieldsOf, Tryz.underlying68]
  clear HS
  generalize sa F H L F' H' L' = q at *
  cases q
  · go_simp
  · go_simp
    by_cases h : B = B' <;> simp [h]
set_option maxHeartbeats 400000 in
theorem validAddr_ (F H L : Int) (w : World) (hF : InI F) (hH : InU H) (hL : InU L) :
    Calls Tryz.prog 145 #[.agg #[.int .i64 F, .int .u64 H, .int .u64 L]] w fun e w' => e = .returned (.bool (va F H L)) ∧ Below w.heap.size w w' := by
  have B0 := anew w F H L
  unfold InU at hL hH
  by_cases h4 : F = 4
  · subst h4
    go_enter Tryz.func145, Tryz.ntmps145
    go_wp2_with fail
    all_goals
      go_ret
      refine ⟨ret_bool ?_, anew w _ _ _⟩
      unfold va
      first
        | (rw [Bool.beq_eq_decide_eq]; refine decide_eq_decide.2 ?_; simp_all; omega)
        | (refine (decide_eq_false ?_).symm; simp_all; done)
        | (refine (decide_eq_false ?_).symm; simp_all; omega)
  · have e4 : (F == 4) = false := by simpa using h4
    by_cases h6 : F = 6
    · subst h6
      go_enter Tryz.func145, Tryz.ntmps145
      go_wp2_with fail
      go_ret
      exact ⟨ret_bool (decide_eq_true (.inl rfl)).symm, B0⟩
    · have e6 : (F == 6) = false := by simpa using h6
      go_enter Tryz.func145, Tryz.ntmps145
      go_wp2_with fail
      go_ret
      exact ⟨ret_bool (decide_eq_false (by omega)).symm, B0⟩
set_option maxHeartbeats 400000 in
theorem width_ (F : Int) (w : World) : Calls Tryz.prog 146 #[.int .i64 F] w fun e w' => e = .returned (.int .i64 (if F = 4 then 32 else 128)) ∧ w' = w := by
  by_cases h4 : F = 4
  · subst h4
    go_enter Tryz.func146, Tryz.ntmps146
    go_wp2_with fail
    go_ret
    exact ⟨rfl, rfl⟩
  · have e4 : (F == 4) = false := by simpa using h4
    rw [if_neg h4]
    go_enter Tryz.func146, Tryz.ntmps146
    go_wp2_with fail
    go_ret
    exact ⟨rfl, rfl⟩
set_option maxHeartbeats 400000 in
theorem clearLow_ (x n : Int) (w : World) (hx : InU x) (hn : -1000 ≤ n ∧ n ≤ 1000) : Calls Tryz.prog 151 #[.int .u64 x, .int .i64 n] w fun e w' => e = .returned (.int .u64 (cl x n.toNat)) ∧ w' = w := by
  have hI := hid (cl_in hx n.toNat)
  have HB := hid (fun h => cl_big (k := n.toNat) hx h)
  have HD : Hid (x / 2 ^ n.toNat * 2 ^ n.toNat = cl x n.toNat) := rfl
  unfold InU at hx
  by_cases h0 : n < 0
  · have e : n.toNat = 0 := by omega
    have hm : max n 0 = 0 := by omega
    rw [e, cl_zero]
    go_enter Tryz.func151, Tryz.ntmps151
    go_wp2_with fail
    all_goals
      go_ret
      exact ⟨rfl, rfl⟩
  · obtain ⟨k, rfl⟩ : ∃ k : Nat, n = k := ⟨n.toNat, by omega⟩
    rw [Int.toNat_natCast] at *
    have hm : max (k : Int) 0 = (k : Int) := by omega
    have hI2 := hI.out
    unfold InU at hI2
    by_cases h64 : k < 64
    · have hd := HD.out
      go_enter Tryz.func151, Tryz.ntmps151
      go_wp2_with fail
      all_goals
        go_ret
        exact ⟨rfl, rfl⟩
    · have hb := HB.out (by omega)
      rw [hb]
      go_enter Tryz.func151, Tryz.ntmps151
      go_wp2_with fail
      all_goals
        go_ret
        refine ⟨?_, rfl⟩
        show Ending.returned (.int .u64 (IntKind.u64.wrap (x / 2 ^ min k 64 * 2 ^ min k 64))) = _
        rw [show min k 64 = 64 from by omega, Int.ediv_eq_zero_of_lt hx.1 (show x < 2 ^ 64 from Int.lt_of_le_of_lt hx.2 (by decide)), Int.zero_mul]
        rfl
end Go.Proofs.YtkeogggeefnoeaaGreatDoor
namespace Go.Proofs.YtkeogggeefnoeaaGreatDoor
set_option linter.unusedSimpArgs false
set_option maxRecDepth 100000
open Go.RowKit
set_option linter.unusedVariables false

theorem bh_in {F B : Int} (hB : 0 ≤ B ∧ B ≤ 200) : -1000 ≤ bh F B - 64 ∧ bh F B - 64 ≤ 1000 ∧ -1000 ≤ bh F B ∧ bh F B ≤ 1000 := by
  unfold bh
  split <;> omega
theorem Am.set1 {w : World} {g : Nat} {F H L : Int} (h : Am w g F H L) (x : Int) : Am (w.setCell ⟨g, 1, none⟩ (.int .u64 x)) g F x L := by
  unfold Am at *; simp [World.setCell, Array.getElem?_modify, h]
theorem Am.set2 {w : World} {g : Nat} {F H L : Int} (h : Am w g F H L) (x : Int) : Am (w.setCell ⟨g, 2, none⟩ (.int .u64 x)) g F H x := by
  unfold Am at *; simp [World.setCell, Array.getElem?_modify, h]
theorem Pm.fz {w : World} {g : Nat} {F H L B : Int} (h : Pm w g F H L B) (i : Nat) : w.frozen? ⟨g, i, none⟩ = false := by unfold Pm at h; simp [World.frozen?, h]
theorem Pm.other {w : World} {g g' : Nat} {F H L B : Int} (h : Pm w g F H L B) (hn : g ≠ g') (i : Nat) (v : Value) : Pm (w.setCell ⟨g', i, none⟩ v) g F H L B := h.at (Below.heap_setCell _ _ _ _ hn)
set_option maxHeartbeats 1000000 in
theorem begin_ (F H L B : Int) (w : World) (hF : InI F) (hH : InU H) (hL : InU L) (hB : 0 ≤ B ∧ B ≤ 200) :
    Calls Tryz.prog 147 #[.agg #[.int .i64 F, .int .u64 H, .int .u64 L], .int .i64 B] w fun e w' => e = .returned (.agg #[.int .i64 F, .int .u64 (bH F H B), .int .u64 (bL F L B), .int .i64 B]) ∧ Below w.heap.size w w' := by
  have B0 := anew w F H L
  have m0 := Am.new w F H L
  obtain ⟨b1, b2, b3, b4⟩ := bh_in (F := F) hB
  have k1 := fun w => width_ F w
  have k2 := fun w => clearLow_ H (bh F B - 64) w hH ⟨b1, b2⟩
  have k3 := fun w => clearLow_ L (bh F B) w hL ⟨b3, b4⟩
  have HX : Hid (bH F H B = cl H (bh F B - 64).toNat) := rfl
  have HY : Hid (bL F L B = cl L (bh F B).toNat) := rfl
  have hw : (if F = 4 then 32 else 128) - B = bh F B := rfl
  have hww : (0 : Int) ≤ (if F = 4 then 32 else 128) ∧ (if F = 4 then 32 else 128) ≤ (128 : Int) := by split <;> omega
  obtain ⟨W, Hw⟩ : ∃ W : Int, Hid ((if F = 4 then 32 else 128) = W) := ⟨_, rfl⟩
  rw [Hw.out] at hw hww k1
  rw [← HX.out] at k2
  rw [← HY.out] at k3
  generalize bH F H B = X at *
  generalize bL F L B = Y at *
  generalize bh F B = D at *
  clear HX HY
  go_enter Tryz.func147, Tryz.ntmps147
  have c0 := m0.c0
  go_wp2_with fail
  clear c0
  refine (k1 _).mono ?_
  rintro e w1 ⟨rfl, rfl⟩
  have c1 := m0.c1
  go_wp2_with fail
  clear c1
  refine (k2 _).mono ?_
  rintro e w1 ⟨rfl, rfl⟩
  have m1 : Pm ((w.alloc (.cells #[.int .i64 F, .int .u64 H, .int .u64 L] 66)).alloc (.cells #[.int .i64 0, .int .u64 0, .int .u64 0, .int .i64 0] 68)) (w.heap.size + 1) 0 0 0 0 := by
    have := Pm.new (w.alloc (.cells #[.int .i64 F, .int .u64 H, .int .u64 L] 66)) 0 0 0 0
    simpa using this
  replace m0 := m0.alloc (.cells #[.int .i64 0, .int .u64 0, .int .u64 0, .int .i64 0] 68)
  replace B0 := B0.alloc (by simp) (.cells #[.int .i64 0, .int .u64 0, .int .u64 0, .int .i64 0] 68)
  generalize (w.alloc (.cells #[.int .i64 F, .int .u64 H, .int .u64 L] 66)).alloc (.cells #[.int .i64 0, .int .u64 0, .int .u64 0, .int .i64 0] 68) = w1 at *
  have c1 := m0.c1
  have f1 := m0.fz 1
  have f2 := (m0.set1 X).fz 2
  have c2 := (m0.set1 X).c2
  go_wp2_with fail
  clear c1 c2
  refine (k3 _).mono ?_
  rintro e w2 ⟨rfl, rfl⟩
  replace m0 := m0.set1 X
  have c2 := m0.c2
  replace m1 := ((m1.other (g' := w.heap.size) (by omega) 1 (.int .u64 X)).other (g' := w.heap.size) (by omega) 2 (.int .u64 Y) : Pm _ (w.heap.size + 1) 0 0 0 0)
  have m2 := m0.set2 Y
  have d0 := m2.c0
  have d1 := m2.c1
  have d2 := m2.c2
  replace B0 := (B0.setCell (p := ⟨w.heap.size, 1, none⟩) (Nat.le_refl _) (.int .u64 X)).setCell (p := ⟨w.heap.size, 2, none⟩) (Nat.le_refl _) (.int .u64 Y)
  go_wp2_with (refine wpList_spx rfl rfl _ _ rfl (w.heap.size + 1) F X Y B rfl rfl _ _ _ _ m1 ?_)
  refine bodyPost_ret (v := .agg #[.int .i64 F, .int .u64 X, .int .u64 Y, .int .i64 B]) ?_ rfl ⟨rfl, bel_row B0 (by omega) _⟩
  exact results_cell_row rfl _ _ (w.heap.size + 1) 68 _ (0, 0) _ rfl (m1.row _ _ _ _) Tryz.underlying68 rfl sizep
/-- What a region with loads of a prefix's parts holds to. -/
def SP (g : Nat) (F H L B : Int) (w0 w : World) : Prop := (w.cell? ⟨g, 0, none⟩ = some (.int .i64 F) ∧ w.cell? ⟨g, 1, none⟩ = some (.int .u64 H) ∧ w.cell? ⟨g, 2, none⟩ = some (.int .u64 L) ∧ w.cell? ⟨g, 3, none⟩ = some (.int .i64 B)) ∧ Pm w g F H L B ∧ Below w0.heap.size w0 w
theorem SP.of {g : Nat} {F H L B : Int} {w0 w : World} (h : Pm w g F H L B) (hb : Below w0.heap.size w0 w) : SP g F H L B w0 w := ⟨⟨h.c0, h.c1, h.c2, h.c3⟩, h, hb⟩
theorem SP.kept {g : Nat} {F H L B : Int} {w0 w w' : World} (h : SP g F H L B w0 w) (hb : Below w.heap.size w w') : SP g F H L B w0 w' := SP.of (h.2.1.kept hb) (bel_bel h.2.2 h.2.2.size hb)
theorem SP.drew {g : Nat} {F H L B : Int} {w0 w : World} (h : SP g F H L B w0 w) : SP g F H L B w0 { w with drawn := w.drawn + 1 } := h.kept ⟨rfl, rfl, rfl, Nat.le_refl _, fun _ _ => rfl⟩
set_option maxHeartbeats 4000000 in
theorem valid_ (F H L B : Int) (w : World) (hF : InI F) (hH : InU H) (hL : InU L) (hB : InI B) :
    Calls Tryz.prog 140 #[.agg #[.int .i64 F, .int .u64 H, .int .u64 L, .int .i64 B]] w fun e w' => e = .returned (.bool (vp F H L B)) ∧ Below w.heap.size w w' := by
  have s0 := SP.of (Pm.new w F H L B) (pnew w F H L B)
  have k1 := fun w => validAddr_ F H L w hF hH hL
  have k2 := fun w => width_ F w
  cases hv : va F H L with
  | false =>
    have HE := hid (va_out hv B)
    rw [hv] at k1
    clear hv
    go_enter Tryz.func140, Tryz.ntmps140
    go_wp2_with fail
    refine wp_region_quiet (C := SP w.heap.size F H L B w) (by kernel_rfl) (by kernel_rfl) s0.drew ?_
    repeat
      refine wpQuiet_step (fun K hK => ?_)
      go_simp
      first
        | (refine hK _ ?_; clear hK K)
        | (apply Exists.intro
           refine ⟨fun wq hq => ?_, hK _ ?_⟩
           · first
             | rfl
             | (obtain ⟨⟨q0, q1, q2, q3⟩, _, _⟩ := hq; go_simp; rfl)
             | (go_at_call 145; exact (k1 _).mono fun _ _ h => ⟨h.1, hq.kept h.2⟩)
           clear hK K)
    refine wpQuiet_nil ?_
    intro w1 s1
    go_wp2_with fail
    go_ret
    exact ⟨ret_bool HE.out.symm, s1.2.2⟩
  | true =>
    have HVN : Hid (¬ (0 ≤ B ∧ B ≤ nb F) → vp F H L B = false) := fun h => by
      unfold vp
      rw [decide_eq_false (fun h' => h ⟨h'.1, h'.2.1⟩), Bool.and_false]
    have HVP := hid (fun h => vp_begin hv hH hL (B := B) h)
    have hnb := nb_va hv
    have hn128 := nb_le F
    rw [← hnb] at k2
    rw [hv] at k1
    generalize nb F = n at *
    clear hnb hv
    by_cases hneg : 0 ≤ B
    · by_cases hbig : B ≤ n
      · have HV := hid (HVP.out ⟨hneg, hbig⟩)
        have k3 := fun w => begin_ F H L B w hF hH hL (by omega)
        have he := fun w => eqp F (bH F H B) (bL F L B) B F H L B w
        have HS : Hid (spx F (bH F H B) (bL F L B) B F H L B = decide (bH F H B = H ∧ bL F L B = L)) := by
          show _ = _
          unfold spx
          exact decide_eq_decide.2 ⟨fun h => h.1.2, fun h => ⟨⟨rfl, h⟩, rfl⟩⟩
        generalize bH F H B = X at *
        generalize bL F L B = Y at *
        clear HVN HVP hB
        go_enter Tryz.func140, Tryz.ntmps140
        go_wp2_with fail
        refine wp_region_quiet (C := SP w.heap.size F H L B w) (by kernel_rfl) (by kernel_rfl) s0.drew ?_
        repeat
          refine wpQuiet_step (fun K hK => ?_)
          go_simp
          first
            | (refine hK _ ?_; clear hK K)
            | (apply Exists.intro
               refine ⟨fun wq hq => ?_, hK _ ?_⟩
               · first
                 | rfl
                 | (go_at_call 145; exact (k1 _).mono fun _ _ h => ⟨h.1, hq.kept h.2⟩)
                 | (go_at_call 146; exact (k2 _).mono fun _ _ h => ⟨h.1, by rw [h.2]; exact hq⟩)
                 | (go_at_call 147; exact (k3 _).mono fun _ _ h => ⟨h.1, hq.kept h.2⟩)
                 | (obtain ⟨⟨q0, q1, q2, q3⟩, _, _⟩ := hq; go_simp; rfl)
               clear hK K)
        refine wpQuiet_nil ?_
        intro w1 s1
        go_wp2_with fail
        go_ret
        exact ⟨ret_bool (HS.out.trans HV.out.symm), s1.2.2⟩
      · have HE := hid (HVN.out (by omega))
        have d2 : decide (B ≤ (n : Int)) = false := decide_eq_false hbig
        clear HVN HVP hB hbig
        go_enter Tryz.func140, Tryz.ntmps140
        go_wp2_with fail
        refine wp_region_quiet (C := SP w.heap.size F H L B w) (by kernel_rfl) (by kernel_rfl) s0.drew ?_
        repeat
          refine wpQuiet_step (fun K hK => ?_)
          go_simp
          first
            | (refine hK _ ?_; clear hK K)
            | (apply Exists.intro
               refine ⟨fun wq hq => ?_, hK _ ?_⟩
               · first
                 | rfl
                 | (go_at_call 145; exact (k1 _).mono fun _ _ h => ⟨h.1, hq.kept h.2⟩)
                 | (go_at_call 146; exact (k2 _).mono fun _ _ h => ⟨h.1, by rw [h.2]; exact hq⟩)
                 | (obtain ⟨⟨q0, q1, q2, q3⟩, _, _⟩ := hq; go_simp; rfl)
               clear hK K)
        refine wpQuiet_nil ?_
        intro w1 s1
        go_wp2_with fail
        go_ret
        exact ⟨ret_bool HE.out.symm, s1.2.2⟩
    · have HE := hid (HVN.out (by omega))
      have d2 : decide (0 ≤ B) = false := decide_eq_false hneg
      clear HVN HVP hB hneg
      go_enter Tryz.func140, Tryz.ntmps140
      go_wp2_with fail
      refine wp_region_quiet (C := SP w.heap.size F H L B w) (by kernel_rfl) (by kernel_rfl) s0.drew ?_
      repeat
        refine wpQuiet_step (fun K hK => ?_)
        go_simp
        first
          | (refine hK _ ?_; clear hK K)
          | (apply Exists.intro
             refine ⟨fun wq hq => ?_, hK _ ?_⟩
             · first
               | rfl
               | (go_at_call 145; exact (k1 _).mono fun _ _ h => ⟨h.1, hq.kept h.2⟩)
               | (obtain ⟨⟨q0, q1, q2, q3⟩, _, _⟩ := hq; go_simp; rfl)
             clear hK K)
      refine wpQuiet_nil ?_
      intro w1 s1
      go_wp2_with fail
      go_ret
      exact ⟨ret_bool HE.out.symm, s1.2.2⟩
end Go.Proofs.YtkeogggeefnoeaaGreatDoor
namespace Go.Proofs.YtkeogggeefnoeaaGreatDoor
set_option linter.unusedSimpArgs false
set_option maxRecDepth 100000
open Go.RowKit

/-- What Put has laid behind j rounds: the bytes, zeros, the lowest j bytes of the number. -/
def laid (zs : List Int) (W j : Nat) (x : Int) : List Int := zs ++ (List.replicate (W - j) 0 ++ be j x)
theorem laid_length (zs : List Int) (W j : Nat) (x : Int) (h : j ≤ W) : (laid zs W j x).length = zs.length + W := by
  simp [laid, be_length]; omega
theorem laid_start (zs : List Int) (W : Nat) (x : Int) : laid zs W 0 x = zs ++ List.replicate W 0 := by simp [laid, be]
theorem laid_end (zs : List Int) (W : Nat) (x : Int) : laid zs W W x = zs ++ be W x := by simp [laid]
theorem laid_step (zs : List Int) (W j : Nat) (x : Int) (h : j < W) :
    (laid zs W j x).set (zs.length + (W - 1 - j)) (x / 256 ^ j % 256) = laid zs W (j + 1) x := by
  unfold laid
  rw [List.set_append_right _ _ (by omega), show zs.length + (W - 1 - j) - zs.length = W - 1 - j from by omega,
    List.set_append_left _ _ (by simp; omega)]
  congr 1
  obtain ⟨m, hm⟩ : ∃ m, W - j = m + 1 := ⟨W - j - 1, by omega⟩
  rw [hm, show W - 1 - j = m from by omega, show W - (j + 1) = m from by omega, be, List.replicate_succ']
  rw [List.set_append_right _ _ (by simp)]
  simp

/-- A row of bytes in a block of its own. -/
def Row (w : World) (g : Nat) (zs : List Int) : Prop := w.heap[g]? = some (.cells (cells zs).toArray 5 (0, 0))

theorem Row.cell {w : World} {g : Nat} {zs : List Int} (h : Row w g zs) (i : Nat) (hi : i < zs.length) : w.cell? ⟨g, i, none⟩ = some (.int .u8 (zs.getD i 0)) := by
  rw [cell_of_row w g i _ 5 (0, 0) h]
  simpa using cells_get zs i hi
theorem Row.lt {w : World} {g : Nat} {zs : List Int} (h : Row w g zs) : g < w.heap.size := (Array.getElem?_eq_some_iff.1 h).1
theorem Row.bs {w : World} {g : Nat} {zs : List Int} (h : Row w g zs) (hb : ∀ z ∈ zs, 0 ≤ z ∧ z ≤ 255) : Bs w (some ⟨g, 0, none⟩) zs.length zs :=
  ⟨rfl, hb, .inr ⟨g, 0, rfl, fun i hi => by rw [Nat.zero_add]; exact h.cell i hi⟩⟩
theorem Row.kept {w w' : World} {g : Nat} {zs : List Int} {r : Option Nat} (h : Row w g zs) (hg : w.grownBy w' r) (hr : some g ≠ r) : Row w' g zs := by
  unfold Row
  rw [hg.block g h.lt hr]; exact h
theorem Row.unfrozen {w : World} {g : Nat} {zs : List Int} (h : Row w g zs) (i : Nat) : w.frozen? ⟨g, i, none⟩ = false := by
  unfold Row at h
  simp [World.frozen?, h]
theorem Row.set {w : World} {g : Nat} {zs : List Int} (h : Row w g zs) (i : Nat) (x : Int) : Row (w.setCell ⟨g, i, none⟩ (.int .u8 x)) g (zs.set i x) := by
  unfold Row at *
  simp [World.setCell, Array.getElem?_modify, h, cells]

theorem made_zeros (n : Nat) : (madeCells (Value.int .u8 0).cells (n * 1)).toList = cells (List.replicate n 0) := by
  simp [madeCells, cells, Value.cells]
  apply List.ext_getElem
  · simp
  · intro i h1 h2; simp [Nat.mod_one]

theorem row_of_own {w : World} {base g n : Nat} {xs : List Int} (h : w.ownsRow base 5 1 (.slice (some ⟨g, 0, none⟩) n n) n (cells xs)) : Row w g xs := by
  obtain ⟨h1, h2⟩ := h
  rcases h2 with ⟨e, _⟩ | ⟨g', cap, cur, e, _, hg, _, _, hs, ht⟩
  · simp at e
  · simp at e
    obtain ⟨rfl, rfl⟩ := e
    unfold Row
    rw [hg]
    have : cur.toList = cells xs := by rw [← ht, List.take_of_length_le (by simp [hs])]
    rw [← this]

theorem row_splice {w : World} {g n W : Nat} {zs : List Int} {x : Int} (hz : zs.length = n) (h : Hid (w.heap[g]? = some (.cells (splice (cells (List.replicate (n + W) 0)) 0 (cells zs)).toArray 5 (0, 0)))) : Row w g (laid zs W 0 x) := by
  unfold Row
  rw [h.out, laid_start]
  have : splice (cells (List.replicate (n + W) 0)) 0 (cells zs) = cells (zs ++ List.replicate W 0) := by
    simp [splice, cells, hz]
  rw [this]

/-- The number without its lowest j bytes. -/
def dvb (x : Int) (j : Nat) : Int := x / 256 ^ j
theorem dvb_zero (x : Int) : dvb x 0 = x := by simp [dvb]
theorem dvb_step (x : Int) (j : Nat) : dvb x j / 256 = dvb x (j + 1) := by
  unfold dvb; rw [Int.pow_succ, Int.ediv_ediv_of_nonneg (Int.le_of_lt (Int.pow_pos (by omega)))]
theorem dvb_nonneg (x : Int) (h : 0 ≤ x) (j : Nat) : 0 ≤ dvb x j := Int.ediv_nonneg h (Int.le_of_lt (Int.pow_pos (by omega)))
theorem dvb_le (x : Int) (h : 0 ≤ x) (j : Nat) : dvb x j ≤ x := Int.ediv_le_self _ h
theorem laid_put (zs : List Int) (n W j : Nat) (x : Int) (hz : zs.length = n) (h : j < W) :
    (laid zs W j x).set (n + (W - 1 - j)) (dvb x j % 256) = laid zs W (j + 1) x := by
  rw [← hz]; exact laid_step zs W j x h

end Go.Proofs.YtkeogggeefnoeaaGreatDoor
namespace Go.Proofs.YtkeogggeefnoeaaGreatDoor
set_option linter.unusedSimpArgs false
set_option maxRecDepth 100000
open Go.RowKit

/-- The number whose lowest k bytes are all ones. -/
def ones (k : Nat) : Int := 256 ^ k - 1
theorem ones_zero : ones 0 = 0 := rfl
theorem ones_pos (k : Nat) : 0 < ones (k + 1) := by
  unfold ones
  have h : (0 : Int) < 256 ^ k := Int.pow_pos (by omega)
  rw [Int.pow_succ]; omega
theorem ones_ne (k : Nat) : (ones (k + 1) != 0) = true := by have := ones_pos k; rw [bne_iff_ne]; omega
theorem ones_no : (ones 0 != 0) = false := by rw [ones_zero]; rfl
theorem ones_shift (k : Nat) : ones (k + 1) / 256 = ones k := by
  unfold ones
  rw [Int.pow_succ]; omega

end Go.Proofs.YtkeogggeefnoeaaGreatDoor
namespace Go.Proofs.YtkeogggeefnoeaaGreatDoor
set_option linter.unusedSimpArgs false
set_option maxRecDepth 100000
open Go.RowKit

set_option maxHeartbeats 400000 in
theorem width8 (w : World) : Calls Tryz.prog 174 #[] w fun e w' => e = .returned (.int .i64 1) ∧ w' = w := by
  go_enter Tryz.func174, Tryz.ntmps174
  go_wp2
  go_loop [1, 2] (fun n r => ∃ k : Nat, k ≤ 1 ∧ n = .int .i64 (1 - k) ∧ r = .int .u64 (ones k)) (fun n _ => 1 - (intOf n).toNat)
  case atStart => exact ⟨1, by omega, rfl, congrArg (Value.int .u64) (by decide +kernel)⟩
  case round =>
    obtain ⟨k, hk, rfl, rfl⟩ := hrel
    cases k with
    | zero =>
      have h := ones_no
      go_wp2
      go_ret
      exact ⟨rfl, rfl⟩
    | succ k =>
      have h := ones_ne k
      go_wp2
      go_round
      case rel => exact ⟨k, by omega, by go_num, by rw [ones_shift]⟩
      case measure => simp [intOf]; omega

set_option maxHeartbeats 400000 in
theorem width16 (w : World) : Calls Tryz.prog 175 #[] w fun e w' => e = .returned (.int .i64 2) ∧ w' = w := by
  go_enter Tryz.func175, Tryz.ntmps175
  go_wp2
  go_loop [1, 2] (fun n r => ∃ k : Nat, k ≤ 2 ∧ n = .int .i64 (2 - k) ∧ r = .int .u64 (ones k)) (fun n _ => 2 - (intOf n).toNat)
  case atStart => exact ⟨2, by omega, rfl, congrArg (Value.int .u64) (by decide +kernel)⟩
  case round =>
    obtain ⟨k, hk, rfl, rfl⟩ := hrel
    cases k with
    | zero =>
      have h := ones_no
      go_wp2
      go_ret
      exact ⟨rfl, rfl⟩
    | succ k =>
      have h := ones_ne k
      go_wp2
      go_round
      case rel => exact ⟨k, by omega, by go_num, by rw [ones_shift]⟩
      case measure => simp [intOf]; omega

set_option maxHeartbeats 400000 in
theorem width32 (w : World) : Calls Tryz.prog 171 #[] w fun e w' => e = .returned (.int .i64 4) ∧ w' = w := by
  go_enter Tryz.func171, Tryz.ntmps171
  go_wp2
  go_loop [1, 2] (fun n r => ∃ k : Nat, k ≤ 4 ∧ n = .int .i64 (4 - k) ∧ r = .int .u64 (ones k)) (fun n _ => 4 - (intOf n).toNat)
  case atStart => exact ⟨4, by omega, rfl, congrArg (Value.int .u64) (by decide +kernel)⟩
  case round =>
    obtain ⟨k, hk, rfl, rfl⟩ := hrel
    cases k with
    | zero =>
      have h := ones_no
      go_wp2
      go_ret
      exact ⟨rfl, rfl⟩
    | succ k =>
      have h := ones_ne k
      go_wp2
      go_round
      case rel => exact ⟨k, by omega, by go_num, by rw [ones_shift]⟩
      case measure => simp [intOf]; omega

set_option maxHeartbeats 400000 in
theorem width64 (w : World) : Calls Tryz.prog 172 #[] w fun e w' => e = .returned (.int .i64 8) ∧ w' = w := by
  go_enter Tryz.func172, Tryz.ntmps172
  go_wp2
  go_loop [1, 2] (fun n r => ∃ k : Nat, k ≤ 8 ∧ n = .int .i64 (8 - k) ∧ r = .int .u64 (ones k)) (fun n _ => 8 - (intOf n).toNat)
  case atStart => exact ⟨8, by omega, rfl, congrArg (Value.int .u64) (by decide +kernel)⟩
  case round =>
    obtain ⟨k, hk, rfl, rfl⟩ := hrel
    cases k with
    | zero =>
      have h := ones_no
      go_wp2
      go_ret
      exact ⟨rfl, rfl⟩
    | succ k =>
      have h := ones_ne k
      go_wp2
      go_round
      case rel => exact ⟨k, by omega, by go_num, by rw [ones_shift]⟩
      case measure => simp [intOf]; omega


end Go.Proofs.YtkeogggeefnoeaaGreatDoor
