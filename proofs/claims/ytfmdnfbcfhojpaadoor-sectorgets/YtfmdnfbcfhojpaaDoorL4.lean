import Derived.Test.YtfmdnfbcfhojpaaDoorL2
import Derived.Test.YtfmdnfbcfhojpaaDoorL3
namespace Go.Proofs.YtfmdnfbcfhojpaaDoor
set_option maxRecDepth 100000
open Go.RowKit
set_option linter.unusedVariables false

theorem pl_mayn : MayN ⟨#[67, 86, 79, 49]⟩ 1 2 3 3 := (may_n (s := pl) rfl).1 pl_may
theorem pl_rt : rt (ps pl) ⟨#[67, 86, 79, 49]⟩ 1 2 4 = none := by
  unfold rt
  rw [pl_gs]
  simp [pl]
set_option maxHeartbeats 8000000 in
theorem first_ (w : World) (hT : Tab w) : Calls Tryd.prog 9 #[] w fun en w' => en = .returned (.bool true) ∧ Below w.heap.size w w' := by
  go_enter Tryd.func9, Tryd.ntmps9
  go_wp2_with fail
  refine (plain_ w).mono ?_
  rintro x1 w1 ⟨g1, rfl, y1, _, B1⟩
  have T1 := hT.bel B1
  go_wp2_with fail
  refine (put_y ⟨#[67, 86, 79, 49]⟩ 1 2 3 _ 3 3 [97, 98, 99] w1 T1 y1 pl_mayn).mono ?_
  rintro x2 w2 ⟨g, rfl, hg, r2, G2⟩
  have B2 := bel_bel B1 B1.size G2
  have T2 := T1.bel G2
  clear y1 G2 T1 B1
  replace r2 : Row w2 g (ps pl) := r2
  have hlen := ps_length pl_may
  have hby := ps_by pl_by
  obtain ⟨p11, p23, p25, p30, p508, p509, p510, p511, pt⟩ := pl_at
  have c11 := r2.cell 11 (by omega)
  have c23 := r2.cell 23 (by omega)
  have c25 := r2.cell 25 (by omega)
  have c30 := r2.cell 30 (by omega)
  have c508 := r2.cell 508 (by omega)
  have c509 := r2.cell 509 (by omega)
  have c510 := r2.cell 510 (by omega)
  have c511 := r2.cell 511 (by omega)
  rw [p11] at c11
  rw [p23] at c23
  rw [p25] at c25
  rw [p30] at c30
  rw [p508] at c508
  rw [p509] at c509
  rw [p510] at c510
  rw [p511] at c511
  have yb : Bs w2 (some ⟨g, 0, none⟩) 512 (ps pl) := (r2.bs hby).len hlen
  have kt : (convert 22 9 (.slice (some ⟨g, 0, none⟩) 4 512)).run Tryd.prog w2 = .ok (.string ⟨#[67, 86, 79, 49]⟩) w2 := by
    have := run_txt 512 (bs_sl yb 0 4 (by omega))
    rw [pt] at this
    exact this
  have R2 := hid r2
  have YB := hid yb
  have BB := hid B2
  clear yb r2 p11 p23 p25 p30 p508 p509 p510 p511 pt hby hlen B2
  go_wp2_with (go_at_call 14; refine (num_ _ _).mono ?_; rintro xn wn ⟨rfl, hw⟩; obtain rfl := hw.symm)
  clear c11 c23 c25 c30 c508 c509 c510 c511 kt
  refine (get_y (some ⟨g, 0, none⟩) 512 512 (ps pl) w2 T2 YB.out (Nat.le_refl _) (by unfold maxLen; omega) ⟨⟨#[67, 86, 79, 49]⟩, 1, 2, 3, [97, 98, 99]⟩ pl_gs).mono ?_
  rintro x3 w3 ⟨g3, rfl, hg3, r3, G3⟩
  simp only [List.length_cons, List.length_nil, Nat.zero_add, Nat.reduceAdd]
  have B3 := bel_bel BB.out BB.out.size G3
  have T3 := T2.bel G3
  have Y3 := hid (YB.out.below G3)
  have m3 := Sm.new w3 ⟨#[67, 86, 79, 49]⟩ 1 2 3 (.slice (some ⟨g3, 0, none⟩) 3 3)
  have A3 : Below w3.heap.size w3 (w3.alloc (.cells #[.string ⟨#[67, 86, 79, 49]⟩, .int .i64 1, .int .i64 2, .int .i64 3, .slice (some ⟨g3, 0, none⟩) 3 3] 24)) := (Below.refl _ _).alloc (Nat.le_refl _) _
  have B4 := hid (bel_bel B3 B3.size A3)
  have T4 := hid (T3.bel A3)
  have Y4 := hid (Y3.out.below A3)
  have r4 : Row (w3.alloc (.cells #[.string ⟨#[67, 86, 79, 49]⟩, .int .i64 1, .int .i64 2, .int .i64 3, .slice (some ⟨g3, 0, none⟩) 3 3] 24)) g3 [97, 98, 99] := r3.kept (r := none) (grown_of_below A3) (by simp)
  have L4 : Hid (Bs (w3.alloc (.cells #[.string ⟨#[67, 86, 79, 49]⟩, .int .i64 1, .int .i64 2, .int .i64 3, .slice (some ⟨g3, 0, none⟩) 3 3] 24)) (some ⟨g3, 0, none⟩) 3 [97, 98, 99]) := r4.bs pl_by
  clear B3 T3 A3 r3 r4 G3 BB YB T2 R2
  go_wp2_with fail
  generalize hgs : w3.heap.size = gs3 at *
  have hlt := m3.lt
  have d0 := m3.c0
  have d1 := m3.c1
  have d2 := m3.c2
  have d3 := m3.c3
  have d4 := m3.c4
  clear m3 hgs
  generalize w3.alloc _ = w4 at *
  go_region_held (fun wx => wx.cell? ⟨gs3, 0, none⟩ = some (.string ⟨#[67, 86, 79, 49]⟩) ∧ wx.cell? ⟨gs3, 1, none⟩ = some (.int .i64 1) ∧ wx.cell? ⟨gs3, 2, none⟩ = some (.int .i64 2) ∧ wx.cell? ⟨gs3, 3, none⟩ = some (.int .i64 3) ∧ wx.cell? ⟨gs3, 4, none⟩ = some (.slice (some ⟨g3, 0, none⟩) 3 3)) (go_keep) (first | (go_at_call 23; refine (plain_ _).mono ?_; rintro xp w5 ⟨gp, rfl, yp, _, g4⟩; have e0 := (g4.cell (p := ⟨gs3, 0, none⟩) hlt).trans d0; have e1 := (g4.cell (p := ⟨gs3, 1, none⟩) hlt).trans d1; have e2 := (g4.cell (p := ⟨gs3, 2, none⟩) hlt).trans d2; have e3 := (g4.cell (p := ⟨gs3, 3, none⟩) hlt).trans d3; have e4 := (g4.cell (p := ⟨gs3, 4, none⟩) hlt).trans d4; have LP := hid yp; have L5 : Hid (Bs w5 (some ⟨g3, 0, none⟩) 3 [97, 98, 99]) := Bs.below (by exact L4.out) g4; have G4 := hid g4; clear yp g4) | (go_at_call 22; refine (alike_y ⟨#[67, 86, 79, 49]⟩ 1 2 3 (some ⟨g3, 0, none⟩) (some ⟨gp, 0, none⟩) 3 3 3 3 [97, 98, 99] _ L5.out LP.out (by omega) (by omega)).mono ?_; rintro xa w6 ⟨rfl, g5⟩; have h0 := (g5.cell (p := ⟨gs3, 0, none⟩) (Nat.lt_of_lt_of_le hlt G4.out.size)).trans e0; have h1 := (g5.cell (p := ⟨gs3, 1, none⟩) (Nat.lt_of_lt_of_le hlt G4.out.size)).trans e1; have h2 := (g5.cell (p := ⟨gs3, 2, none⟩) (Nat.lt_of_lt_of_le hlt G4.out.size)).trans e2; have h3 := (g5.cell (p := ⟨gs3, 3, none⟩) (Nat.lt_of_lt_of_le hlt G4.out.size)).trans e3; have h4 := (g5.cell (p := ⟨gs3, 4, none⟩) (Nat.lt_of_lt_of_le hlt G4.out.size)).trans e4; have G5 := hid g5; clear g5))
  have D4 : Below w.heap.size w w4.drew := ⟨B4.out.os, B4.out.tape, B4.out.output, B4.out.size, B4.out.block⟩
  have B5 := bel_bel D4 D4.size G4.out
  have B6 := bel_bel B5 B5.size G5.out
  have T5 : Tab w5 := Tab.bel (by exact T4.out) G4.out
  have T6 := T5.bel G5.out
  have Y5 : Bs w5 (some ⟨g, 0, none⟩) 512 (ps pl) := Bs.below (by exact Y4.out) G4.out
  have Y6 := hid (Y5.below G5.out)
  have B6H := hid B6
  clear h0 h1 h2 h3 h4 e0 e1 e2 e3 e4 d0 d1 d2 d3 d4 D4 B5 B6 T5 Y5 G4 G5 L4 L5 LP T4 Y4 B4 hlt
  go_wp2_with fail
  refine (right_y ⟨#[67, 86, 79, 49]⟩ 1 2 3 [97, 98, 99] (some ⟨g, 0, none⟩) 512 512 (ps pl) w6 T6 Y6.out (Nat.le_refl _) (by unfold maxLen; omega) pl_gs).mono ?_
  rintro x7 w7 ⟨g7, rfl, hg7, r7, G7⟩
  simp only [List.length_cons, List.length_nil, Nat.zero_add, Nat.reduceAdd]
  have B7 := bel_bel B6H.out B6H.out.size G7
  have T7 := T6.bel G7
  have Y7 := hid (Y6.out.below G7)
  have L7 := hid (r7.bs pl_by)
  have B7H := hid B7
  clear B7 r7 G7 T6 Y6 B6H
  go_wp2_with fail
  refine (right_n ⟨#[67, 86, 79, 49]⟩ 1 2 4 (some ⟨g, 0, none⟩) 512 512 (ps pl) w7 T7 Y7.out (Nat.le_refl _) (by unfold maxLen; omega) pl_rt).mono ?_
  rintro x8 w8 ⟨rfl, G8⟩
  have B8 := bel_bel B7H.out B7H.out.size G8
  have kt : (convert 22 9 (.slice (some ⟨g7, 0, none⟩) 3 3)).run Tryd.prog w8 = .ok (.string ⟨#[97, 98, 99]⟩) w8 := run_txt 3 (L7.out.below G8)
  clear B7H L7 Y7 T7 G8
  go_wp2_with (go_at_call 14; refine (num_ _ _).mono ?_; rintro xn wn ⟨rfl, hw⟩; obtain rfl := hw.symm)
  go_ret
  exact ⟨rfl, B8⟩
end Go.Proofs.YtfmdnfbcfhojpaaDoor
