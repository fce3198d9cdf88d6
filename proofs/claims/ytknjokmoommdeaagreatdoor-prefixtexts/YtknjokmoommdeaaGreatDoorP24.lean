import Derived.Test.YtknjokmoommdeaaGreatDoorP23
namespace Go.Proofs.YtknjokmoommdeaaGreatDoor
set_option maxRecDepth 100000
open Go.RowKit
set_option linter.unusedVariables false

set_option maxHeartbeats 2000000 in
theorem prefixValids_ (F H L B : Int) (w : World) (hT : Tb w) (hF : InI F) (hH : InU H) (hL : InU L) (hB : InI B) :
    Calls Tryz.prog 3 #[.agg #[.int .i64 F, .int .u64 H, .int .u64 L, .int .i64 B]] w fun e w' => e = .returned (.bool true) ∧ Below w.heap.size w w' := by
  have k1 := fun w => validAddr_ F H L w hF hH hL
  have k2 := fun w => refValidAddr_ F H L w hL
  have k3 := fun w => valid_ F H L B w hF hH hL hB
  have k4 := fun w => refValid_ F H L B w hH hL hB
  obtain ⟨a, Ha⟩ : ∃ a, Hid (va F H L = a) := ⟨_, rfl⟩
  obtain ⟨b, Hb⟩ : ∃ b, Hid (vp F H L B = b) := ⟨_, rfl⟩
  rw [Ha.out] at k1 k2
  rw [Hb.out] at k3 k4
  have haa : (a == a) = true := by simp
  have hbb : (b == b) = true := by simp
  have B0 := pnew w F H L B
  have m0 := Pm.new w F H L B
  go_enter Tryz.func3, Tryz.ntmps3
  have m0c0 := m0.c0
  have m0c1 := m0.c1
  have m0c2 := m0.c2
  have m0c3 := m0.c3
  go_wp2_with fail
  refine (k1 _).mono ?_
  rintro e w1 ⟨rfl, g2⟩
  clear m0c0 m0c1 m0c2 m0c3
  replace m0 := m0.kept g2
  replace B0 := bel_bel B0 B0.size g2
  clear g2
  have m0c0 := m0.c0
  have m0c1 := m0.c1
  have m0c2 := m0.c2
  have m0c3 := m0.c3
  go_wp2_with fail
  refine (k2 _).mono ?_
  rintro e w2 ⟨rfl, g2⟩
  clear m0c0 m0c1 m0c2 m0c3
  replace m0 := m0.kept g2
  replace B0 := bel_bel B0 B0.size g2
  clear g2
  have m0c0 := m0.c0
  have m0c1 := m0.c1
  have m0c2 := m0.c2
  have m0c3 := m0.c3
  go_wp2_with fail
  refine (k3 _).mono ?_
  rintro e w3 ⟨rfl, g2⟩
  clear m0c0 m0c1 m0c2 m0c3
  replace m0 := m0.kept g2
  replace B0 := bel_bel B0 B0.size g2
  clear g2
  have m0c0 := m0.c0
  have m0c1 := m0.c1
  have m0c2 := m0.c2
  have m0c3 := m0.c3
  go_wp2_with fail
  refine (k4 _).mono ?_
  rintro e w4 ⟨rfl, g2⟩
  clear m0c0 m0c1 m0c2 m0c3
  replace m0 := m0.kept g2
  replace B0 := bel_bel B0 B0.size g2
  clear g2
  go_wp2_with fail
  refine (first_ _ (hT.kept B0)).mono ?_
  rintro e wz ⟨rfl, g2⟩
  replace B0 := bel_bel B0 B0.size g2
  clear g2
  go_wp2_with fail
  go_ret
  exact ⟨rfl, B0⟩
set_option maxHeartbeats 2000000 in
theorem prefixHolds_ (F H L B F' H' L' : Int) (w : World) (hT : Tb w) (hF : InI F) (hH : InU H) (hL : InU L) (hB : InI B) (hF' : InI F') (hH' : InU H') (hL' : InU L') :
    Calls Tryz.prog 4 #[.agg #[.int .i64 F, .int .u64 H, .int .u64 L, .int .i64 B], .agg #[.int .i64 F', .int .u64 H', .int .u64 L']] w fun e w' => e = .returned (.bool true) ∧ Below w.heap.size w w' := by
  have k1 := fun w => holds_ F H L B F' H' L' w hF hH hL hB hF' hH' hL'
  have k2 := fun w => refHolds_ F H L B F' H' L' w hH hL hB hH' hL'
  obtain ⟨a, Ha⟩ : ∃ a, Hid (ho F H L B F' H' L' = a) := ⟨_, rfl⟩
  rw [Ha.out] at k1 k2
  have haa : (a == a) = true := by simp
  obtain ⟨B0, m0, m1⟩ := panew w F H L B F' H' L'
  go_enter Tryz.func4, Tryz.ntmps4
  have m0c0 := m0.c0
  have m0c1 := m0.c1
  have m0c2 := m0.c2
  have m0c3 := m0.c3
  have m1c0 := m1.c0
  have m1c1 := m1.c1
  have m1c2 := m1.c2
  go_wp2_with fail
  refine (k1 _).mono ?_
  rintro e w1 ⟨rfl, g2⟩
  clear m0c0 m0c1 m0c2 m0c3 m1c0 m1c1 m1c2
  replace m0 := m0.kept g2
  replace m1 := m1.kept g2
  replace B0 := bel_bel B0 B0.size g2
  clear g2
  have m0c0 := m0.c0
  have m0c1 := m0.c1
  have m0c2 := m0.c2
  have m0c3 := m0.c3
  have m1c0 := m1.c0
  have m1c1 := m1.c1
  have m1c2 := m1.c2
  go_wp2_with fail
  refine (k2 _).mono ?_
  rintro e w2 ⟨rfl, g2⟩
  clear m0c0 m0c1 m0c2 m0c3 m1c0 m1c1 m1c2
  replace m0 := m0.kept g2
  replace m1 := m1.kept g2
  replace B0 := bel_bel B0 B0.size g2
  clear g2
  go_wp2_with fail
  refine (first_ _ (hT.kept B0)).mono ?_
  rintro e wz ⟨rfl, g2⟩
  replace B0 := bel_bel B0 B0.size g2
  clear g2
  go_wp2_with fail
  go_ret
  exact ⟨rfl, B0⟩
set_option maxHeartbeats 2000000 in
theorem prefixCompares_ (F H L B F' H' L' B' : Int) (w : World) (hT : Tb w) (hF : InI F) (hH : InU H) (hL : InU L) (hB : InI B) (hF' : InI F') (hH' : InU H') (hL' : InU L') (hB' : InI B') :
    Calls Tryz.prog 5 #[.agg #[.int .i64 F, .int .u64 H, .int .u64 L, .int .i64 B], .agg #[.int .i64 F', .int .u64 H', .int .u64 L', .int .i64 B']] w fun e w' => e = .returned (.bool true) ∧ Below w.heap.size w w' := by
  have k1 := fun w => compare_ F H L B F' H' L' B' w hF hH hL hB hF' hH' hL' hB'
  have k2 := fun w => refCompare_ F H L B F' H' L' B' w
  obtain ⟨a, Ha⟩ : ∃ a, Hid (cp F H L B F' H' L' B' = a) := ⟨_, rfl⟩
  rw [Ha.out] at k1 k2
  have haa : (a == a) = true := by simp
  obtain ⟨B0, m0, m1⟩ := ppnew w F H L B F' H' L' B'
  go_enter Tryz.func5, Tryz.ntmps5
  have m0c0 := m0.c0
  have m0c1 := m0.c1
  have m0c2 := m0.c2
  have m0c3 := m0.c3
  have m1c0 := m1.c0
  have m1c1 := m1.c1
  have m1c2 := m1.c2
  have m1c3 := m1.c3
  go_wp2_with fail
  refine (k1 _).mono ?_
  rintro e w1 ⟨rfl, g2⟩
  clear m0c0 m0c1 m0c2 m0c3 m1c0 m1c1 m1c2 m1c3
  replace m0 := m0.kept g2
  replace m1 := m1.kept g2
  replace B0 := bel_bel B0 B0.size g2
  clear g2
  have m0c0 := m0.c0
  have m0c1 := m0.c1
  have m0c2 := m0.c2
  have m0c3 := m0.c3
  have m1c0 := m1.c0
  have m1c1 := m1.c1
  have m1c2 := m1.c2
  have m1c3 := m1.c3
  go_wp2_with fail
  refine (k2 _).mono ?_
  rintro e w2 ⟨rfl, g2⟩
  clear m0c0 m0c1 m0c2 m0c3 m1c0 m1c1 m1c2 m1c3
  replace m0 := m0.kept g2
  replace m1 := m1.kept g2
  replace B0 := bel_bel B0 B0.size g2
  clear g2
  go_wp2_with fail
  refine (first_ _ (hT.kept B0)).mono ?_
  rintro e wz ⟨rfl, g2⟩
  replace B0 := bel_bel B0 B0.size g2
  clear g2
  go_wp2_with fail
  go_ret
  exact ⟨rfl, B0⟩
set_option maxHeartbeats 2000000 in
theorem prefixTexts_ (F H L B : Int) (w : World) (hT : Tb w) (hF : InI F) (hH : InU H) (hL : InU L) (hB : InI B) :
    Calls Tryz.prog 8 #[.agg #[.int .i64 F, .int .u64 H, .int .u64 L, .int .i64 B]] w fun e w' => e = .returned (.bool true) ∧ Below w.heap.size w w' := by
  have k1 := fun w hT => printAddr_ F H L w hF hH hL hT
  have k2 := fun w hT => refPrintAddr_ F H L w hH hL hT
  have k3 := fun w hT => print_ F H L B w hF hH hL hB hT
  have k4 := fun w hT => refPrint_ F H L B w hH hL hB hT
  obtain ⟨a, Ha⟩ : ∃ a, Hid (sb (ta F H L) = a) := ⟨_, rfl⟩
  obtain ⟨b, Hb⟩ : ∃ b, Hid (sb (tp F H L B) = b) := ⟨_, rfl⟩
  simp only [Ha.out] at k1 k2
  simp only [Hb.out] at k3 k4
  have haa : (a.toList == a.toList) = true := by simp
  have hbb : (b.toList == b.toList) = true := by simp
  have B0 := pnew w F H L B
  have m0 := Pm.new w F H L B
  go_enter Tryz.func8, Tryz.ntmps8
  have m0c0 := m0.c0
  have m0c1 := m0.c1
  have m0c2 := m0.c2
  have m0c3 := m0.c3
  go_wp2_with fail
  refine (k1 _ (hT.kept B0)).mono ?_
  rintro e w1 ⟨rfl, g2⟩
  clear m0c0 m0c1 m0c2 m0c3
  replace m0 := m0.kept g2
  replace B0 := bel_bel B0 B0.size g2
  clear g2
  have m0c0 := m0.c0
  have m0c1 := m0.c1
  have m0c2 := m0.c2
  have m0c3 := m0.c3
  go_wp2_with fail
  refine (k2 _ (hT.kept B0)).mono ?_
  rintro e w2 ⟨rfl, g2⟩
  clear m0c0 m0c1 m0c2 m0c3
  replace m0 := m0.kept g2
  replace B0 := bel_bel B0 B0.size g2
  clear g2
  have m0c0 := m0.c0
  have m0c1 := m0.c1
  have m0c2 := m0.c2
  have m0c3 := m0.c3
  go_wp2_with fail
  refine (k3 _ (hT.kept B0)).mono ?_
  rintro e w3 ⟨rfl, g2⟩
  clear m0c0 m0c1 m0c2 m0c3
  replace m0 := m0.kept g2
  replace B0 := bel_bel B0 B0.size g2
  clear g2
  have m0c0 := m0.c0
  have m0c1 := m0.c1
  have m0c2 := m0.c2
  have m0c3 := m0.c3
  go_wp2_with fail
  refine (k4 _ (hT.kept B0)).mono ?_
  rintro e w4 ⟨rfl, g2⟩
  clear m0c0 m0c1 m0c2 m0c3
  replace m0 := m0.kept g2
  replace B0 := bel_bel B0 B0.size g2
  clear g2
  go_wp2_with fail
  refine (first_ _ (hT.kept B0)).mono ?_
  rintro e wz ⟨rfl, g2⟩
  replace B0 := bel_bel B0 B0.size g2
  clear g2
  go_wp2_with fail
  go_ret
  exact ⟨rfl, B0⟩
set_option maxHeartbeats 2000000 in
theorem prefixBytes_ (F H L B : Int) (w : World) (hT : Tb w) (hF : InI F) (hH : InU H) (hL : InU L) (hB : InI B) :
    Calls Tryz.prog 6 #[.agg #[.int .i64 F, .int .u64 H, .int .u64 L, .int .i64 B]] w fun e w' => e = .returned (.bool true) ∧ Below w.heap.size w w' := by
  have k1 := fun w => putAddr_ F H L w hF hH hL
  have k2 := fun w => refPutAddr_ F H L w hH hL
  have k3 := fun w => put_ F H L B w hF hH hL hB
  have k4 := fun w => refPut_ F H L B w hH hL hB
  have HA := hid (pa_byte F H L)
  have HP := hid (pp_byte F H L B)
  have la : (pa F H L).length ≤ 16 := by
    rw [pa_length]
    have := nb_le F
    split <;> omega
  have lp : (pp F H L B).length ≤ 18 := by
    unfold pp
    split
    · simp only [List.length_cons]; omega
    · simp
  generalize pa F H L = A at *
  generalize pp F H L B = P at *
  have B0 := pnew w F H L B
  have m0 := Pm.new w F H L B
  go_enter Tryz.func6, Tryz.ntmps6
  have m0c0 := m0.c0
  have m0c1 := m0.c1
  have m0c2 := m0.c2
  have m0c3 := m0.c3
  go_wp2_with fail
  refine (k1 _).mono ?_
  rintro e w1 ⟨v, rfl, ho, g2⟩
  obtain ⟨pa, pc, rfl, pb, _, _, _⟩ := own_form ho HA.out
  clear m0c0 m0c1 m0c2 m0c3
  replace m0 := m0.kept g2
  replace B0 := bel_bel B0 B0.size g2
  clear g2 ho
  have m0c0 := m0.c0
  have m0c1 := m0.c1
  have m0c2 := m0.c2
  have m0c3 := m0.c3
  go_wp2_with fail
  refine (k2 _).mono ?_
  rintro e w2 ⟨v, rfl, ho, g2⟩
  obtain ⟨qa, qc, rfl, qb, _, _, _⟩ := own_form ho HA.out
  clear m0c0 m0c1 m0c2 m0c3
  replace m0 := m0.kept g2
  replace pb := pb.below g2
  replace B0 := bel_bel B0 B0.size g2
  clear g2 ho
  have m0c0 := m0.c0
  have m0c1 := m0.c1
  have m0c2 := m0.c2
  have m0c3 := m0.c3
  go_wp2_with fail
  refine (k3 _).mono ?_
  rintro e w3 ⟨v, rfl, ho, g2⟩
  obtain ⟨ra, rc, rfl, rb, _, _, _⟩ := own_form ho HP.out
  clear m0c0 m0c1 m0c2 m0c3
  replace m0 := m0.kept g2
  replace pb := pb.below g2
  replace qb := qb.below g2
  replace B0 := bel_bel B0 B0.size g2
  clear g2 ho
  have m0c0 := m0.c0
  have m0c1 := m0.c1
  have m0c2 := m0.c2
  have m0c3 := m0.c3
  go_wp2_with fail
  refine (k4 _).mono ?_
  rintro e w4 ⟨v, rfl, ho, g2⟩
  obtain ⟨sa, sc, rfl, sb, _, _, _⟩ := own_form ho HP.out
  clear m0c0 m0c1 m0c2 m0c3
  replace m0 := m0.kept g2
  replace pb := pb.below g2
  replace qb := qb.below g2
  replace rb := rb.below g2
  replace B0 := bel_bel B0 B0.size g2
  clear g2 ho
  go_wp2_with fail
  refine (same_yes _ _ _ _ _ _ A _ pb qb (by omega) (by omega)).mono ?_
  rintro e w5 ⟨rfl, dr⟩
  replace rb := rb.drawn dr
  replace sb := sb.drawn dr
  replace B0 := bel_bel B0 B0.size dr.below
  clear dr pb qb
  go_wp2_with fail
  refine (same_yes _ _ _ _ _ _ P _ rb sb (by omega) (by omega)).mono ?_
  rintro e w6 ⟨rfl, dr⟩
  replace B0 := bel_bel B0 B0.size dr.below
  clear dr rb sb
  go_wp2_with fail
  refine (first_ _ (hT.kept B0)).mono ?_
  rintro e wz ⟨rfl, g2⟩
  replace B0 := bel_bel B0 B0.size g2
  clear g2
  go_wp2_with fail
  go_ret
  exact ⟨rfl, B0⟩
end Go.Proofs.YtknjokmoommdeaaGreatDoor
