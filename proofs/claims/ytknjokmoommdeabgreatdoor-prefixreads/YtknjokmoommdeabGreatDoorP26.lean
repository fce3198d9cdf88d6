import Derived.Test.YtknjokmoommdeabGreatDoorP23
namespace Go.Proofs.YtknjokmoommdeabGreatDoor
set_option maxRecDepth 100000
open Go.RowKit
set_option linter.unusedVariables false

theorem spx_self7 (F H L B : Int) : spx F H L B F H L B = true := by unfold spx; simp
theorem sa_self7 (F H L : Int) : sa F H L F H L = true := by unfold sa; simp
set_option maxHeartbeats 2000000 in
theorem prefixReads_ (l : List Nat) (w : World) (hT : Tb w) (hy : ∀ x ∈ l, x < 256) (hn : l.length ≤ 140737488351232) :
    Calls Tryz.prog 3 #[.string (sb l)] w fun e w' => e = .returned (.bool true) ∧ Below w.heap.size w w' := by
  have hm : l.length ≤ maxLen := by unfold maxLen; omega
  have k1 := fun w hT => parseAddr_ l w hy (by omega) hT
  have k2 := fun w hT => refParseAddr_ l w hy hm hT
  have k3 := fun w hT => parse_ l w hy (by omega) hT
  have k4 := fun w hT => refParse_ l w hy hm hT
  obtain ⟨F, HF⟩ : ∃ b, Hid (aF l = b) := ⟨_, rfl⟩
  obtain ⟨H, HH⟩ : ∃ b, Hid (aH l = b) := ⟨_, rfl⟩
  obtain ⟨L, HL⟩ : ∃ b, Hid (aL l = b) := ⟨_, rfl⟩
  obtain ⟨E, HE⟩ : ∃ b, Hid (aE l = b) := ⟨_, rfl⟩
  obtain ⟨PF, HPF⟩ : ∃ b, Hid (rF l = b) := ⟨_, rfl⟩
  obtain ⟨PH, HPH⟩ : ∃ b, Hid (rH l = b) := ⟨_, rfl⟩
  obtain ⟨PL, HPL⟩ : ∃ b, Hid (rL l = b) := ⟨_, rfl⟩
  obtain ⟨PB, HPB⟩ : ∃ b, Hid (rB l = b) := ⟨_, rfl⟩
  obtain ⟨PE, HPE⟩ : ∃ b, Hid (rE l = b) := ⟨_, rfl⟩
  rw [HF.out, HH.out, HL.out, HE.out] at k1 k2
  rw [HPF.out, HPH.out, HPL.out, HPB.out, HPE.out] at k3 k4
  clear hm hn hy
  have hee : (E == E) = true := by simp
  have hpp : (PE == PE) = true := by simp
  have k5 := fun w => sameAddr_ F H L F H L w
  have k6 := fun w => samePrefix_ PF PH PL PB PF PH PL PB w
  rw [sa_self7] at k5
  rw [spx_self7] at k6
  have B0 := Below.refl w.heap.size w
  go_enter Tryz.func3, Tryz.ntmps3
  go_wp2_with fail
  refine (k1 _ hT).mono ?_
  rintro e w1 ⟨rfl, g2⟩
  replace B0 := bel_bel B0 B0.size g2
  clear g2 k1
  have m0 := Am.new w1 F H L
  replace B0 := B0.alloc B0.size (.cells #[.int .i64 F, .int .u64 H, .int .u64 L] 24)
  go_wp2_with fail
  refine (k2 _ (hT.kept B0)).mono ?_
  rintro e w2 ⟨rfl, g2⟩
  replace m0 := m0.kept g2
  replace B0 := bel_bel B0 B0.size g2
  clear g2 k2
  have m1 := Am.new w2 F H L
  replace m0 := m0.alloc (.cells #[.int .i64 F, .int .u64 H, .int .u64 L] 24)
  replace B0 := B0.alloc B0.size (.cells #[.int .i64 F, .int .u64 H, .int .u64 L] 24)
  go_wp2_with fail
  refine (k3 _ (hT.kept B0)).mono ?_
  rintro e w3 ⟨rfl, g2⟩
  replace m0 := m0.kept g2
  replace m1 := m1.kept g2
  replace B0 := bel_bel B0 B0.size g2
  clear g2 k3
  have m2 := Pm.new w3 PF PH PL PB
  replace m0 := m0.alloc (.cells #[.int .i64 PF, .int .u64 PH, .int .u64 PL, .int .i64 PB] 31)
  replace m1 := m1.alloc (.cells #[.int .i64 PF, .int .u64 PH, .int .u64 PL, .int .i64 PB] 31)
  replace B0 := B0.alloc B0.size (.cells #[.int .i64 PF, .int .u64 PH, .int .u64 PL, .int .i64 PB] 31)
  go_wp2_with fail
  refine (k4 _ (hT.kept B0)).mono ?_
  rintro e w4 ⟨rfl, g2⟩
  replace m0 := m0.kept g2
  replace m1 := m1.kept g2
  replace m2 := m2.kept g2
  replace B0 := bel_bel B0 B0.size g2
  clear g2 k4
  have m3 := Pm.new w4 PF PH PL PB
  replace m0 := m0.alloc (.cells #[.int .i64 PF, .int .u64 PH, .int .u64 PL, .int .i64 PB] 31)
  replace m1 := m1.alloc (.cells #[.int .i64 PF, .int .u64 PH, .int .u64 PL, .int .i64 PB] 31)
  replace m2 := m2.alloc (.cells #[.int .i64 PF, .int .u64 PH, .int .u64 PL, .int .i64 PB] 31)
  replace B0 := B0.alloc B0.size (.cells #[.int .i64 PF, .int .u64 PH, .int .u64 PL, .int .i64 PB] 31)
  have c0 := m0.c0
  have c1 := m0.c1
  have c2 := m0.c2
  have d0 := m1.c0
  have d1 := m1.c1
  have d2 := m1.c2
  go_wp2_with fail
  refine (k5 _).mono ?_
  rintro e w5 ⟨rfl, g2⟩
  replace m2 := m2.kept g2
  replace m3 := m3.kept g2
  replace B0 := bel_bel B0 B0.size g2
  clear g2 k5 c0 c1 c2 d0 d1 d2 m0 m1
  have c0 := m2.c0
  have c1 := m2.c1
  have c2 := m2.c2
  have c3 := m2.c3
  have d0 := m3.c0
  have d1 := m3.c1
  have d2 := m3.c2
  have d3 := m3.c3
  go_wp2_with fail
  refine (k6 _).mono ?_
  rintro e w6 ⟨rfl, g2⟩
  replace B0 := bel_bel B0 B0.size g2
  clear g2 k6 c0 c1 c2 c3 d0 d1 d2 d3 m2 m3
  go_wp2_with fail
  refine (num7_ _ _).mono ?_
  rintro e w7 ⟨rfl, rfl⟩
  go_wp2_with fail
  refine (num7_ _ _).mono ?_
  rintro e w8 ⟨rfl, rfl⟩
  go_wp2_with fail
  refine (first_ _ (hT.kept B0)).mono ?_
  rintro e wz ⟨rfl, g2⟩
  replace B0 := bel_bel B0 B0.size g2
  clear g2
  go_wp2_with fail
  go_ret
  exact ⟨rfl, B0⟩
end Go.Proofs.YtknjokmoommdeabGreatDoor
