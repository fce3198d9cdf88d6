import Derived.Test.YtmgoabedickooaaGreatDoorP22
namespace Go.Proofs.YtmgoabedickooaaGreatDoor
set_option maxRecDepth 100000
open Go.RowKit
set_option linter.unusedVariables false

set_option maxHeartbeats 2000000 in
theorem first_ (w : World) (hT : Tb w) : Calls Tryz.prog 4 #[] w fun e w' => e = .returned (.bool true) ∧ Below w.heap.size w w' := by
  have I4 : InI 4 := by unfold InI; omega
  have I16 : InI 16 := by unfold InI; omega
  have U0 : InU 0 := by unfold InU; omega
  have U1 : InU 167837696 := by unfold InU; omega
  have U2 : InU 167902979 := by unfold InU; omega
  have k1 := fun w => put_ 4 0 167837696 16 w I4 U0 U1 I16
  have k2 := fun w hT => print_ 4 0 167837696 16 w I4 U0 U1 I16 hT
  have k3 := fun w hT => parse_ ft w ft_lt (by decide) hT
  have k4 := fun w => holds_ 4 0 167837696 16 4 0 167902979 w I4 U0 U1 I16 I4 U0 U2
  have k5 := fun w => valid_ 4 0 167837696 16 w I4 U0 U1 I16
  have k6 := fun w => samePrefix_ 4 0 167837696 16 4 0 167837696 16 w
  rw [first_pp] at k1
  rw [first_tp] at k2
  obtain ⟨r1, r2, r3, r4, r5⟩ := first_r
  rw [r1, r2, r3, r4, r5] at k3
  rw [first_ho] at k4
  rw [first_vp] at k5
  have hft : sb ft = ⟨#[49, 48, 46, 49, 46, 48, 46, 48, 47, 49, 54]⟩ := rfl
  rw [hft] at k2 k3
  clear hft r1 r2 r3 r4 r5
  have B0 := pnew w 4 0 167837696 16
  have m0 := Pm.new w 4 0 167837696 16
  go_enter Tryz.func4, Tryz.ntmps4
  go_wp2_with fail
  refine (k1 _).mono ?_
  rintro e w1 ⟨v, rfl, ho, g2⟩
  obtain ⟨pa', pc, rfl, pb, _, _, _⟩ := own_form ho fb_byte
  rw [show fb.length = 6 from rfl] at pb ⊢
  replace m0 := m0.kept g2
  replace B0 := bel_bel B0 B0.size g2
  clear g2 ho k1
  have nb := Bs.new w1 fb 5 fb_byte
  rw [show fb.length = 6 from rfl] at nb
  have pb2 := pb.below ((Below.refl _ _).alloc (Nat.le_refl _) (.cells (cells fb).toArray 5))
  replace m0 := m0.alloc (.cells (cells fb).toArray 5)
  replace B0 := B0.alloc B0.size (.cells (cells fb).toArray 5)
  clear pb
  go_wp2_with fail
  refine (same_yes _ _ 6 _ 6 _ fb _ pb2 nb (by decide) (by decide)).mono ?_
  rintro e w2 ⟨rfl, dr⟩
  have g2 := dr.below
  replace m0 := m0.kept g2
  replace B0 := bel_bel B0 B0.size g2
  clear g2 dr pb2 nb
  have m0c0 := m0.c0
  have m0c1 := m0.c1
  have m0c2 := m0.c2
  have m0c3 := m0.c3
  go_wp2_with fail
  refine (k2 _ (hT.kept B0)).mono ?_
  rintro e w3 ⟨rfl, g2⟩
  clear m0c0 m0c1 m0c2 m0c3
  replace m0 := m0.kept g2
  replace B0 := bel_bel B0 B0.size g2
  clear g2 k2
  go_wp2_with fail
  refine (k3 _ (hT.kept B0)).mono ?_
  rintro e w4 ⟨rfl, g2⟩
  replace m0 := m0.kept g2
  replace B0 := bel_bel B0 B0.size g2
  clear g2 k3
  have m1 := Pm.new w4 4 0 167837696 16
  replace m0 := m0.alloc (.cells #[.int .i64 4, .int .u64 0, .int .u64 167837696, .int .i64 16] 50)
  replace B0 := B0.alloc B0.size (.cells #[.int .i64 4, .int .u64 0, .int .u64 167837696, .int .i64 16] 50)
  have m0c0 := m0.c0
  have m0c1 := m0.c1
  have m0c2 := m0.c2
  have m0c3 := m0.c3
  have m1c0 := m1.c0
  have m1c1 := m1.c1
  have m1c2 := m1.c2
  have m1c3 := m1.c3
  go_wp2_with fail
  refine (k6 _).mono ?_
  rintro e w5 ⟨rfl, g2⟩
  rw [show spx 4 0 167837696 16 4 0 167837696 16 = true from by decide]
  clear m0c0 m0c1 m0c2 m0c3 m1c0 m1c1 m1c2 m1c3
  replace m0 := m0.kept g2
  replace B0 := bel_bel B0 B0.size g2
  clear g2 k6 m1
  have m0c0 := m0.c0
  have m0c1 := m0.c1
  have m0c2 := m0.c2
  have m0c3 := m0.c3
  go_wp2_with fail
  refine (k4 _).mono ?_
  rintro e w6 ⟨rfl, g2⟩
  clear m0c0 m0c1 m0c2 m0c3
  replace m0 := m0.kept g2
  replace B0 := bel_bel B0 B0.size g2
  clear g2 k4
  have m0c0 := m0.c0
  have m0c1 := m0.c1
  have m0c2 := m0.c2
  have m0c3 := m0.c3
  go_wp2_with fail
  refine (k5 _).mono ?_
  rintro e w7 ⟨rfl, g2⟩
  clear m0c0 m0c1 m0c2 m0c3
  replace m0 := m0.kept g2
  replace B0 := bel_bel B0 B0.size g2
  clear g2 k5
  go_wp2_with fail
  refine (num7_ 0 _).mono ?_
  rintro e w8 ⟨rfl, rfl⟩
  go_wp2_with fail
  go_ret
  exact ⟨rfl, B0⟩
end Go.Proofs.YtmgoabedickooaaGreatDoor
