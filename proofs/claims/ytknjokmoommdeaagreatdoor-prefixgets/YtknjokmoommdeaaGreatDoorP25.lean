import Derived.Test.YtknjokmoommdeaaGreatDoorP24
namespace Go.Proofs.YtknjokmoommdeaaGreatDoor
set_option maxRecDepth 100000
open Go.RowKit
set_option linter.unusedVariables false

theorem spx_self (F H L B : Int) : spx F H L B F H L B = true := by unfold spx; simp
set_option maxHeartbeats 2000000 in
theorem prefixGets_ (a : Option Addr) (n c : Nat) (zs : List Int) (w : World) (hT : Tb w) (hb : Bs w a n zs) (hnc : n ≤ c) (hcm : c ≤ maxLen) (hn : n ≤ 140737488351232) (h0 : 0 < w.heap.size) :
    Calls Tryz.prog 7 #[.slice a n c] w fun e w' => e = .returned (.bool true) ∧ Below w.heap.size w w' := by
  have B0 := Below.refl w.heap.size w
  have HB := hid hb
  have HBY := hid hb.2.1
  have k0 := fun w hb => refBytes a n c zs w hb hn
  have k1 := fun a c w hb hnc hcm ha h0 => get_ a n c zs w hb hnc hcm ha h0
  have k2 := fun w hb => refGet_ a n c zs w hb hnc hcm
  obtain ⟨F, HF⟩ : ∃ b, Hid (qF zs = b) := ⟨_, rfl⟩
  obtain ⟨H, HH⟩ : ∃ b, Hid (qH zs = b) := ⟨_, rfl⟩
  obtain ⟨L, HL⟩ : ∃ b, Hid (qL zs = b) := ⟨_, rfl⟩
  obtain ⟨B, HBB⟩ : ∃ b, Hid (qB zs = b) := ⟨_, rfl⟩
  obtain ⟨N, HN⟩ : ∃ b, Hid (qN zs = b) := ⟨_, rfl⟩
  obtain ⟨E, HE⟩ : ∃ b, Hid (qE zs = b) := ⟨_, rfl⟩
  rw [HF.out, HH.out, HL.out, HBB.out, HN.out, HE.out] at k1 k2
  have hnn : (N == N) = true := by simp
  have hee : (E == E) = true := by simp
  have k3 := fun w => samePrefix_ F H L B F H L B w
  rw [spx_self] at k3
  unfold maxLen at hcm
  clear hb
  go_enter Tryz.func7, Tryz.ntmps7
  go_wp2_with fail
  refine (k0 _ HB.out).mono ?_
  rintro e w1 ⟨v, rfl, ho, g2⟩
  obtain ⟨pa', pc, rfl, pb, h1, h2, h3⟩ := own_form ho HBY.out
  replace B0 := bel_bel B0 B0.size g2
  clear g2 ho k0
  have h4 : 0 < w1.heap.size := Nat.lt_of_lt_of_le h0 B0.size
  go_wp2_with fail
  refine (k1 _ _ _ pb h1 h2 h3 h4).mono ?_
  rintro e w2 ⟨rfl, g2⟩
  replace B0 := bel_bel B0 B0.size g2
  clear g2 k1 pb
  have m0 := Pm.new w2 F H L B
  replace B0 := B0.alloc B0.size (.cells #[.int .i64 F, .int .u64 H, .int .u64 L, .int .i64 B] 26)
  go_wp2_with fail
  refine (k2 _ (HB.out.below B0)).mono ?_
  rintro e w3 ⟨rfl, g2⟩
  replace m0 := m0.kept g2
  replace B0 := bel_bel B0 B0.size g2
  clear g2 k2
  have m1 := Pm.new w3 F H L B
  replace m0 := m0.alloc (.cells #[.int .i64 F, .int .u64 H, .int .u64 L, .int .i64 B] 26)
  replace B0 := B0.alloc B0.size (.cells #[.int .i64 F, .int .u64 H, .int .u64 L, .int .i64 B] 26)
  have c0 := m0.c0
  have c1 := m0.c1
  have c2 := m0.c2
  have c3 := m0.c3
  have d0 := m1.c0
  have d1 := m1.c1
  have d2 := m1.c2
  have d3 := m1.c3
  go_wp2_with fail
  refine (k3 _).mono ?_
  rintro e w4 ⟨rfl, g2⟩
  replace B0 := bel_bel B0 B0.size g2
  clear g2 k3 c0 c1 c2 c3 d0 d1 d2 d3 m0 m1
  go_wp2_with fail
  refine (num7_ _ _).mono ?_
  rintro e w5 ⟨rfl, rfl⟩
  go_wp2_with fail
  refine (first_ _ (hT.kept B0)).mono ?_
  rintro e wz ⟨rfl, g2⟩
  replace B0 := bel_bel B0 B0.size g2
  clear g2
  go_wp2_with fail
  go_ret
  exact ⟨rfl, B0⟩
end Go.Proofs.YtknjokmoommdeaaGreatDoor
