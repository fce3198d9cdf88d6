import Derived.Test.YtknjokmoommdeabDoorP23
namespace Go.Proofs.YtknjokmoommdeabDoor
open Go.RowKit
set_option linter.unusedVariables false

/-- A prefix and an address that lie in memory. -/
theorem ppaanew (w : World) (F H L B F' H' L' B' FA HA LA FB HB LB : Int) :
    ∃ w4, w4 = ((((w.alloc (.cells #[.int .i64 F, .int .u64 H, .int .u64 L, .int .i64 B] 26)).alloc (.cells #[.int .i64 F', .int .u64 H', .int .u64 L', .int .i64 B'] 26)).alloc (.cells #[.int .i64 FA, .int .u64 HA, .int .u64 LA] 24)).alloc (.cells #[.int .i64 FB, .int .u64 HB, .int .u64 LB] 24)) ∧
      Below w.heap.size w w4 ∧ Pm w4 w.heap.size F H L B ∧ Pm w4 (w.heap.size + 1) F' H' L' B' ∧ Am w4 (w.heap.size + 2) FA HA LA ∧ Am w4 (w.heap.size + 3) FB HB LB := by
  obtain ⟨B0, m0, m1⟩ := ppnew w F H L B F' H' L' B'
  have s2 : ((w.alloc (.cells #[.int .i64 F, .int .u64 H, .int .u64 L, .int .i64 B] 26)).alloc (.cells #[.int .i64 F', .int .u64 H', .int .u64 L', .int .i64 B'] 26)).heap.size = w.heap.size + 2 := by simp only [World.size_alloc]
  have n2 := Am.new ((w.alloc (.cells #[.int .i64 F, .int .u64 H, .int .u64 L, .int .i64 B] 26)).alloc (.cells #[.int .i64 F', .int .u64 H', .int .u64 L', .int .i64 B'] 26)) FA HA LA
  have n3 := Am.new (((w.alloc (.cells #[.int .i64 F, .int .u64 H, .int .u64 L, .int .i64 B] 26)).alloc (.cells #[.int .i64 F', .int .u64 H', .int .u64 L', .int .i64 B'] 26)).alloc (.cells #[.int .i64 FA, .int .u64 HA, .int .u64 LA] 24)) FB HB LB
  rw [s2] at n2
  rw [show (((w.alloc (.cells #[.int .i64 F, .int .u64 H, .int .u64 L, .int .i64 B] 26)).alloc (.cells #[.int .i64 F', .int .u64 H', .int .u64 L', .int .i64 B'] 26)).alloc (.cells #[.int .i64 FA, .int .u64 HA, .int .u64 LA] 24)).heap.size = w.heap.size + 3 from by simp only [World.size_alloc]] at n3
  exact ⟨_, rfl, (B0.alloc B0.size _).alloc (B0.alloc B0.size _).size _, (m0.alloc _).alloc _, (m1.alloc _).alloc _, n2.alloc _, n3⟩
set_option maxHeartbeats 4000000 in
theorem prefixNests_ (F H L B F' H' L' B' FA HA LA FB HB LB : Int) (w : World) (hT : Tb w) (hF : InI F) (hH : InU H) (hL : InU L) (hB : InI B) (hF' : InI F') (hH' : InU H') (hL' : InU L') (hB' : InI B')
    (hFA : InI FA) (hHA : InU HA) (hLA : InU LA) (hFB : InI FB) (hHB : InU HB) (hLB : InU LB) :
    Calls Tryd.prog 3 #[.agg #[.int .i64 F, .int .u64 H, .int .u64 L, .int .i64 B], .agg #[.int .i64 F', .int .u64 H', .int .u64 L', .int .i64 B'], .agg #[.int .i64 FA, .int .u64 HA, .int .u64 LA], .agg #[.int .i64 FB, .int .u64 HB, .int .u64 LB]] w fun e w' => e = .returned (.bool true) ∧ Below w.heap.size w w' := by
  have k1 := fun w => holds_ F H L B FA HA LA w hF hH hL hB hFA hHA hLA
  have k2 := fun w => holds_ F' H' L' B' FA HA LA w hF' hH' hL' hB' hFA hHA hLA
  have k3 := fun w => holds_ F H L B FB HB LB w hF hH hL hB hFB hHB hLB
  have k4 := fun w => holds_ F' H' L' B' FB HB LB w hF' hH' hL' hB' hFB hHB hLB
  have n1 := fun h1 h2 hb h3 => ho_nest (F := F) (H := H) (L := L) (B := B) (F' := F') (H' := H') (L' := L') (B' := B') FA HA LA FB HB LB h1 h2 hb h3
  have n2 := fun h1 h2 hb h3 => ho_nest (F := F') (H := H') (L := L') (B := B') (F' := F) (H' := H) (L' := L) (B' := B) FA HA LA FB HB LB h1 h2 hb h3
  obtain ⟨pa, Ha⟩ : ∃ a, Hid (ho F H L B FA HA LA = a) := ⟨_, rfl⟩
  obtain ⟨qa, Hb⟩ : ∃ a, Hid (ho F' H' L' B' FA HA LA = a) := ⟨_, rfl⟩
  obtain ⟨pb, Hc⟩ : ∃ a, Hid (ho F H L B FB HB LB = a) := ⟨_, rfl⟩
  obtain ⟨qb, Hd⟩ : ∃ a, Hid (ho F' H' L' B' FB HB LB = a) := ⟨_, rfl⟩
  rw [Ha.out] at k1 n1 n2
  rw [Hb.out] at k2 n1 n2
  rw [Hc.out] at k3 n1 n2
  rw [Hd.out] at k4 n1 n2
  have N1 : Hid (pa = true → qa = true → B ≤ B' → qb = true → pb = true) := n1
  have N2 : Hid (pa = true → qa = true → B' ≤ B → pb = true → qb = true) := fun a b c d => n2 b a c d
  clear n1 n2
  obtain ⟨_, rfl, B0, m0, m1, m2, m3⟩ := ppaanew w F H L B F' H' L' B' FA HA LA FB HB LB
  go_enter Tryd.func3, Tryd.ntmps3
  go_wp2_with fail
  refine (first_ _ (hT.kept B0)).mono ?_
  rintro e w1 ⟨rfl, g2⟩
  replace m0 := m0.kept g2
  replace m1 := m1.kept g2
  replace m2 := m2.kept g2
  replace m3 := m3.kept g2
  replace B0 := bel_bel B0 B0.size g2
  clear g2
  have m0c0 := m0.c0
  have m0c1 := m0.c1
  have m0c2 := m0.c2
  have m0c3 := m0.c3
  have m1c0 := m1.c0
  have m1c1 := m1.c1
  have m1c2 := m1.c2
  have m1c3 := m1.c3
  have m2c0 := m2.c0
  have m2c1 := m2.c1
  have m2c2 := m2.c2
  have m3c0 := m3.c0
  have m3c1 := m3.c1
  have m3c2 := m3.c2
  go_wp2_with fail
  refine (k1 _).mono ?_
  rintro e w2 ⟨rfl, g2⟩
  clear m0c0 m0c1 m0c2 m0c3 m1c0 m1c1 m1c2 m1c3 m2c0 m2c1 m2c2 m3c0 m3c1 m3c2
  replace m0 := m0.kept g2
  replace m1 := m1.kept g2
  replace m2 := m2.kept g2
  replace m3 := m3.kept g2
  replace B0 := bel_bel B0 B0.size g2
  clear g2 k1
  have m0c0 := m0.c0
  have m0c1 := m0.c1
  have m0c2 := m0.c2
  have m0c3 := m0.c3
  have m1c0 := m1.c0
  have m1c1 := m1.c1
  have m1c2 := m1.c2
  have m1c3 := m1.c3
  have m2c0 := m2.c0
  have m2c1 := m2.c1
  have m2c2 := m2.c2
  have m3c0 := m3.c0
  have m3c1 := m3.c1
  have m3c2 := m3.c2
  go_wp2_with fail
  refine (k2 _).mono ?_
  rintro e w3 ⟨rfl, g2⟩
  clear m0c0 m0c1 m0c2 m0c3 m1c0 m1c1 m1c2 m1c3 m2c0 m2c1 m2c2 m3c0 m3c1 m3c2
  replace m0 := m0.kept g2
  replace m1 := m1.kept g2
  replace m2 := m2.kept g2
  replace m3 := m3.kept g2
  replace B0 := bel_bel B0 B0.size g2
  clear g2 k2
  have m0c0 := m0.c0
  have m0c1 := m0.c1
  have m0c2 := m0.c2
  have m0c3 := m0.c3
  have m1c0 := m1.c0
  have m1c1 := m1.c1
  have m1c2 := m1.c2
  have m1c3 := m1.c3
  have m2c0 := m2.c0
  have m2c1 := m2.c1
  have m2c2 := m2.c2
  have m3c0 := m3.c0
  have m3c1 := m3.c1
  have m3c2 := m3.c2
  go_wp2_with fail
  refine (k3 _).mono ?_
  rintro e w4 ⟨rfl, g2⟩
  clear m0c0 m0c1 m0c2 m0c3 m1c0 m1c1 m1c2 m1c3 m2c0 m2c1 m2c2 m3c0 m3c1 m3c2
  replace m0 := m0.kept g2
  replace m1 := m1.kept g2
  replace m2 := m2.kept g2
  replace m3 := m3.kept g2
  replace B0 := bel_bel B0 B0.size g2
  clear g2 k3
  have m0c0 := m0.c0
  have m0c1 := m0.c1
  have m0c2 := m0.c2
  have m0c3 := m0.c3
  have m1c0 := m1.c0
  have m1c1 := m1.c1
  have m1c2 := m1.c2
  have m1c3 := m1.c3
  have m2c0 := m2.c0
  have m2c1 := m2.c1
  have m2c2 := m2.c2
  have m3c0 := m3.c0
  have m3c1 := m3.c1
  have m3c2 := m3.c2
  go_wp2_with fail
  refine (k4 _).mono ?_
  rintro e w5 ⟨rfl, g2⟩
  clear m0c0 m0c1 m0c2 m0c3 m1c0 m1c1 m1c2 m1c3 m2c0 m2c1 m2c2 m3c0 m3c1 m3c2
  replace m0 := m0.kept g2
  replace m1 := m1.kept g2
  replace m2 := m2.kept g2
  replace m3 := m3.kept g2
  replace B0 := bel_bel B0 B0.size g2
  clear g2 k4
  have m0c0 := m0.c0
  have m0c1 := m0.c1
  have m0c2 := m0.c2
  have m0c3 := m0.c3
  have m1c0 := m1.c0
  have m1c1 := m1.c1
  have m1c2 := m1.c2
  have m1c3 := m1.c3
  have m2c0 := m2.c0
  have m2c1 := m2.c1
  have m2c2 := m2.c2
  have m3c0 := m3.c0
  have m3c1 := m3.c1
  have m3c2 := m3.c2
  cases pa
  · go_wp2_with fail
    go_ret
    exact ⟨rfl, B0⟩
  cases qa
  · go_wp2_with fail
    go_ret
    exact ⟨rfl, B0⟩
  by_cases hBB : B ≤ B'
  · cases qb
    · cases pb
      · go_wp2_with fail
        go_ret
        exact ⟨rfl, B0⟩
      · go_wp2_with fail
        go_ret
        exact ⟨rfl, B0⟩
    · obtain rfl : pb = true := N1.out rfl rfl hBB rfl
      go_wp2_with fail
      go_ret
      exact ⟨rfl, B0⟩
  · cases pb
    · cases qb
      · go_wp2_with fail
        go_ret
        exact ⟨rfl, B0⟩
      · go_wp2_with fail
        go_ret
        exact ⟨rfl, B0⟩
    · obtain rfl : qb = true := N2.out rfl rfl (by omega) rfl
      go_wp2_with fail
      go_ret
      exact ⟨rfl, B0⟩
end Go.Proofs.YtknjokmoommdeabDoor
