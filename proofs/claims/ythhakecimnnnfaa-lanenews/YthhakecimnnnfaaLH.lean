import Derived.Test.YthhakecimnnnfaaLG
namespace Go.Proofs.Ythhakecimnnnfaa
set_option maxRecDepth 100000
open Go.RowKit
set_option linter.unusedVariables false

set_option maxHeartbeats 4000000 in
/-- LaneNews. -/
theorem laneNews_ (ll : LL) (a : Option Addr) (m c : Nat) (k : List Int) (S : Int) (w : World) (hk : Bs w a m k) (hm : m ≤ maxLen) (hS : i64r S) :
    Calls Try.prog 6 #[.slice a m c, .int .i64 S] w fun e w' => e = .returned (.bool true) ∧ Below w.heap.size w w' := by
  have hkl : k.length = m := hk.1
  have HK := hid hk
  unfold maxLen at hm
  clear hk
  go_enter Try.func6, Try.ntmps6
  go_wp2_with fail
  refine (known_ ll w).mono ?_
  rintro e w1 ⟨rfl, g1⟩
  have HB1 : Hid (Bw w w1) := g1
  clear g1
  by_cases hl : m ≤ 4096
  case neg =>
    have hl2 : (4096 : Int) < m := by omega
    go_wp2_with fail
    go_ret
    exact ⟨rfl, HB1.out⟩
  have hl2 : ¬ (4096 : Int) < m := by omega
  have k1 := roomy_ a m c k 0 0 0 0 0 0 0 w1 (HK.out.below HB1.out) hl
  go_wp2_with fail
  refine k1.mono ?_
  rintro e y2 ⟨g, cap, rfl, r2, g2⟩
  have HL2 := hid (Lm.new y2 (some ⟨g, 0, none⟩) m cap 0 0 0 0 0 0 0)
  have HR2 := hid (r2.on (lnew y2 (some ⟨g, 0, none⟩) m cap 0 0 0 0 0 0 0))
  have HB2 : Hid (Bw w (y2.alloc (.cells #[.slice (some ⟨g, 0, none⟩) m cap, .int .i64 0, .int .i64 0, .int .i64 0, .int .u64 0, .int .u64 0, .int .i64 0, .int .i64 0] 27))) := (HB1.out.on g2).on (lnew y2 (some ⟨g, 0, none⟩) m cap 0 0 0 0 0 0 0)
  obtain ⟨w2, HW2⟩ : ∃ y, Hid (y2.alloc (.cells #[.slice (some ⟨g, 0, none⟩) m cap, .int .i64 0, .int .i64 0, .int .i64 0, .int .u64 0, .int .u64 0, .int .i64 0, .int .i64 0] 27) = y) := ⟨_, rfl⟩
  obtain ⟨p2, HP2⟩ : ∃ y, Hid (y2.heap.size = y) := ⟨_, rfl⟩
  rw [HW2.out] at HL2 HR2 HB2
  rw [HP2.out] at HL2
  clear k1 r2 g2 HB1
  go_upto_region 6 with fail
  rw [HW2.out, HP2.out]
  clear HW2 HP2
  have k2 := ll.new (some ⟨g, 0, none⟩) m cap k S w2 (HR2.out.key hkl) (by omega) hS
  have e0 := HL2.out.c0
  go_wp2_with fail
  refine k2.mono ?_
  intro e y3 h3
  obtain ⟨R, hR⟩ : ∃ R, newL k S = R := ⟨_, rfl⟩
  have k3 := fun wx (hb : Bw w wx) => dlc.new a m c k S wx (HK.out.below hb) (by omega) hS
  rw [hR] at h3
  simp only [hR] at k3
  clear k2 e0 hR
  obtain ⟨kR, SR, CR, NR, DR, ER, sR, nR⟩ := R
  obtain ⟨Ma, hMa⟩ : ∃ M, kR.length = M := ⟨_, rfl⟩
  obtain ⟨aa, ca, rfl, va, ga⟩ := h3.use rfl hMa
  have HL3 := hid (Lm.new y3 aa Ma ca SR CR NR DR ER sR nR)
  have HV3 := hid (va.step (w' := y3.alloc (.cells #[.slice aa Ma ca, .int .i64 SR, .int .i64 CR, .int .i64 NR, .int .u64 DR, .int .u64 ER, .int .i64 sR, .int .i64 nR] 27)) fun x hx _ _ => (lnew y3 aa Ma ca SR CR NR DR ER sR nR).block x hx)
  have HG3 : Hid (Bw w2 (y3.alloc (.cells #[.slice aa Ma ca, .int .i64 SR, .int .i64 CR, .int .i64 NR, .int .u64 DR, .int .u64 ER, .int .i64 sR, .int .i64 nR] 27))) := Bw.on ga (lnew y3 aa Ma ca SR CR NR DR ER sR nR)
  obtain ⟨w3, HW3⟩ : ∃ y, Hid (y3.alloc (.cells #[.slice aa Ma ca, .int .i64 SR, .int .i64 CR, .int .i64 NR, .int .u64 DR, .int .u64 ER, .int .i64 sR, .int .i64 nR] 27) = y) := ⟨_, rfl⟩
  obtain ⟨p3, HP3⟩ : ∃ y, Hid (y3.heap.size = y) := ⟨_, rfl⟩
  rw [HW3.out] at HL3 HV3 HG3
  rw [HP3.out] at HL3
  have HB3 : Hid (Bw w w3) := Bw.on HB2.out HG3.out
  replace HL2 := hid (HL2.out.kept HG3.out)
  replace HR2 := hid (HR2.out.on HG3.out)
  clear h3 va ga HG3 HB2
  go_upto_region 7 with fail
  rw [HW3.out, HP3.out]
  clear HW3 HP3
  have k4 := k3 w3 HB3.out
  go_wp2_with fail
  refine k4.mono ?_
  intro e y4 h4
  obtain ⟨ab, cb, rfl, vb, gb⟩ := h4.use rfl hMa
  have HL4 := hid (Lm.new y4 ab Ma cb SR CR NR DR ER sR nR)
  have HV4 := hid (vb.step (w' := y4.alloc (.cells #[.slice ab Ma cb, .int .i64 SR, .int .i64 CR, .int .i64 NR, .int .u64 DR, .int .u64 ER, .int .i64 sR, .int .i64 nR] 27)) fun x hx _ _ => (lnew y4 ab Ma cb SR CR NR DR ER sR nR).block x hx)
  have HG4 : Hid (Bw w3 (y4.alloc (.cells #[.slice ab Ma cb, .int .i64 SR, .int .i64 CR, .int .i64 NR, .int .u64 DR, .int .u64 ER, .int .i64 sR, .int .i64 nR] 27))) := Bw.on gb (lnew y4 ab Ma cb SR CR NR DR ER sR nR)
  obtain ⟨w4, HW4⟩ : ∃ y, Hid (y4.alloc (.cells #[.slice ab Ma cb, .int .i64 SR, .int .i64 CR, .int .i64 NR, .int .u64 DR, .int .u64 ER, .int .i64 sR, .int .i64 nR] 27) = y) := ⟨_, rfl⟩
  obtain ⟨p4, HP4⟩ : ∃ y, Hid (y4.heap.size = y) := ⟨_, rfl⟩
  rw [HW4.out] at HL4 HV4 HG4
  rw [HP4.out] at HL4
  have HB4 : Hid (Bw w w4) := Bw.on HB3.out HG4.out
  replace HL2 := hid (HL2.out.kept HG4.out)
  replace HR2 := hid (HR2.out.on HG4.out)
  replace HL3 := hid (HL3.out.kept HG4.out)
  replace HV3 := hid (HV3.out.step fun x hx _ _ => Below.block HG4.out x hx)
  clear k3 k4 h4 vb gb HG4 HB3
  go_upto_region 8 with fail
  rw [HW4.out, HP4.out]
  clear HW4 HP4
  have ks := sameLane_ aa ab Ma ca Ma cb kR kR SR CR NR DR ER sR nR SR CR NR DR ER sR nR w4 HV3.out.bs HV4.out.bs (Nat.le_trans HV3.out.nc HV3.out.cm) (Nat.le_trans HV4.out.nc HV4.out.cm)
  rw [show slE kR kR SR CR NR DR ER sR nR SR CR NR DR ER sR nR = true from by simp [slE]] at ks
  have e0 := HL3.out.c0
  have f0 := HL4.out.c0
  have e1 := HL3.out.c1
  have f1 := HL4.out.c1
  have e2 := HL3.out.c2
  have f2 := HL4.out.c2
  have e3 := HL3.out.c3
  have f3 := HL4.out.c3
  have e4 := HL3.out.c4
  have f4 := HL4.out.c4
  have e5 := HL3.out.c5
  have f5 := HL4.out.c5
  have e6 := HL3.out.c6
  have f6 := HL4.out.c6
  have e7 := HL3.out.c7
  have f7 := HL4.out.c7
  go_wp2_with fail
  refine ks.mono ?_
  rintro e w5 ⟨rfl, g5⟩
  have HB5 : Hid (Bw w w5) := HB4.out.on g5
  have HL5 := HL2.out.kept g5
  have HR5 := hid (HR2.out.on g5)
  clear ks g5 e0 f0 e1 f1 e2 f2 e3 f3 e4 f4 e5 f5 e6 f6 e7 f7
  have e0 := HL5.c0
  have e1 := HL5.c1
  have e2 := HL5.c2
  have e3 := HL5.c3
  have e4 := HL5.c4
  have e5 := HL5.c5
  have e6 := HL5.c6
  have e7 := HL5.c7
  have kt := stays_ a g m cap c k 0 0 0 0 0 0 0 0 0 0 0 0 0 0 w5 HR5.out (HK.out.below HB5.out) hl
  go_wp2_with fail
  refine kt.mono ?_
  rintro e w6 ⟨rfl, g6⟩
  have HB6 : Hid (Bw w w6) := HB5.out.on g6
  clear kt g6
  go_wp2_with fail
  go_ret
  exact ⟨rfl, HB6.out⟩
end Go.Proofs.Ythhakecimnnnfaa
