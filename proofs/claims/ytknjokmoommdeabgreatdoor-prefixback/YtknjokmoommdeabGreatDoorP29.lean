import Derived.Test.YtknjokmoommdeabGreatDoorP29a
namespace Go.Proofs.YtknjokmoommdeabGreatDoor
set_option maxRecDepth 100000
open Go.RowKit
set_option linter.unusedVariables false

set_option maxHeartbeats 8000000 in
theorem prefixBack_ (F H L B : Int) (a : Option Addr) (m c : Nat) (zs : List Int) (l : List Nat) (w : World) (hT : Tb w) (hF : InI F) (hH : InU H) (hL : InU L) (hB : InI B)
    (hb : Bs w a m zs) (hmc : m ≤ c) (hcm : c ≤ maxLen) (hm : m ≤ 140737488351232) (hy : ∀ x ∈ l, x < 256) (hn : l.length ≤ 140737488351232) (h0 : 0 < w.heap.size) :
    Calls Tryz.prog 4 #[.agg #[.int .i64 F, .int .u64 H, .int .u64 L, .int .i64 B], .slice a m c, .string (sb l)] w fun e w' => e = .returned (.bool true) ∧ Below w.heap.size w w' := by
  obtain ⟨i5, hi, hz0, hz1, hz2⟩ := info_parts info5
  have HT := hid hT
  have HB := hid hb
  have HZ := hid hb.2.1
  have hml := hb.1
  have k1 := fun w => put_ F H L B w hF hH hL hB
  have k2 := fun w hb => refBytes a m c zs w hb hm
  have k3 := fun w hT => parse_ l w hy (by omega) hT
  have k4 := fun a n c zs w hb hnc hcm ha h0 => get_ a n c zs w hb hnc hcm ha h0
  have HX := hid (pp_byte F H L B)
  have HW1 : Hid (vp F H L B = true → (0 < (pp F H L B).length ∧ (pp F H L B).length ≤ 18) ∧ gk (pp F H L B ++ zs) = true ∧ qF (pp F H L B ++ zs) = F ∧ qH (pp F H L B ++ zs) = H ∧ qL (pp F H L B ++ zs) = L ∧ qB (pp F H L B ++ zs) = B ∧ qN (pp F H L B ++ zs) = ((pp F H L B).length : Nat) ∧ qE (pp F H L B ++ zs) = 0) := fun hv => ⟨pp_lenp hv, gk_pp zs hv hH hL⟩
  have HW0 : Hid (vp F H L B = false → (pp F H L B).length = 0) := pp_len0
  have k5 := fun w hT => print_ F H L B w hF hH hL hB hT
  have HP1 : Hid (vp F H L B = true → ∀ w, Tb w → Calls Tryz.prog 8 #[.string (sb (tp F H L B))] w fun e w' => e = .returned (.tuple #[.agg #[.int .i64 F, .int .u64 H, .int .u64 L, .int .i64 B], .int .i64 0]) ∧ Below w.heap.size w w') := fun hv w hT => by
    obtain ⟨_, e1, e2, e3, e4, e5⟩ := pk_tp hv hH hL
    have := parse_ (tp F H L B) w (tp_lt7 F H L B) (Nat.le_trans (tp_len7 hv hH hL) (by decide)) hT
    rw [e1, e2, e3, e4, e5] at this
    exact this
  have k6 := fun w => samePrefix_ F H L B F H L B w
  rw [show spx F H L B F H L B = true from by unfold spx; simp] at k6
  have HG1 : Hid (gk zs = true → ∃ k : Nat, qN zs = k ∧ k ≤ m ∧ k ≤ 18 ∧ 0 < k ∧ qE zs = 0 ∧ ∀ w, Calls Tryz.prog 14 #[.agg #[.int .i64 (qF zs), .int .u64 (qH zs), .int .u64 (qL zs), .int .i64 (qB zs)]] w fun e w' => ∃ v, e = .returned v ∧ w'.ownsRow w.heap.size 5 1 v (zs.take k).length (cells (zs.take k)) ∧ Below w.heap.size w w') := fun hg => by
    obtain ⟨k, e1, e2, e3, e4, e5, e6⟩ := gk_put HZ.out hg
    obtain ⟨_, i1, i2, i3, i4⟩ := gk_in HZ.out hg
    refine ⟨k, e1, by omega, e3, e4, e6, fun w => ?_⟩
    have := put_ (qF zs) (qH zs) (qL zs) (qB zs) w i1 i2 i3 i4
    rw [e5] at this
    exact this
  have HG0 : Hid (gk zs = false → qE zs = 70) := fun h => (q7_bad h).2.2.2.2.2
  have HR1 : Hid (pk l = true → rE l = 0 ∧ ∀ w, Tb w → Calls Tryz.prog 17 #[.agg #[.int .i64 (rF l), .int .u64 (rH l), .int .u64 (rL l), .int .i64 (rB l)]] w fun e w' => e = .returned (.string (sb l)) ∧ Below w.heap.size w w') := fun h => by
    obtain ⟨i1, i2, i3, i4, e5, e6⟩ := pk_in h
    refine ⟨e6, fun w hT => ?_⟩
    have := print_ (rF l) (rH l) (rL l) (rB l) w i1 i2 i3 i4 hT
    rw [e5] at this
    exact this
  have HR0 : Hid (pk l = false → rE l = 70) := fun h => (r_bad h).2.2.2.2.symm
  have HV1 := hid (Bool.eq_false_or_eq_true (vp F H L B))
  have HV2 := hid (Bool.eq_false_or_eq_true (gk zs))
  have HV3 := hid (Bool.eq_false_or_eq_true (pk l))
  obtain ⟨QF, eF⟩ : ∃ b, Hid (qF zs = b) := ⟨_, rfl⟩
  obtain ⟨QH, eH⟩ : ∃ b, Hid (qH zs = b) := ⟨_, rfl⟩
  obtain ⟨QL, eL⟩ : ∃ b, Hid (qL zs = b) := ⟨_, rfl⟩
  obtain ⟨QB, eB⟩ : ∃ b, Hid (qB zs = b) := ⟨_, rfl⟩
  obtain ⟨QN, eN⟩ : ∃ b, Hid (qN zs = b) := ⟨_, rfl⟩
  obtain ⟨QE, eE⟩ : ∃ b, Hid (qE zs = b) := ⟨_, rfl⟩
  have k7 := fun a c w hb hnc hcm ha h0 => get_ a m c zs w hb hnc hcm ha h0
  rw [eF.out, eH.out, eL.out, eB.out, eN.out, eE.out] at k7
  rw [eF.out, eH.out, eL.out, eB.out, eN.out, eE.out] at HG1
  rw [eE.out] at HG0
  obtain ⟨RF, fF⟩ : ∃ b, Hid (rF l = b) := ⟨_, rfl⟩
  obtain ⟨RH, fH⟩ : ∃ b, Hid (rH l = b) := ⟨_, rfl⟩
  obtain ⟨RL, fL⟩ : ∃ b, Hid (rL l = b) := ⟨_, rfl⟩
  obtain ⟨RB, fB⟩ : ∃ b, Hid (rB l = b) := ⟨_, rfl⟩
  obtain ⟨RE, fE⟩ : ∃ b, Hid (rE l = b) := ⟨_, rfl⟩
  rw [fF.out, fH.out, fL.out, fB.out, fE.out] at k3
  rw [fF.out, fH.out, fL.out, fB.out, fE.out] at HR1
  rw [fE.out] at HR0
  obtain ⟨tv, eT⟩ : ∃ b, Hid (sb l = b) := ⟨_, rfl⟩
  rw [eT.out] at k3 HR1 ⊢
  have htt : (tv.toList == tv.toList) = true := by simp
  clear eF eH eL eB eN eE fF fH fL fB fE hF hH hL hB hT hb hy eT
  generalize pp F H L B = X at *
  generalize tp F H L B = T at *
  have B0 := pnew w F H L B
  have m0 := Pm.new w F H L B
  go_enter Tryz.func4, Tryz.ntmps4
  go_wp2_with fail
  refine (first_ _ (HT.out.kept B0)).mono ?_
  rintro e w1 ⟨rfl, g2⟩
  replace m0 := m0.kept g2
  replace B0 := bel_bel B0 B0.size g2
  clear g2
  have m0c0 := m0.c0
  have m0c1 := m0.c1
  have m0c2 := m0.c2
  have m0c3 := m0.c3
  go_wp2_with fail
  refine (k1 _).mono ?_
  rintro e w2 ⟨v, rfl, ho, g2⟩
  obtain ⟨xa', xc, rfl, xb', hxc, hxm, hxn⟩ := own_form ho HX.out
  clear m0c0 m0c1 m0c2 m0c3
  replace m0 := m0.kept g2
  replace B0 := bel_bel B0 B0.size g2
  clear g2 k1 ho
  unfold maxLen at hxm
  generalize LX : X.length = n at *
  have LX' := hid LX
  clear LX
  rcases HV1.out with hv | hv
  · obtain ⟨⟨hn0, hn18⟩, _, q1, q2, q3, q4, q5, q6⟩ := HW1.out hv
    have hnI : (0 : Int) < n := by omega
    have hnn : ((n : Int) == (n : Int)) = true := by simp
    have k8 := HP1.out hv
    have k9 := fun a c w hb hnc hcm ha h0 => get_ a (n + m) c (X ++ zs) w hb hnc hcm ha h0
    rw [q1, q2, q3, q4, q5, q6] at k9
    have HXZ : Hid (∀ z ∈ X ++ zs, 0 ≤ z ∧ z ≤ 255) := fun z hz => by
      rcases List.mem_append.1 hz with h | h
      · exact HX.out z h
      · exact HZ.out z h
    clear HW1 HW0 HV1 HP1 q1 q2 q3 q4 q5 q6 k4
    have XB := hid xb'
    have hl2 := m0.lt
    clear xb'
    go_wp2_with fail
    refine (refBytes xa' n xc X _ XB.out (by omega)).mono ?_
    rintro e w3 ⟨v, rfl, ho, g2⟩
    have hw23 := g2.size
    replace m0 := m0.kept g2
    replace B0 := bel_bel B0 B0.size g2
    clear g2 XB
    have HB3 := hid (HB.out.below B0)
    have HO := hid ho
    have HBE := hid B0
    go_wp2_with (at_builtin; refine wpList_app7 rfl _ _ rfl w2.heap.size v n X rfl HO.out hn0 a m c zs rfl HB3.out (by omega) hw23 ?_)
    intro v' w4 hown hgrow
    have g4 : Below w2.heap.size w3 w4 := (Below.refl _ _).grown hgrow hw23 fun q hq => (HO.out.lt q hq).1
    replace m0 := m0.at (g4.block _ (by omega))
    replace B0 := B0.trans (g4.mono (by omega))
    obtain ⟨ga, gc, rfl, gb, y1, y2, y3⟩ := own_form hown HXZ.out
    clear g4 hgrow hown HO HBE HB3 ho HXZ
    have hpos := Nat.lt_of_lt_of_le h0 B0.size
    go_wp2_with fail
    refine (k9 _ _ _ gb y1 y2 y3 hpos).mono ?_
    rintro e w5 ⟨rfl, g2⟩
    replace m0 := m0.kept g2
    replace B0 := bel_bel B0 B0.size g2
    clear g2 gb k9 hpos y1 y2 y3
    have m1 := Pm.new w5 F H L B
    replace m0 := m0.alloc (.cells #[.int .i64 F, .int .u64 H, .int .u64 L, .int .i64 B] 31)
    replace B0 := B0.alloc B0.size (.cells #[.int .i64 F, .int .u64 H, .int .u64 L, .int .i64 B] 31)
    have m0c0 := m0.c0
    have m0c1 := m0.c1
    have m0c2 := m0.c2
    have m0c3 := m0.c3
    have m1c0 := m1.c0
    have m1c1 := m1.c1
    have m1c2 := m1.c2
    have m1c3 := m1.c3
    go_wp2_with fail
    refine (k6 _).mono ?_
    rintro e w6 ⟨rfl, g2⟩
    clear m0c0 m0c1 m0c2 m0c3 m1c0 m1c1 m1c2 m1c3
    replace m0 := m0.kept g2
    replace B0 := bel_bel B0 B0.size g2
    clear g2 m1
    have m0c0 := m0.c0
    have m0c1 := m0.c1
    have m0c2 := m0.c2
    have m0c3 := m0.c3
    go_wp2_with fail
    refine (k5 _ (HT.out.kept B0)).mono ?_
    rintro e w7 ⟨rfl, g2⟩
    clear m0c0 m0c1 m0c2 m0c3
    replace m0 := m0.kept g2
    replace B0 := bel_bel B0 B0.size g2
    clear g2 k5
    go_wp2_with fail
    refine (k8 _ (HT.out.kept B0)).mono ?_
    rintro e w8 ⟨rfl, g2⟩
    replace m0 := m0.kept g2
    replace B0 := bel_bel B0 B0.size g2
    clear g2 k8
    have m2 := Pm.new w8 F H L B
    replace m0 := m0.alloc (.cells #[.int .i64 F, .int .u64 H, .int .u64 L, .int .i64 B] 31)
    replace B0 := B0.alloc B0.size (.cells #[.int .i64 F, .int .u64 H, .int .u64 L, .int .i64 B] 31)
    have m0c0 := m0.c0
    have m0c1 := m0.c1
    have m0c2 := m0.c2
    have m0c3 := m0.c3
    have m2c0 := m2.c0
    have m2c1 := m2.c1
    have m2c2 := m2.c2
    have m2c3 := m2.c3
    go_wp2_with fail
    refine (k6 _).mono ?_
    rintro e w9 ⟨rfl, g2⟩
    clear m0c0 m0c1 m0c2 m0c3 m2c0 m2c1 m2c2 m2c3
    replace m0 := m0.kept g2
    replace B0 := bel_bel B0 B0.size g2
    clear g2 m2 k6
    go_wp2_with fail
    refine (num7_ _ _).mono ?_
    rintro e w10 ⟨rfl, rfl⟩
    go_wp2_with fail
    refine (num7_ _ _).mono ?_
    rintro e w11 ⟨rfl, rfl⟩
    go_wp2_with fail
    refine (k2 _ (HB.out.below B0)).mono ?_
    rintro e wa ⟨v, rfl, ho, g2⟩
    obtain ⟨ya, yc, rfl, yb, y1, y2, y3⟩ := own_form ho HZ.out
    replace B0 := bel_bel B0 B0.size g2
    clear g2 ho k2
    have hpos := Nat.lt_of_lt_of_le h0 B0.size
    go_wp2_with fail
    refine (k7 _ _ _ yb y1 y2 y3 hpos).mono ?_
    rintro e wb ⟨rfl, g2⟩
    replace B0 := bel_bel B0 B0.size g2
    clear g2 yb k7 hpos y1 y2 y3
    have m3 := Pm.new wb QF QH QL QB
    replace B0 := B0.alloc B0.size (.cells #[.int .i64 QF, .int .u64 QH, .int .u64 QL, .int .i64 QB] 31)
    go_wp2_with fail
    refine (num7_ _ _).mono ?_
    rintro e wc ⟨rfl, rfl⟩
    rcases HV2.out with hg | hg
    · obtain ⟨k, rfl, hkm, hk18, hk0, rfl, kp⟩ := HG1.out hg
      have htl : (zs.take k).length = k := by rw [List.length_take]; omega
      rw [htl] at kp
      have HTB : Hid (∀ z ∈ zs.take k, 0 ≤ z ∧ z ≤ 255) := fun z hz => HZ.out z (List.mem_of_mem_take hz)
      have hkI : (k : Int) ≤ m := by omega
      have m3c0 := m3.c0
      have m3c1 := m3.c1
      have m3c2 := m3.c2
      have m3c3 := m3.c3
      go_wp2_with fail
      refine (kp _).mono ?_
      rintro e wd ⟨v, rfl, ho, g2⟩
      obtain ⟨za, zc, rfl, zb, _, _, _⟩ := own_form ho HTB.out
      clear m3c0 m3c1 m3c2 m3c3
      replace B0 := bel_bel B0 B0.size g2
      clear g2 ho kp m3
      have hcut := (HB.out.below B0).cut hkm
      have k10 := same_yes za a k zc k c (zs.take k) wd zb hcut (by omega) (by omega)
      have K10 := hid k10
      clear k10 hcut zb
      go_wp2_with fail
      refine K10.out.mono ?_
      rintro e wq ⟨rfl, dr⟩
      replace B0 := bel_bel B0 B0.size dr.below
      clear dr K10
      go_wp2_with fail
      refine (k3 _ (HT.out.kept B0)).mono ?_
      rintro e we ⟨rfl, g2⟩
      replace B0 := bel_bel B0 B0.size g2
      clear g2 k3
      have m4 := Pm.new we RF RH RL RB
      replace B0 := B0.alloc B0.size (.cells #[.int .i64 RF, .int .u64 RH, .int .u64 RL, .int .i64 RB] 31)
      go_wp2_with fail
      refine (num7_ _ _).mono ?_
      rintro e wf ⟨rfl, rfl⟩
      rcases HV3.out with hp | hp
      · obtain ⟨rfl, kq⟩ := HR1.out hp
        have m4c0 := m4.c0
        have m4c1 := m4.c1
        have m4c2 := m4.c2
        have m4c3 := m4.c3
        go_wp2_with fail
        refine (kq _ (HT.out.kept B0)).mono ?_
        rintro e wg ⟨rfl, g2⟩
        clear m4c0 m4c1 m4c2 m4c3
        replace B0 := bel_bel B0 B0.size g2
        clear g2 kq
        go_wp2_with fail
        go_ret
        exact ⟨rfl, B0⟩
      · obtain rfl : RE = 70 := HR0.out hp
        go_wp2_with fail
        go_ret
        exact ⟨rfl, B0⟩
    · obtain rfl : QE = 70 := HG0.out hg
      clear HG0 HG1
      go_wp2_with fail
      refine (k3 _ (HT.out.kept B0)).mono ?_
      rintro e we ⟨rfl, g2⟩
      replace B0 := bel_bel B0 B0.size g2
      clear g2 k3
      have m4 := Pm.new we RF RH RL RB
      replace B0 := B0.alloc B0.size (.cells #[.int .i64 RF, .int .u64 RH, .int .u64 RL, .int .i64 RB] 31)
      go_wp2_with fail
      refine (num7_ _ _).mono ?_
      rintro e wf ⟨rfl, rfl⟩
      rcases HV3.out with hp | hp
      · obtain ⟨rfl, kq⟩ := HR1.out hp
        have m4c0 := m4.c0
        have m4c1 := m4.c1
        have m4c2 := m4.c2
        have m4c3 := m4.c3
        go_wp2_with fail
        refine (kq _ (HT.out.kept B0)).mono ?_
        rintro e wg ⟨rfl, g2⟩
        clear m4c0 m4c1 m4c2 m4c3
        replace B0 := bel_bel B0 B0.size g2
        clear g2 kq
        go_wp2_with fail
        go_ret
        exact ⟨rfl, B0⟩
      · obtain rfl : RE = 70 := HR0.out hp
        go_wp2_with fail
        go_ret
        exact ⟨rfl, B0⟩
  · obtain rfl : n = 0 := HW0.out hv
    clear HW1 HW0 HV1 HP1 k4 k5 k6
    go_wp2_with fail
    refine (k2 _ (HB.out.below B0)).mono ?_
    rintro e wa ⟨v, rfl, ho, g2⟩
    obtain ⟨ya, yc, rfl, yb, y1, y2, y3⟩ := own_form ho HZ.out
    replace B0 := bel_bel B0 B0.size g2
    clear g2 ho k2
    have hpos := Nat.lt_of_lt_of_le h0 B0.size
    go_wp2_with fail
    refine (k7 _ _ _ yb y1 y2 y3 hpos).mono ?_
    rintro e wb ⟨rfl, g2⟩
    replace B0 := bel_bel B0 B0.size g2
    clear g2 yb k7 hpos y1 y2 y3
    have m3 := Pm.new wb QF QH QL QB
    replace B0 := B0.alloc B0.size (.cells #[.int .i64 QF, .int .u64 QH, .int .u64 QL, .int .i64 QB] 31)
    go_wp2_with fail
    refine (num7_ _ _).mono ?_
    rintro e wc ⟨rfl, rfl⟩
    rcases HV2.out with hg | hg
    · obtain ⟨k, rfl, hkm, hk18, hk0, rfl, kp⟩ := HG1.out hg
      have htl : (zs.take k).length = k := by rw [List.length_take]; omega
      rw [htl] at kp
      have HTB : Hid (∀ z ∈ zs.take k, 0 ≤ z ∧ z ≤ 255) := fun z hz => HZ.out z (List.mem_of_mem_take hz)
      have hkI : (k : Int) ≤ m := by omega
      have m3c0 := m3.c0
      have m3c1 := m3.c1
      have m3c2 := m3.c2
      have m3c3 := m3.c3
      go_wp2_with fail
      refine (kp _).mono ?_
      rintro e wd ⟨v, rfl, ho, g2⟩
      obtain ⟨za, zc, rfl, zb, _, _, _⟩ := own_form ho HTB.out
      clear m3c0 m3c1 m3c2 m3c3
      replace B0 := bel_bel B0 B0.size g2
      clear g2 ho kp m3
      have hcut := (HB.out.below B0).cut hkm
      have k10 := same_yes za a k zc k c (zs.take k) wd zb hcut (by omega) (by omega)
      have K10 := hid k10
      clear k10 hcut zb
      go_wp2_with fail
      refine K10.out.mono ?_
      rintro e wq ⟨rfl, dr⟩
      replace B0 := bel_bel B0 B0.size dr.below
      clear dr K10
      go_wp2_with fail
      refine (k3 _ (HT.out.kept B0)).mono ?_
      rintro e we ⟨rfl, g2⟩
      replace B0 := bel_bel B0 B0.size g2
      clear g2 k3
      have m4 := Pm.new we RF RH RL RB
      replace B0 := B0.alloc B0.size (.cells #[.int .i64 RF, .int .u64 RH, .int .u64 RL, .int .i64 RB] 31)
      go_wp2_with fail
      refine (num7_ _ _).mono ?_
      rintro e wf ⟨rfl, rfl⟩
      rcases HV3.out with hp | hp
      · obtain ⟨rfl, kq⟩ := HR1.out hp
        have m4c0 := m4.c0
        have m4c1 := m4.c1
        have m4c2 := m4.c2
        have m4c3 := m4.c3
        go_wp2_with fail
        refine (kq _ (HT.out.kept B0)).mono ?_
        rintro e wg ⟨rfl, g2⟩
        clear m4c0 m4c1 m4c2 m4c3
        replace B0 := bel_bel B0 B0.size g2
        clear g2 kq
        go_wp2_with fail
        go_ret
        exact ⟨rfl, B0⟩
      · obtain rfl : RE = 70 := HR0.out hp
        go_wp2_with fail
        go_ret
        exact ⟨rfl, B0⟩
    · obtain rfl : QE = 70 := HG0.out hg
      clear HG0 HG1
      go_wp2_with fail
      refine (k3 _ (HT.out.kept B0)).mono ?_
      rintro e we ⟨rfl, g2⟩
      replace B0 := bel_bel B0 B0.size g2
      clear g2 k3
      have m4 := Pm.new we RF RH RL RB
      replace B0 := B0.alloc B0.size (.cells #[.int .i64 RF, .int .u64 RH, .int .u64 RL, .int .i64 RB] 31)
      go_wp2_with fail
      refine (num7_ _ _).mono ?_
      rintro e wf ⟨rfl, rfl⟩
      rcases HV3.out with hp | hp
      · obtain ⟨rfl, kq⟩ := HR1.out hp
        have m4c0 := m4.c0
        have m4c1 := m4.c1
        have m4c2 := m4.c2
        have m4c3 := m4.c3
        go_wp2_with fail
        refine (kq _ (HT.out.kept B0)).mono ?_
        rintro e wg ⟨rfl, g2⟩
        clear m4c0 m4c1 m4c2 m4c3
        replace B0 := bel_bel B0 B0.size g2
        clear g2 kq
        go_wp2_with fail
        go_ret
        exact ⟨rfl, B0⟩
      · obtain rfl : RE = 70 := HR0.out hp
        go_wp2_with fail
        go_ret
        exact ⟨rfl, B0⟩
end Go.Proofs.YtknjokmoommdeabGreatDoor
