import Derived.Test.YtajjilheellfeabDoorCodeS
namespace Go.Proofs.YtajjilheellfeabDoor
open Go.RowKit
set_option linter.unusedVariables false

theorem num6_ (x : Int) (w : World) : Calls Tryd.prog 18 #[.int .i64 x] w fun e w' => e = .returned (.int .i64 x) ∧ w' = w := by
  go_enter Tryd.func18, Tryd.ntmps18
  go_wp2
  go_ret
  exact ⟨rfl, rfl⟩
def tw : List Int := [0, 0, 0, 0, 0, 0, 0, 1, 0, 0, 0, 2]
theorem tw_byte : ∀ z ∈ tw, 0 ≤ z ∧ z ≤ 255 := by decide
theorem pt_tw : pt 1 2 = tw := by decide
set_option maxHeartbeats 400000 in
theorem twelve_ (w : World) : Calls Tryd.prog 22 #[] w fun e w' => ∃ g, e = .returned (.slice (some ⟨g, 0, none⟩) 12 12) ∧ Bs w' (some ⟨g, 0, none⟩) 12 tw ∧ Below w.heap.size w w' := by
  go_enter Tryd.func22, Tryd.ntmps22
  go_wp2_with fail
  go_ret
  exact ⟨_, rfl, Bs.new w tw 5 tw_byte, (Below.refl _ _).alloc (Nat.le_refl _) _⟩
def kt : List Nat := [49, 46, 48, 48, 48, 48, 48, 48, 48, 48, 50]
theorem kt_pr : pr 1 2 = kt := by
  unfold pr dgs dn
  have h1 : cnt 1 = 1 := by rw [cnt, dif_neg (by decide), cnt, dif_pos (by decide)]
  have h2 : cnt 2 = 1 := by rw [cnt, dif_neg (by decide), cnt, dif_pos (by decide)]
  rw [if_pos (by decide), show (1 : Int).toNat = 1 from rfl, show (2 : Int).toNat = 2 from rfl, h1, h2]
  decide
theorem kt_ok : pok kt = true := by
  have e1 : zs kt = 1 := by decide
  have e2 : zn kt = 2 := by decide
  unfold pok
  rw [e1, e2]
  exact decide_eq_true ⟨by decide, by decide, kt_pr⟩
theorem kt_x : xs kt = 1 ∧ xn kt = 2 ∧ xe kt = 0 := by
  have h := x_good kt_ok
  have e1 : zs kt = 1 := by decide
  have e2 : zn kt = 2 := by decide
  rw [e1, e2] at h
  exact ⟨h.1.symm, h.2.1.symm, h.2.2.symm⟩
theorem k2_x : xs [49, 46, 50] = 0 ∧ xn [49, 46, 50] = 0 ∧ xe [49, 46, 50] = 60 := by
  have hb : pok [49, 46, 50] = false := by
    cases h : pok [49, 46, 50] with
    | false => rfl
    | true => have := (pok_shape _ h).1; simp at this
  have h := x_bad hb
  exact ⟨h.1.symm, h.2.1.symm, h.2.2.symm⟩
theorem tw_q : qs tw = 1 ∧ qn tw = 2 ∧ qe tw = 0 := by decide
theorem kn_n : ns 1 2 = 1 ∧ nn 1 2 = 3 ∧ nok 1 2 = true := by decide
theorem InI.of {x : Int} (h : -1000 ≤ x ∧ x ≤ 1000) : InI x := by unfold InI; omega
set_option maxHeartbeats 2000000 in
theorem known_ (w : World) (hT : Tb w) : Calls Tryd.prog 7 #[] w fun e w' => e = .returned (.bool true) ∧ Below w.heap.size w w' := by
  have I1 : InI 1 := .of (by omega)
  have I2 : InI 2 := .of (by omega)
  have I3 : InI 3 := .of (by omega)
  have k1 := fun w => put_ 1 2 w I1 I2
  have k2 := fun w => print_ 1 2 w I1 I2
  have k3 := fun w => next_ 1 2 w I1 I2
  have k4 := fun a w hb => get_ a 12 12 tw w hb (by omega) (by unfold maxLen; omega)
  have k5 := fun w => parse_ kt w (by decide) (by unfold maxLen; decide)
  have k6 := fun w => parse_ [49, 46, 50] w (by decide) (by unfold maxLen; decide)
  have k7 := fun w => less_ 1 2 1 3 w I1 I2 I1 I3
  rw [pt_tw] at k1
  rw [kt_pr] at k2
  rw [kn_n.1, kn_n.2.1, kn_n.2.2] at k3
  rw [tw_q.1, tw_q.2.1, tw_q.2.2] at k4
  rw [kt_x.1, kt_x.2.1, kt_x.2.2] at k5
  rw [k2_x.1, k2_x.2.1, k2_x.2.2] at k6
  rw [show lss 1 2 1 3 = true from by decide] at k7
  have B0 := snew1 w 1 2
  have m0 := Sm.new w 1 2
  go_enter Tryd.func7, Tryd.ntmps7
  go_wp2_with fail
  refine (k1 _).mono ?_
  rintro e w1 ⟨v, rfl, ho, g2⟩
  obtain ⟨pa, pc, rfl, pb, _, _, _⟩ := own_form ho tw_byte
  replace m0 := m0.kept g2
  replace B0 := bel_bel B0 B0.size g2
  clear g2 ho k1
  have cm00 := m0.c0
  have cm01 := m0.c1
  go_wp2_with fail
  refine (k2 _ (hT.kept B0)).mono ?_
  rintro e w2 ⟨rfl, g2⟩
  clear cm00 cm01
  replace m0 := m0.kept g2
  replace pb := pb.below g2
  replace B0 := bel_bel B0 B0.size g2
  clear g2
  have cm00 := m0.c0
  have cm01 := m0.c1
  go_wp2_with fail
  refine (k3 _).mono ?_
  rintro e w3 ⟨rfl, g2⟩
  clear cm00 cm01
  replace m0 := m0.kept g2
  replace pb := pb.below g2
  replace B0 := bel_bel B0 B0.size g2
  clear g2
  have m0 := m0.alloc (.cells #[.int .i64 1, .int .i64 3] 23)
  have pb := pb.below ((Below.refl _ _).alloc (Nat.le_refl _) (.cells #[.int .i64 1, .int .i64 3] 23))
  have m4 := Sm.new w3 1 3
  have B0 := B0.alloc B0.size (.cells #[.int .i64 1, .int .i64 3] 23)
  have cm00 := m0.c0
  have cm01 := m0.c1
  have cm40 := m4.c0
  have cm41 := m4.c1
  go_wp2_with fail
  refine (twelve_ _).mono ?_
  rintro e w4 ⟨ga, rfl, gb, g2⟩
  clear cm00 cm01 cm40 cm41
  replace m0 := m0.kept g2
  replace m4 := m4.kept g2
  replace pb := pb.below g2
  replace B0 := bel_bel B0 B0.size g2
  clear g2
  have cm00 := m0.c0
  have cm01 := m0.c1
  have cm40 := m4.c0
  have cm41 := m4.c1
  go_wp2_with fail
  refine (k4 _ _ gb).mono ?_
  rintro e w5 ⟨rfl, g2⟩
  clear cm00 cm01 cm40 cm41
  replace m0 := m0.kept g2
  replace m4 := m4.kept g2
  replace pb := pb.below g2
  replace B0 := bel_bel B0 B0.size g2
  clear g2
  have m0 := m0.alloc (.cells #[.int .i64 1, .int .i64 2] 23)
  have m4 := m4.alloc (.cells #[.int .i64 1, .int .i64 2] 23)
  have pb := pb.below ((Below.refl _ _).alloc (Nat.le_refl _) (.cells #[.int .i64 1, .int .i64 2] 23))
  have m6 := Sm.new w5 1 2
  have B0 := B0.alloc B0.size (.cells #[.int .i64 1, .int .i64 2] 23)
  have cm00 := m0.c0
  have cm01 := m0.c1
  have cm40 := m4.c0
  have cm41 := m4.c1
  have cm60 := m6.c0
  have cm61 := m6.c1
  go_wp2_with fail
  refine (k5 _ (hT.kept B0)).mono ?_
  rintro e w6 ⟨rfl, g2⟩
  clear cm00 cm01 cm40 cm41 cm60 cm61
  replace m0 := m0.kept g2
  replace m4 := m4.kept g2
  replace m6 := m6.kept g2
  replace pb := pb.below g2
  replace B0 := bel_bel B0 B0.size g2
  clear g2
  have m0 := m0.alloc (.cells #[.int .i64 1, .int .i64 2] 23)
  have m4 := m4.alloc (.cells #[.int .i64 1, .int .i64 2] 23)
  have m6 := m6.alloc (.cells #[.int .i64 1, .int .i64 2] 23)
  have pb := pb.below ((Below.refl _ _).alloc (Nat.le_refl _) (.cells #[.int .i64 1, .int .i64 2] 23))
  have m8 := Sm.new w6 1 2
  have B0 := B0.alloc B0.size (.cells #[.int .i64 1, .int .i64 2] 23)
  have cm00 := m0.c0
  have cm01 := m0.c1
  have cm40 := m4.c0
  have cm41 := m4.c1
  have cm60 := m6.c0
  have cm61 := m6.c1
  have cm80 := m8.c0
  have cm81 := m8.c1
  go_wp2_with fail
  refine (k6 _ (hT.kept B0)).mono ?_
  rintro e w7 ⟨rfl, g2⟩
  clear cm00 cm01 cm40 cm41 cm60 cm61 cm80 cm81
  replace m0 := m0.kept g2
  replace m4 := m4.kept g2
  replace m6 := m6.kept g2
  replace m8 := m8.kept g2
  replace pb := pb.below g2
  replace B0 := bel_bel B0 B0.size g2
  clear g2
  have m0 := m0.alloc (.cells #[.int .i64 0, .int .i64 0] 23)
  have m4 := m4.alloc (.cells #[.int .i64 0, .int .i64 0] 23)
  have m6 := m6.alloc (.cells #[.int .i64 0, .int .i64 0] 23)
  have m8 := m8.alloc (.cells #[.int .i64 0, .int .i64 0] 23)
  have pb := pb.below ((Below.refl _ _).alloc (Nat.le_refl _) (.cells #[.int .i64 0, .int .i64 0] 23))
  have m10 := Sm.new w7 0 0
  have B0 := B0.alloc B0.size (.cells #[.int .i64 0, .int .i64 0] 23)
  have cm00 := m0.c0
  have cm01 := m0.c1
  have cm40 := m4.c0
  have cm41 := m4.c1
  have cm60 := m6.c0
  have cm61 := m6.c1
  have cm80 := m8.c0
  have cm81 := m8.c1
  have cm100 := m10.c0
  have cm101 := m10.c1
  go_wp2_with fail
  refine (twelve_ _).mono ?_
  rintro e w8 ⟨gc, rfl, gd, g2⟩
  clear cm00 cm01 cm40 cm41 cm60 cm61 cm80 cm81 cm100 cm101
  replace m0 := m0.kept g2
  replace m4 := m4.kept g2
  replace m6 := m6.kept g2
  replace m8 := m8.kept g2
  replace m10 := m10.kept g2
  replace pb := pb.below g2
  replace B0 := bel_bel B0 B0.size g2
  clear g2
  have cm00 := m0.c0
  have cm01 := m0.c1
  have cm40 := m4.c0
  have cm41 := m4.c1
  have cm60 := m6.c0
  have cm61 := m6.c1
  have cm80 := m8.c0
  have cm81 := m8.c1
  have cm100 := m10.c0
  have cm101 := m10.c1
  go_wp2_with fail
  refine (same_yes pa (some ⟨gc, 0, none⟩) _ pc _ 12 tw _ pb gd (by decide) (by omega)).mono ?_
  rintro e w9 ⟨rfl, D⟩
  have g2 := D.below
  clear cm00 cm01 cm40 cm41 cm60 cm61 cm80 cm81 cm100 cm101
  replace m0 := m0.kept g2
  replace m4 := m4.kept g2
  replace m6 := m6.kept g2
  replace m8 := m8.kept g2
  replace m10 := m10.kept g2
  replace pb := pb.below g2
  replace B0 := bel_bel B0 B0.size g2
  clear g2
  clear pb gb gd
  have cm00 := m0.c0
  have cm01 := m0.c1
  have cm40 := m4.c0
  have cm41 := m4.c1
  have cm60 := m6.c0
  have cm61 := m6.c1
  have cm80 := m8.c0
  have cm81 := m8.c1
  have cm100 := m10.c0
  have cm101 := m10.c1
  go_wp2_with fail
  refine (sameStamp_ 1 2 1 2 _).mono ?_
  rintro e w10 ⟨rfl, g2⟩
  clear cm00 cm01 cm40 cm41 cm60 cm61 cm80 cm81 cm100 cm101
  replace m0 := m0.kept g2
  replace m4 := m4.kept g2
  replace m6 := m6.kept g2
  replace m8 := m8.kept g2
  replace m10 := m10.kept g2
  replace B0 := bel_bel B0 B0.size g2
  clear g2
  have cm00 := m0.c0
  have cm01 := m0.c1
  have cm40 := m4.c0
  have cm41 := m4.c1
  have cm60 := m6.c0
  have cm61 := m6.c1
  have cm80 := m8.c0
  have cm81 := m8.c1
  have cm100 := m10.c0
  have cm101 := m10.c1
  go_wp2_with fail
  refine (sameStamp_ 1 2 1 2 _).mono ?_
  rintro e w11 ⟨rfl, g2⟩
  clear cm00 cm01 cm40 cm41 cm60 cm61 cm80 cm81 cm100 cm101
  replace m0 := m0.kept g2
  replace m4 := m4.kept g2
  replace m6 := m6.kept g2
  replace m8 := m8.kept g2
  replace m10 := m10.kept g2
  replace B0 := bel_bel B0 B0.size g2
  clear g2
  have cm00 := m0.c0
  have cm01 := m0.c1
  have cm40 := m4.c0
  have cm41 := m4.c1
  have cm60 := m6.c0
  have cm61 := m6.c1
  have cm80 := m8.c0
  have cm81 := m8.c1
  have cm100 := m10.c0
  have cm101 := m10.c1
  go_wp2_with fail
  refine (sameStamp_ 1 3 1 3 _).mono ?_
  rintro e w12 ⟨rfl, g2⟩
  clear cm00 cm01 cm40 cm41 cm60 cm61 cm80 cm81 cm100 cm101
  replace m0 := m0.kept g2
  replace m4 := m4.kept g2
  replace m6 := m6.kept g2
  replace m8 := m8.kept g2
  replace m10 := m10.kept g2
  replace B0 := bel_bel B0 B0.size g2
  clear g2
  have cm00 := m0.c0
  have cm01 := m0.c1
  have cm40 := m4.c0
  have cm41 := m4.c1
  have cm60 := m6.c0
  have cm61 := m6.c1
  have cm80 := m8.c0
  have cm81 := m8.c1
  have cm100 := m10.c0
  have cm101 := m10.c1
  go_wp2_with fail
  refine (k7 _).mono ?_
  rintro e w13 ⟨rfl, g2⟩
  clear cm00 cm01 cm40 cm41 cm60 cm61 cm80 cm81 cm100 cm101
  replace m0 := m0.kept g2
  replace m4 := m4.kept g2
  replace m6 := m6.kept g2
  replace m8 := m8.kept g2
  replace m10 := m10.kept g2
  replace B0 := bel_bel B0 B0.size g2
  clear g2
  have s1 : sme 1 2 1 2 = true := by decide
  have s2 : sme 1 3 1 3 = true := by decide
  have s3 : (sb kt).toList = [49, 46, 48, 48, 48, 48, 48, 48, 48, 48, 50] := by rw [toList_data]; rfl
  go_wp2_with fail
  refine (num6_ 0 _).mono ?_
  rintro e wx ⟨rfl, rfl⟩
  go_wp2_with fail
  refine (num6_ 0 _).mono ?_
  rintro e wy ⟨rfl, rfl⟩
  go_wp2_with fail
  refine (num6_ 60 _).mono ?_
  rintro e wz ⟨rfl, rfl⟩
  go_wp2_with fail
  go_ret
  exact ⟨rfl, B0⟩
end Go.Proofs.YtajjilheellfeabDoor
