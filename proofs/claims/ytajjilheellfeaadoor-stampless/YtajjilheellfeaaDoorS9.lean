import Derived.Test.YtajjilheellfeaaDoorS8
namespace Go.Proofs.YtajjilheellfeaaDoor
open Go.RowKit
set_option linter.unusedVariables false

set_option maxHeartbeats 1000000 in
theorem stampValids_ (s n : Int) (w : World) (hT : Tb w) (hs : InI s) (hn : InI n) :
    Calls Tryd.prog 3 #[.agg #[.int .i64 s, .int .i64 n]] w fun e w' => e = .returned (.bool true) ∧ Below w.heap.size w w' := by
  have k1 := fun w => valid_ s n w hs hn
  have k2 := fun w => refValid_ s n w
  obtain ⟨b, Hb⟩ : ∃ b, Hid (vld s n = b) := ⟨_, rfl⟩
  rw [Hb.out] at k1 k2
  have hbb : (b == b) = true := by simp
  have B0 := snew1 w s n
  have m0 := Sm.new w s n
  go_enter Tryd.func3, Tryd.ntmps3
  go_wp2_with fail
  refine (known_ _ (hT.kept B0)).mono ?_
  rintro e w1 ⟨rfl, g2⟩
  replace m0 := m0.kept g2
  replace B0 := bel_bel B0 B0.size g2
  clear g2
  have c0 := m0.c0
  have c1 := m0.c1
  go_wp2_with fail
  refine (k1 _).mono ?_
  rintro e w2 ⟨rfl, g2⟩
  replace m0 := m0.kept g2
  replace B0 := bel_bel B0 B0.size g2
  clear g2 c0 c1
  have c0 := m0.c0
  have c1 := m0.c1
  go_wp2_with fail
  refine (k2 _).mono ?_
  rintro e w3 ⟨rfl, g2⟩
  replace B0 := bel_bel B0 B0.size g2
  clear g2 c0 c1 k1 k2
  go_wp2_with fail
  go_ret
  exact ⟨rfl, B0⟩
set_option maxHeartbeats 1000000 in
theorem stampLess_ (s n s' n' : Int) (w : World) (hT : Tb w) (hs : InI s) (hn : InI n) (hs' : InI s') (hn' : InI n') :
    Calls Tryd.prog 4 #[.agg #[.int .i64 s, .int .i64 n], .agg #[.int .i64 s', .int .i64 n']] w fun e w' => e = .returned (.bool true) ∧ Below w.heap.size w w' := by
  have k1 := fun w => less_ s n s' n' w hs hn hs' hn'
  have k2 := fun w => refLess_ s n s' n' w
  have k3 := fun w => less_ s' n' s n w hs' hn' hs hn
  have k4 := fun w => refLess_ s' n' s n w
  obtain ⟨b, Hb⟩ : ∃ b, Hid (lss s n s' n' = b) := ⟨_, rfl⟩
  obtain ⟨d, Hd⟩ : ∃ b, Hid (lss s' n' s n = b) := ⟨_, rfl⟩
  rw [Hb.out] at k1 k2
  rw [Hd.out] at k3 k4
  have hbb : (b == b) = true := by simp
  have hdd : (d == d) = true := by simp
  have B0 := snew2 w s n s' n'
  obtain ⟨m0, m1⟩ := snew3 w s n s' n'
  go_enter Tryd.func4, Tryd.ntmps4
  go_wp2_with fail
  refine (known_ _ (hT.kept B0)).mono ?_
  rintro e w1 ⟨rfl, g2⟩
  replace m0 := m0.kept g2
  replace m1 := m1.kept g2
  replace B0 := bel_bel B0 B0.size g2
  clear g2
  have cm00 := m0.c0
  have cm01 := m0.c1
  have cm10 := m1.c0
  have cm11 := m1.c1
  go_wp2_with fail
  refine (k1 _).mono ?_
  rintro e w2 ⟨rfl, g2⟩
  clear cm00 cm01 cm10 cm11
  replace m0 := m0.kept g2
  replace m1 := m1.kept g2
  replace B0 := bel_bel B0 B0.size g2
  clear g2
  have cm00 := m0.c0
  have cm01 := m0.c1
  have cm10 := m1.c0
  have cm11 := m1.c1
  go_wp2_with fail
  refine (k2 _).mono ?_
  rintro e w3 ⟨rfl, g2⟩
  clear cm00 cm01 cm10 cm11
  replace m0 := m0.kept g2
  replace m1 := m1.kept g2
  replace B0 := bel_bel B0 B0.size g2
  clear g2
  have cm00 := m0.c0
  have cm01 := m0.c1
  have cm10 := m1.c0
  have cm11 := m1.c1
  go_wp2_with fail
  refine (k3 _).mono ?_
  rintro e w4 ⟨rfl, g2⟩
  clear cm00 cm01 cm10 cm11
  replace m0 := m0.kept g2
  replace m1 := m1.kept g2
  replace B0 := bel_bel B0 B0.size g2
  clear g2
  have cm00 := m0.c0
  have cm01 := m0.c1
  have cm10 := m1.c0
  have cm11 := m1.c1
  go_wp2_with fail
  refine (k4 _).mono ?_
  rintro e w5 ⟨rfl, g2⟩
  clear cm00 cm01 cm10 cm11
  replace m0 := m0.kept g2
  replace m1 := m1.kept g2
  replace B0 := bel_bel B0 B0.size g2
  clear g2
  clear k1 k2 k3 k4
  go_wp2_with fail
  go_ret
  exact ⟨rfl, B0⟩
theorem sme_self (s n : Int) : sme s n s n = true := decide_eq_true ⟨rfl, rfl⟩
set_option maxHeartbeats 1000000 in
theorem stampNexts_ (s n : Int) (w : World) (hT : Tb w) (hs : InI s) (hn : InI n) :
    Calls Tryd.prog 5 #[.agg #[.int .i64 s, .int .i64 n]] w fun e w' => e = .returned (.bool true) ∧ Below w.heap.size w w' := by
  have k1 := fun w => next_ s n w hs hn
  have k2 := fun w => refNext_ s n w hs hn
  obtain ⟨b, Hb⟩ : ∃ b, Hid (nok s n = b) := ⟨_, rfl⟩
  obtain ⟨x, Hx⟩ : ∃ b, Hid (ns s n = b) := ⟨_, rfl⟩
  obtain ⟨y, Hy⟩ : ∃ b, Hid (nn s n = b) := ⟨_, rfl⟩
  rw [Hb.out, Hx.out, Hy.out] at k1 k2
  have hbb : (b == b) = true := by simp
  have k3 := fun w => sameStamp_ x y x y w
  rw [sme_self] at k3
  have B0 := snew1 w s n
  have m0 := Sm.new w s n
  go_enter Tryd.func5, Tryd.ntmps5
  go_wp2_with fail
  refine (known_ _ (hT.kept B0)).mono ?_
  rintro e w1 ⟨rfl, g2⟩
  replace m0 := m0.kept g2
  replace B0 := bel_bel B0 B0.size g2
  clear g2
  have cm00 := m0.c0
  have cm01 := m0.c1
  go_wp2_with fail
  refine (k1 _).mono ?_
  rintro e w2 ⟨rfl, g2⟩
  clear cm00 cm01
  replace m0 := m0.kept g2
  replace B0 := bel_bel B0 B0.size g2
  clear g2
  have m0 := m0.alloc (.cells #[.int .i64 x, .int .i64 y] 23)
  have m1 := Sm.new w2 x y
  have B0 := B0.alloc B0.size (.cells #[.int .i64 x, .int .i64 y] 23)
  have cm00 := m0.c0
  have cm01 := m0.c1
  have cm10 := m1.c0
  have cm11 := m1.c1
  go_wp2_with fail
  refine (k2 _).mono ?_
  rintro e w3 ⟨rfl, g2⟩
  clear cm00 cm01 cm10 cm11
  replace m0 := m0.kept g2
  replace m1 := m1.kept g2
  replace B0 := bel_bel B0 B0.size g2
  clear g2
  have m0 := m0.alloc (.cells #[.int .i64 x, .int .i64 y] 23)
  have m1 := m1.alloc (.cells #[.int .i64 x, .int .i64 y] 23)
  have m2 := Sm.new w3 x y
  have B0 := B0.alloc B0.size (.cells #[.int .i64 x, .int .i64 y] 23)
  have cm00 := m0.c0
  have cm01 := m0.c1
  have cm10 := m1.c0
  have cm11 := m1.c1
  have cm20 := m2.c0
  have cm21 := m2.c1
  go_wp2_with fail
  refine (k3 _).mono ?_
  rintro e w4 ⟨rfl, g2⟩
  clear cm00 cm01 cm10 cm11 cm20 cm21
  replace m0 := m0.kept g2
  replace m1 := m1.kept g2
  replace m2 := m2.kept g2
  replace B0 := bel_bel B0 B0.size g2
  clear g2
  clear k1 k2 k3
  go_wp2_with fail
  go_ret
  exact ⟨rfl, B0⟩
set_option maxHeartbeats 1000000 in
theorem stampPuts_ (s n : Int) (w : World) (hT : Tb w) (hs : InI s) (hn : InI n) :
    Calls Tryd.prog 6 #[.agg #[.int .i64 s, .int .i64 n]] w fun e w' => e = .returned (.bool true) ∧ Below w.heap.size w w' := by
  have k1 := fun w => put_ s n w hs hn
  have k2 := fun w => refPut_ s n w hs hn
  have k3 := fun w => print_ s n w hs hn
  have k4 := fun w => refPrint_ s n w hs
  have HB := hid (pt_byte s n)
  have HL : (pt s n).length ≤ 12 := by rw [pt_length]; split <;> omega
  obtain ⟨T, HT⟩ : ∃ T, Hid (sb (pr s n) = T) := ⟨_, rfl⟩
  rw [HT.out] at k3 k4
  have htt : (T.toList == T.toList) = true := by simp
  generalize pt s n = L at *
  have B0 := snew1 w s n
  have m0 := Sm.new w s n
  go_enter Tryd.func6, Tryd.ntmps6
  go_wp2_with fail
  refine (known_ _ (hT.kept B0)).mono ?_
  rintro e w1 ⟨rfl, g2⟩
  replace m0 := m0.kept g2
  replace B0 := bel_bel B0 B0.size g2
  clear g2
  have cm00 := m0.c0
  have cm01 := m0.c1
  go_wp2_with fail
  refine (k1 _).mono ?_
  rintro e w2 ⟨v, rfl, ho, g2⟩
  obtain ⟨pa, pc, rfl, pb, _, _, _⟩ := own_form ho HB.out
  clear ho
  clear cm00 cm01
  replace m0 := m0.kept g2
  replace B0 := bel_bel B0 B0.size g2
  clear g2
  have cm00 := m0.c0
  have cm01 := m0.c1
  go_wp2_with fail
  refine (k2 _).mono ?_
  rintro e w3 ⟨v, rfl, ho, g2⟩
  obtain ⟨qa, qc, rfl, qb, _, _, _⟩ := own_form ho HB.out
  replace pb := pb.below g2
  clear ho
  clear cm00 cm01
  replace m0 := m0.kept g2
  replace B0 := bel_bel B0 B0.size g2
  clear g2
  have cm00 := m0.c0
  have cm01 := m0.c1
  go_wp2_with fail
  refine (k3 _ (hT.kept B0)).mono ?_
  rintro e w4 ⟨rfl, g2⟩
  replace pb := pb.below g2
  replace qb := qb.below g2
  clear cm00 cm01
  replace m0 := m0.kept g2
  replace B0 := bel_bel B0 B0.size g2
  clear g2
  have cm00 := m0.c0
  have cm01 := m0.c1
  go_wp2_with fail
  refine (k4 _).mono ?_
  rintro e w5 ⟨rfl, g2⟩
  replace pb := pb.below g2
  replace qb := qb.below g2
  clear cm00 cm01
  replace m0 := m0.kept g2
  replace B0 := bel_bel B0 B0.size g2
  clear g2
  go_wp2_with fail
  refine (same_yes pa qa _ pc _ qc L _ pb qb (by omega) (by omega)).mono ?_
  rintro e w6 ⟨rfl, D⟩
  replace B0 := bel_bel B0 B0.size D.below
  clear k1 k2 k3 k4 D pb qb
  go_wp2_with fail
  go_ret
  exact ⟨rfl, B0⟩
set_option maxHeartbeats 1000000 in
theorem stampParses_ (l : List Nat) (w : World) (hT : Tb w) (hy : ∀ x ∈ l, x < 256) (hlen : l.length ≤ maxLen) :
    Calls Tryd.prog 8 #[.string (sb l)] w fun e w' => e = .returned (.bool true) ∧ Below w.heap.size w w' := by
  have k1 := fun w => parse_ l w hy hlen
  have k2 := fun w => refParse_ l w hy hlen
  obtain ⟨b, Hb⟩ : ∃ b, Hid (xe l = b) := ⟨_, rfl⟩
  obtain ⟨x, Hx⟩ : ∃ b, Hid (xs l = b) := ⟨_, rfl⟩
  obtain ⟨y, Hy⟩ : ∃ b, Hid (xn l = b) := ⟨_, rfl⟩
  obtain ⟨T, HT⟩ : ∃ T, Hid (sb l = T) := ⟨_, rfl⟩
  rw [Hb.out, Hx.out, Hy.out, HT.out] at k1 k2
  rw [HT.out]
  have hbb : (b == b) = true := by simp
  have k3 := fun w => sameStamp_ x y x y w
  rw [sme_self] at k3
  have B0 := Below.refl w.heap.size w
  go_enter Tryd.func8, Tryd.ntmps8
  go_wp2_with fail
  refine (known_ _ (hT.kept B0)).mono ?_
  rintro e w1 ⟨rfl, g2⟩
  replace B0 := bel_bel B0 B0.size g2
  clear g2
  go_wp2_with fail
  refine (k1 _ (hT.kept B0)).mono ?_
  rintro e w2 ⟨rfl, g2⟩
  replace B0 := bel_bel B0 B0.size g2
  clear g2
  have m1 := Sm.new w2 x y
  have B0 := B0.alloc B0.size (.cells #[.int .i64 x, .int .i64 y] 23)
  have cm10 := m1.c0
  have cm11 := m1.c1
  go_wp2_with fail
  refine (k2 _).mono ?_
  rintro e w3 ⟨rfl, g2⟩
  clear cm10 cm11
  replace m1 := m1.kept g2
  replace B0 := bel_bel B0 B0.size g2
  clear g2
  have m1 := m1.alloc (.cells #[.int .i64 x, .int .i64 y] 23)
  have m2 := Sm.new w3 x y
  have B0 := B0.alloc B0.size (.cells #[.int .i64 x, .int .i64 y] 23)
  have cm10 := m1.c0
  have cm11 := m1.c1
  have cm20 := m2.c0
  have cm21 := m2.c1
  go_wp2_with fail
  refine (k3 _).mono ?_
  rintro e w4 ⟨rfl, g2⟩
  clear cm10 cm11 cm20 cm21
  replace m1 := m1.kept g2
  replace m2 := m2.kept g2
  replace B0 := bel_bel B0 B0.size g2
  clear g2
  clear k1 k2 k3
  go_wp2_with fail
  refine (num6_ b _).mono ?_
  rintro e w5 ⟨rfl, rfl⟩
  go_wp2_with fail
  go_ret
  exact ⟨rfl, B0⟩
end Go.Proofs.YtajjilheellfeaaDoor
