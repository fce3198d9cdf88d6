import Derived.Test.YtajjilheellfeabDoorC7
namespace Go.Proofs.YtajjilheellfeabDoor
open Go.RowKit
set_option linter.unusedVariables false

set_option maxHeartbeats 1000000 in
theorem parse_ (l : List Nat) (w : World) (hy : ∀ x ∈ l, x < 256) (hlen : l.length ≤ maxLen) (hT : Tb w) :
    Calls Tryd.prog 16 #[.string (sb l)] w fun e w' => e = .returned (.tuple #[.agg #[.int .i64 (xs l), .int .i64 (xn l)], .int .i64 (xe l)]) ∧ Below w.heap.size w w' := by
  have k1 := fun w => numbers_ l w hy hlen
  obtain ⟨hu1, hu2⟩ := u_in l
  have k2 := fun w => print_ (us l) (un l) w ⟨by omega, by omega⟩ ⟨by omega, by omega⟩
  have HG := hid (u_good (l := l))
  have HBd := hid (u_bad (l := l))
  have HINJ : Hid (sb (pr (us l) (un l)) = sb l ↔ pr (us l) (un l) = l) := ⟨fun h => sb_inj (pr_lt _ _) hy h, fun h => by rw [h]⟩
  obtain ⟨S, HS⟩ : ∃ S, Hid (sb l = S) := ⟨_, rfl⟩
  obtain ⟨P, HP⟩ : ∃ P, Hid (sb (pr (us l) (un l)) = P) := ⟨_, rfl⟩
  simp only [HS.out] at k1
  simp only [HP.out] at k2
  rw [HS.out, HP.out] at HINJ
  rw [HS.out]
  clear hu1 hu2 hy
  generalize us l = U at *
  generalize un l = V at *
  obtain ⟨o, Ho⟩ : ∃ o, Hid (uo l = o) := ⟨_, rfl⟩
  simp only [Ho.out] at k1
  rw [Ho.out] at HG HBd
  have B0 := snew1 w 0 0
  have m0 := Sm.new w 0 0
  replace hT := hT.alloc (.cells #[.int .i64 0, .int .i64 0] 23)
  go_enter Tryd.func16, Tryd.ntmps16
  go_wp2_with fail
  refine (k1 _).mono ?_
  rintro e w1 ⟨rfl, g2⟩
  have h0 : w.heap.size < w1.heap.size := Nat.lt_of_lt_of_le (by simp) g2.size
  replace m0 := m0.kept g2
  replace hT := hT.kept g2
  replace B0 := bel_bel B0 B0.size g2
  clear g2 k1
  replace m0 := m0.alloc (.cells #[.int .i64 U, .int .i64 V] 23)
  have m1 := Sm.new w1 U V
  replace hT := hT.alloc (.cells #[.int .i64 U, .int .i64 V] 23)
  replace B0 := B0.alloc B0.size (.cells #[.int .i64 U, .int .i64 V] 23)
  cases o with
  | false =>
    have HE := hid (HBd.out (.inl (by trivial)))
    go_wp2_with (refine wpList_sst rfl rfl _ _ rfl w.heap.size 0 0 rfl rfl 0 0 (by with_reducible exact m0) ?_)
    refine bodyPost_ret (v := .tuple #[.agg #[.int .i64 0, .int .i64 0], .int .i64 60]) ?_ rfl ⟨ret_g HE.out.1 HE.out.2.1 HE.out.2.2, bel_row B0 (Nat.le_refl _) _⟩
    exact results_st rfl _ _ w.heap.size 0 0 _ rfl rfl (m0.row 0 0).c0 (m0.row 0 0).c1
  | true =>
    go_wp2_with fail
    refine (k2 _ hT).mono ?_
    rintro e w2 ⟨rfl, g2⟩
    replace m0 := m0.kept g2
    replace m1 := m1.kept g2
    replace B0 := bel_bel B0 B0.size g2
    clear g2 k2 hT
    have c0 := m1.c0
    have c1 := m1.c1
    by_cases hps : P = S
    · have d8 : (P.toList == S.toList) = true := by rw [hps]; simp
      have HX := hid (HG.out (by trivial) (HINJ.out.1 hps))
      clear hps
      go_wp2_with (refine wpList_sst rfl rfl _ _ rfl w.heap.size U V rfl rfl 0 0 (by with_reducible exact m0) ?_)
      refine bodyPost_ret (v := .tuple #[.agg #[.int .i64 U, .int .i64 V], .int .i64 0]) ?_ rfl ⟨ret_g HX.out.1 HX.out.2.1 HX.out.2.2, bel_row B0 (Nat.le_refl _) _⟩
      exact results_st rfl _ _ w.heap.size U V _ rfl rfl (m0.row _ _).c0 (m0.row _ _).c1
    · have d8 : (P.toList == S.toList) = false := beq_eq_false_iff_ne.2 fun h => hps (toList_inj h)
      have HE := hid (HBd.out (.inr fun h => hps (HINJ.out.2 h)))
      clear hps
      go_wp2_with (refine wpList_sst rfl rfl _ _ rfl w.heap.size 0 0 rfl rfl 0 0 (by with_reducible exact m0) ?_)
      refine bodyPost_ret (v := .tuple #[.agg #[.int .i64 0, .int .i64 0], .int .i64 60]) ?_ rfl ⟨ret_g HE.out.1 HE.out.2.1 HE.out.2.2, bel_row B0 (Nat.le_refl _) _⟩
      exact results_st rfl _ _ w.heap.size 0 0 _ rfl rfl (m0.row 0 0).c0 (m0.row 0 0).c1
end Go.Proofs.YtajjilheellfeabDoor
