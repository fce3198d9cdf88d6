import Derived.Test.YtajjilheellfeabDoorC1
namespace Go.Proofs.YtajjilheellfeabDoor
open Go.RowKit
set_option linter.unusedVariables false

set_option maxHeartbeats 1000000 in
theorem next_ (s n : Int) (w : World) (hs : InI s) (hn : InI n) :
    Calls Tryd.prog 13 #[.agg #[.int .i64 s, .int .i64 n]] w fun e w' => e = .returned (.tuple #[.agg #[.int .i64 (ns s n), .int .i64 (nn s n)], .bool (nok s n)]) ∧ Below w.heap.size w w' := by
  have B0 := (snew2 w s n 0 0).alloc (by simp; omega) (.cells #[.int .i64 9223372036854775807, .int .i64 999999999] 23)
  obtain ⟨m0, m1⟩ := snew3 w s n 0 0
  have m2 := Sm.new ((w.alloc (.cells #[.int .i64 s, .int .i64 n] 23)).alloc (.cells #[.int .i64 0, .int .i64 0] 23)) 9223372036854775807 999999999
  replace m0 := m0.alloc (.cells #[.int .i64 9223372036854775807, .int .i64 999999999] 23)
  replace m1 := m1.alloc (.cells #[.int .i64 9223372036854775807, .int .i64 999999999] 23)
  rw [World.size_alloc, World.size_alloc] at m2
  go_enter Tryd.func13, Tryd.ntmps13
  go_wp2_with fail
  refine (valid_ s n _ hs hn).mono ?_
  rintro e w1 ⟨rfl, g2⟩
  replace m0 := m0.kept g2
  replace m1 := m1.kept g2
  replace m2 := m2.kept g2
  replace B0 := bel_bel B0 B0.size g2
  clear g2
  have c0 := m0.c0
  have c1 := m0.c1
  have d0 := m2.c0
  have d1 := m2.c1
  by_cases hv : vld s n = true
  · have HV := hid hv
    by_cases hb1 : s = 9223372036854775807
    · subst hb1
      by_cases hb2 : n = 999999999
      · subst hb2
        have HE : Hid (nok 9223372036854775807 999999999 = false) := by show _ = _; unfold nok big; rw [hv, decide_eq_true ⟨rfl, rfl⟩]; rfl
        go_wp2_with (refine wpList_sst rfl rfl _ _ rfl (w.heap.size + 1) 0 0 rfl rfl 0 0 (by with_reducible exact m1) ?_)
        refine bodyPost_ret (v := .tuple #[.agg #[.int .i64 0, .int .i64 0], .bool false]) ?_ rfl ⟨ret_st (by unfold ns; rw [HE.out]; rfl) (by unfold nn; rw [HE.out]; rfl) HE.out.symm, bel_row B0 (by omega) _⟩
        exact results_st rfl _ _ (w.heap.size + 1) 0 0 _ rfl rfl (m1.row 0 0).c0 (m1.row 0 0).c1
      · have HE : Hid (nok 9223372036854775807 n = true) := by show _ = _; unfold nok big; rw [hv, decide_eq_false (fun h => hb2 h.2)]; rfl
        have e2 : (n == 999999999) = false := by simpa using hb2
        have H9 := hid hb2
        obtain ⟨p1, p2, p3⟩ := of_decide_eq_true (show decide _ = true from hv)
        go_wp2_with (refine wpList_sst rfl rfl _ _ rfl (w.heap.size + 1) 9223372036854775807 (n + 1) rfl rfl 0 0 (by with_reducible exact m1) ?_)
        refine bodyPost_ret (v := .tuple #[.agg #[.int .i64 9223372036854775807, .int .i64 (n + 1)], .bool true]) ?_ rfl ⟨ret_st (by unfold ns; rw [HE.out, if_pos rfl, if_neg H9.out]) (by unfold nn; rw [HE.out, if_pos rfl, if_neg H9.out]) HE.out.symm, bel_row B0 (by omega) _⟩
        exact results_st rfl _ _ (w.heap.size + 1) 9223372036854775807 (n + 1) _ rfl rfl (m1.row _ _).c0 (m1.row _ _).c1
    · have HE : Hid (nok s n = true) := by show _ = _; unfold nok big; rw [hv, decide_eq_false (fun h => hb1 h.1)]; rfl
      obtain ⟨p1, p2, p3⟩ := of_decide_eq_true (show decide _ = true from hv)
      by_cases hb2 : n = 999999999
      · subst hb2
        have hs1 : s + 1 ≤ 9223372036854775807 := by have := hs.2; omega
        go_wp2_with (refine wpList_sst rfl rfl _ _ rfl (w.heap.size + 1) (s + 1) 0 rfl rfl 0 0 (by with_reducible exact m1) ?_)
        refine bodyPost_ret (v := .tuple #[.agg #[.int .i64 (s + 1), .int .i64 0], .bool true]) ?_ rfl ⟨ret_st (by unfold ns; rw [HE.out, if_pos rfl, if_pos rfl]) (by unfold nn; rw [HE.out, if_pos rfl, if_pos rfl]) HE.out.symm, bel_row B0 (by omega) _⟩
        exact results_st rfl _ _ (w.heap.size + 1) (s + 1) 0 _ rfl rfl (m1.row _ _).c0 (m1.row _ _).c1
      · have e2 : (n == 999999999) = false := by simpa using hb2
        have H9 := hid hb2
        go_wp2_with (refine wpList_sst rfl rfl _ _ rfl (w.heap.size + 1) s (n + 1) rfl rfl 0 0 (by with_reducible exact m1) ?_)
        refine bodyPost_ret (v := .tuple #[.agg #[.int .i64 s, .int .i64 (n + 1)], .bool true]) ?_ rfl ⟨ret_st (by unfold ns; rw [HE.out, if_pos rfl, if_neg H9.out]) (by unfold nn; rw [HE.out, if_pos rfl, if_neg H9.out]) HE.out.symm, bel_row B0 (by omega) _⟩
        exact results_st rfl _ _ (w.heap.size + 1) s (n + 1) _ rfl rfl (m1.row _ _).c0 (m1.row _ _).c1
  · have hv : vld s n = false := by simpa using hv
    have HE : Hid (nok s n = false) := by show _ = _; unfold nok; rw [hv]; rfl
    go_wp2_with (refine wpList_sst rfl rfl _ _ rfl (w.heap.size + 1) 0 0 rfl rfl 0 0 (by with_reducible exact m1) ?_)
    refine bodyPost_ret (v := .tuple #[.agg #[.int .i64 0, .int .i64 0], .bool false]) ?_ rfl ⟨ret_st (by unfold ns; rw [HE.out]; rfl) (by unfold nn; rw [HE.out]; rfl) HE.out.symm, bel_row B0 (by omega) _⟩
    exact results_st rfl _ _ (w.heap.size + 1) 0 0 _ rfl rfl (m1.row 0 0).c0 (m1.row 0 0).c1
end Go.Proofs.YtajjilheellfeabDoor
