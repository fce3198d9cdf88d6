import Derived.Test.YtfmdnfbcfhojpaaDoorL5
namespace Go.Proofs.YtfmdnfbcfhojpaaDoor
set_option maxRecDepth 100000
open Go.RowKit
set_option linter.unusedVariables false

set_option maxHeartbeats 8000000 in
theorem unl_1 (s t : Sec) (a a' : Option Addr) (n c n' c' : Nat) (w : World) (hT : Tab w) (hb : Bs w a n s.l) (hb' : Bs w a' n' t.l) (hM : ¬ May s) :
    Calls Tryd.prog 8 #[.agg #[.string s.T, .int .i64 s.e, .int .i64 s.q, .int .i64 s.p, .slice a n c], .agg #[.string t.T, .int .i64 t.e, .int .i64 t.q, .int .i64 t.p, .slice a' n' c']] w fun en w' => en = .returned (.bool true) ∧ Below w.heap.size w w' := by
  have hMN : ¬ MayN s.T s.e s.q s.p n := fun k => hM ((may_n hb.1).2 k)
  have m0 := (Sm.new w s.T s.e s.q s.p (.slice a n c)).alloc (.cells #[.string t.T, .int .i64 t.e, .int .i64 t.q, .int .i64 t.p, .slice a' n' c'] 24)
  have m1 := Sm.new (w.alloc (.cells #[.string s.T, .int .i64 s.e, .int .i64 s.q, .int .i64 s.p, .slice a n c] 24)) t.T t.e t.q t.p (.slice a' n' c')
  have B0 := snew w s.T s.e s.q s.p (.slice a n c)
  have B1 := B0.alloc B0.size (.cells #[.string t.T, .int .i64 t.e, .int .i64 t.q, .int .i64 t.p, .slice a' n' c'] 24)
  have hs0 : (w.alloc (.cells #[.string s.T, .int .i64 s.e, .int .i64 s.q, .int .i64 s.p, .slice a n c] 24)).heap.size = w.heap.size + 1 := by simp
  rw [hs0] at m1
  have Y := hid (hb.below B1)
  have Y' := hid (hb'.below B1)
  have T1 := hT.bel B1
  clear hs0 B0 hb hb' hT
  go_enter Tryd.func8, Tryd.ntmps8
  go_wp2_with fail
  refine (first_ _ T1).mono ?_
  rintro x1 w1 ⟨rfl, g1⟩
  replace m0 := m0.kept g1
  replace m1 := m1.kept g1
  replace B1 := bel_bel B1 B1.size g1
  replace Y := hid (Y.out.below g1)
  replace Y' := hid (Y'.out.below g1)
  replace T1 := T1.bel g1
  clear g1
  have d0 := m0.c0
  have d1 := m0.c1
  have d2 := m0.c2
  have d3 := m0.c3
  have d4 := m0.c4
  have e0 := m1.c0
  have e1 := m1.c1
  have e2 := m1.c2
  have e3 := m1.c3
  have e4 := m1.c4
  have M0 := hid m0
  have M1 := hid m1
  have BB := hid B1
  have TT := hid T1
  clear m0 m1 B1 T1
  go_wp2_with (go_at_call 20; refine (lmay_n s.T s.e s.q s.p a n c _ hMN).mono ?_; rintro x2 w2 ⟨rfl, g2⟩)
  have B2 := bel_bel BB.out BB.out.size g2
  go_ret
  exact ⟨rfl, B2⟩
set_option maxHeartbeats 8000000 in
theorem unl_2 (s t : Sec) (a a' : Option Addr) (n c n' c' : Nat) (w : World) (hT : Tab w) (hb : Bs w a n s.l) (hb' : Bs w a' n' t.l) (hM : May s) (hM' : ¬ May t) :
    Calls Tryd.prog 8 #[.agg #[.string s.T, .int .i64 s.e, .int .i64 s.q, .int .i64 s.p, .slice a n c], .agg #[.string t.T, .int .i64 t.e, .int .i64 t.q, .int .i64 t.p, .slice a' n' c']] w fun en w' => en = .returned (.bool true) ∧ Below w.heap.size w w' := by
  have hMN := (may_n hb.1).1 hM
  have hMN' : ¬ MayN t.T t.e t.q t.p n' := fun k => hM' ((may_n hb'.1).2 k)
  have m0 := (Sm.new w s.T s.e s.q s.p (.slice a n c)).alloc (.cells #[.string t.T, .int .i64 t.e, .int .i64 t.q, .int .i64 t.p, .slice a' n' c'] 24)
  have m1 := Sm.new (w.alloc (.cells #[.string s.T, .int .i64 s.e, .int .i64 s.q, .int .i64 s.p, .slice a n c] 24)) t.T t.e t.q t.p (.slice a' n' c')
  have B0 := snew w s.T s.e s.q s.p (.slice a n c)
  have B1 := B0.alloc B0.size (.cells #[.string t.T, .int .i64 t.e, .int .i64 t.q, .int .i64 t.p, .slice a' n' c'] 24)
  have hs0 : (w.alloc (.cells #[.string s.T, .int .i64 s.e, .int .i64 s.q, .int .i64 s.p, .slice a n c] 24)).heap.size = w.heap.size + 1 := by simp
  rw [hs0] at m1
  have Y := hid (hb.below B1)
  have Y' := hid (hb'.below B1)
  have T1 := hT.bel B1
  clear hs0 B0 hb hb' hT
  go_enter Tryd.func8, Tryd.ntmps8
  go_wp2_with fail
  refine (first_ _ T1).mono ?_
  rintro x1 w1 ⟨rfl, g1⟩
  replace m0 := m0.kept g1
  replace m1 := m1.kept g1
  replace B1 := bel_bel B1 B1.size g1
  replace Y := hid (Y.out.below g1)
  replace Y' := hid (Y'.out.below g1)
  replace T1 := T1.bel g1
  clear g1
  have d0 := m0.c0
  have d1 := m0.c1
  have d2 := m0.c2
  have d3 := m0.c3
  have d4 := m0.c4
  have e0 := m1.c0
  have e1 := m1.c1
  have e2 := m1.c2
  have e3 := m1.c3
  have e4 := m1.c4
  have M0 := hid m0
  have M1 := hid m1
  have BB := hid B1
  have TT := hid T1
  clear m0 m1 B1 T1
  go_wp2_with fail
  refine (may_y s.T s.e s.q s.p a n c _ hMN).mono ?_
  rintro x2 w2 ⟨rfl, g2⟩
  have m0 := M0.out
  have m1 := M1.out
  have B1 := BB.out
  have T1 := TT.out
  clear M0 M1 BB TT d0 d1 d2 d3 d4 e0 e1 e2 e3 e4
  replace m0 := m0.kept g2
  replace m1 := m1.kept g2
  replace B1 := bel_bel B1 B1.size g2
  replace Y := hid (Y.out.below g2)
  replace Y' := hid (Y'.out.below g2)
  replace T1 := T1.bel g2
  clear g2
  have d0 := m0.c0
  have d1 := m0.c1
  have d2 := m0.c2
  have d3 := m0.c3
  have d4 := m0.c4
  have e0 := m1.c0
  have e1 := m1.c1
  have e2 := m1.c2
  have e3 := m1.c3
  have e4 := m1.c4
  have M0 := hid m0
  have M1 := hid m1
  have BB := hid B1
  have TT := hid T1
  clear m0 m1 B1 T1
  go_wp2_with fail
  refine (lmay_n t.T t.e t.q t.p a' n' c' _ hMN').mono ?_
  rintro x3 w3 ⟨rfl, g3⟩
  have B3 := bel_bel BB.out BB.out.size g3
  go_wp2
  go_ret
  exact ⟨rfl, B3⟩
set_option maxHeartbeats 8000000 in
theorem unl_3 (s t : Sec) (a a' : Option Addr) (n c n' c' : Nat) (w : World) (hT : Tab w) (hb : Bs w a n s.l) (hb' : Bs w a' n' t.l) (hM : May s) (hM' : May t) :
    Calls Tryd.prog 8 #[.agg #[.string s.T, .int .i64 s.e, .int .i64 s.q, .int .i64 s.p, .slice a n c], .agg #[.string t.T, .int .i64 t.e, .int .i64 t.q, .int .i64 t.p, .slice a' n' c']] w fun en w' => en = .returned (.bool true) ∧ Below w.heap.size w w' := by
  have hMN := (may_n hb.1).1 hM
  have hMN' := (may_n hb'.1).1 hM'
  have hby := hb.2.1
  have hby' := hb'.2.1
  have hn : n ≤ 480 := hMN.2.2.2.2
  have hn' : n' ≤ 480 := hMN'.2.2.2.2
  have HL := hid (ps_length hM)
  have HL' := hid (ps_length hM')
  have HB := hid (ps_by hby)
  have HB' := hid (ps_by hby')
  have HQ : Hid ((s = t → sameB (ps s) (ps t) = true) ∧ (s ≠ t → sameB (ps s) (ps t) = false)) := by
    refine ⟨fun h => by rw [h]; exact sameB_self _, fun h => ?_⟩
    unfold sameB
    exact decide_eq_false fun k => h (ps_inj hM hM' hby hby' k)
  have m0 := (Sm.new w s.T s.e s.q s.p (.slice a n c)).alloc (.cells #[.string t.T, .int .i64 t.e, .int .i64 t.q, .int .i64 t.p, .slice a' n' c'] 24)
  have m1 := Sm.new (w.alloc (.cells #[.string s.T, .int .i64 s.e, .int .i64 s.q, .int .i64 s.p, .slice a n c] 24)) t.T t.e t.q t.p (.slice a' n' c')
  have B0 := snew w s.T s.e s.q s.p (.slice a n c)
  have B1 := B0.alloc B0.size (.cells #[.string t.T, .int .i64 t.e, .int .i64 t.q, .int .i64 t.p, .slice a' n' c'] 24)
  have hs0 : (w.alloc (.cells #[.string s.T, .int .i64 s.e, .int .i64 s.q, .int .i64 s.p, .slice a n c] 24)).heap.size = w.heap.size + 1 := by simp
  rw [hs0] at m1
  have Y := hid (hb.below B1)
  have Y' := hid (hb'.below B1)
  have T1 := hT.bel B1
  clear hs0 B0 hb hb' hT
  go_enter Tryd.func8, Tryd.ntmps8
  go_wp2_with fail
  refine (first_ _ T1).mono ?_
  rintro x1 w1 ⟨rfl, g1⟩
  replace m0 := m0.kept g1
  replace m1 := m1.kept g1
  replace B1 := bel_bel B1 B1.size g1
  replace Y := hid (Y.out.below g1)
  replace Y' := hid (Y'.out.below g1)
  replace T1 := T1.bel g1
  clear g1
  have d0 := m0.c0
  have d1 := m0.c1
  have d2 := m0.c2
  have d3 := m0.c3
  have d4 := m0.c4
  have e0 := m1.c0
  have e1 := m1.c1
  have e2 := m1.c2
  have e3 := m1.c3
  have e4 := m1.c4
  have M0 := hid m0
  have M1 := hid m1
  have BB := hid B1
  have TT := hid T1
  clear m0 m1 B1 T1
  go_wp2_with fail
  refine (may_y s.T s.e s.q s.p a n c _ hMN).mono ?_
  rintro x2 w2 ⟨rfl, g2⟩
  have m0 := M0.out
  have m1 := M1.out
  have B1 := BB.out
  have T1 := TT.out
  clear M0 M1 BB TT d0 d1 d2 d3 d4 e0 e1 e2 e3 e4
  replace m0 := m0.kept g2
  replace m1 := m1.kept g2
  replace B1 := bel_bel B1 B1.size g2
  replace Y := hid (Y.out.below g2)
  replace Y' := hid (Y'.out.below g2)
  replace T1 := T1.bel g2
  clear g2
  have d0 := m0.c0
  have d1 := m0.c1
  have d2 := m0.c2
  have d3 := m0.c3
  have d4 := m0.c4
  have e0 := m1.c0
  have e1 := m1.c1
  have e2 := m1.c2
  have e3 := m1.c3
  have e4 := m1.c4
  have M0 := hid m0
  have M1 := hid m1
  have BB := hid B1
  have TT := hid T1
  clear m0 m1 B1 T1
  go_wp2_with fail
  refine (may_y t.T t.e t.q t.p a' n' c' _ hMN').mono ?_
  rintro x3 w3 ⟨rfl, g3⟩
  have m0 := M0.out
  have m1 := M1.out
  have B1 := BB.out
  have T1 := TT.out
  clear M0 M1 BB TT d0 d1 d2 d3 d4 e0 e1 e2 e3 e4
  replace m0 := m0.kept g3
  replace m1 := m1.kept g3
  replace B1 := bel_bel B1 B1.size g3
  replace Y := hid (Y.out.below g3)
  replace Y' := hid (Y'.out.below g3)
  replace T1 := T1.bel g3
  clear g3
  have d0 := m0.c0
  have d1 := m0.c1
  have d2 := m0.c2
  have d3 := m0.c3
  have d4 := m0.c4
  have e0 := m1.c0
  have e1 := m1.c1
  have e2 := m1.c2
  have e3 := m1.c3
  have e4 := m1.c4
  have M0 := hid m0
  have M1 := hid m1
  have BB := hid B1
  have TT := hid T1
  clear m0 m1 B1 T1
  go_wp2_with fail
  refine (put_y s.T s.e s.q s.p a n c s.l _ TT.out Y.out hMN).mono ?_
  rintro x4 w4 ⟨ga, rfl, hga, r4, g4⟩
  have P4 := hid ((r4.bs HB.out).len HL.out)
  have m0 := M0.out
  have m1 := M1.out
  have B1 := BB.out
  have T1 := TT.out
  clear M0 M1 BB TT d0 d1 d2 d3 d4 e0 e1 e2 e3 e4
  replace m0 := m0.kept g4
  replace m1 := m1.kept g4
  replace B1 := bel_bel B1 B1.size g4
  replace Y := hid (Y.out.below g4)
  replace Y' := hid (Y'.out.below g4)
  replace T1 := T1.bel g4
  clear g4
  have d0 := m0.c0
  have d1 := m0.c1
  have d2 := m0.c2
  have d3 := m0.c3
  have d4 := m0.c4
  have e0 := m1.c0
  have e1 := m1.c1
  have e2 := m1.c2
  have e3 := m1.c3
  have e4 := m1.c4
  have M0 := hid m0
  have M1 := hid m1
  have BB := hid B1
  have TT := hid T1
  clear m0 m1 B1 T1
  clear r4
  go_wp2_with fail
  refine (put_y t.T t.e t.q t.p a' n' c' t.l _ TT.out Y'.out hMN').mono ?_
  rintro x5 w5 ⟨gb, rfl, hgb, r5, g5⟩
  have P5 := hid ((r5.bs HB'.out).len HL'.out)
  replace P4 := hid (P4.out.below g5)
  have m0 := M0.out
  have m1 := M1.out
  have B1 := BB.out
  have T1 := TT.out
  clear M0 M1 BB TT d0 d1 d2 d3 d4 e0 e1 e2 e3 e4
  replace m0 := m0.kept g5
  replace m1 := m1.kept g5
  replace B1 := bel_bel B1 B1.size g5
  replace Y := hid (Y.out.below g5)
  replace Y' := hid (Y'.out.below g5)
  replace T1 := T1.bel g5
  clear g5
  have d0 := m0.c0
  have d1 := m0.c1
  have d2 := m0.c2
  have d3 := m0.c3
  have d4 := m0.c4
  have e0 := m1.c0
  have e1 := m1.c1
  have e2 := m1.c2
  have e3 := m1.c3
  have e4 := m1.c4
  have M0 := hid m0
  have M1 := hid m1
  have BB := hid B1
  have TT := hid T1
  clear m0 m1 B1 T1
  clear r5
  go_wp2_with fail
  refine (same_d (some ⟨ga, 0, none⟩) (some ⟨gb, 0, none⟩) 512 512 512 512 (ps s) (ps t) _ P4.out P5.out (by unfold maxLen; omega) (by unfold maxLen; omega)).mono ?_
  rintro x6 w6 ⟨rfl, D6⟩
  have g6 := D6.below
  have m0 := M0.out
  have m1 := M1.out
  have B1 := BB.out
  have T1 := TT.out
  clear M0 M1 BB TT d0 d1 d2 d3 d4 e0 e1 e2 e3 e4
  replace m0 := m0.kept g6
  replace m1 := m1.kept g6
  replace B1 := bel_bel B1 B1.size g6
  replace Y := hid (Y.out.below g6)
  replace Y' := hid (Y'.out.below g6)
  replace T1 := T1.bel g6
  clear g6
  have d0 := m0.c0
  have d1 := m0.c1
  have d2 := m0.c2
  have d3 := m0.c3
  have d4 := m0.c4
  have e0 := m1.c0
  have e1 := m1.c1
  have e2 := m1.c2
  have e3 := m1.c3
  have e4 := m1.c4
  have M0 := hid m0
  have M1 := hid m1
  have BB := hid B1
  have TT := hid T1
  clear m0 m1 B1 T1
  clear P4 P5 D6
  by_cases hst : s = t
  · rw [HQ.out.1 hst]
    subst hst
    clear HQ
    go_wp2_with (first | (go_at_call 14; refine (num_ _ _).mono ?_; rintro xn wn ⟨rfl, hw⟩; obtain rfl := hw.symm) | (go_at_call 22; refine (alike_y s.T s.e s.q s.p a a' n c n' c' s.l _ Y.out Y'.out (by omega) (by omega)).mono ?_; rintro x7 w7 ⟨rfl, g7⟩))
    have B7 := bel_bel BB.out BB.out.size g7
    go_ret
    exact ⟨rfl, B7⟩
  · rw [HQ.out.2 hst]
    clear HQ
    go_wp2_with (first | (go_at_call 14; refine (num_ _ _).mono ?_; rintro xn wn ⟨rfl, hw⟩; obtain rfl := hw.symm) | (go_at_call 22; refine (alike_n s.T t.T s.e s.q s.p t.e t.q t.p a a' n c n' c' s.l t.l _ Y.out Y'.out (by omega) (by omega) hst).mono ?_; rintro x7 w7 ⟨rfl, g7⟩))
    have B7 := bel_bel BB.out BB.out.size g7
    go_ret
    exact ⟨rfl, B7⟩
theorem sectorUnlike_ (s t : Sec) (a a' : Option Addr) (n c n' c' : Nat) (w : World) (hT : Tab w) (hb : Bs w a n s.l) (hb' : Bs w a' n' t.l) :
    Calls Tryd.prog 8 #[.agg #[.string s.T, .int .i64 s.e, .int .i64 s.q, .int .i64 s.p, .slice a n c], .agg #[.string t.T, .int .i64 t.e, .int .i64 t.q, .int .i64 t.p, .slice a' n' c']] w fun en w' => en = .returned (.bool true) ∧ Below w.heap.size w w' := by
  by_cases h : May s
  · by_cases h' : May t
    · exact unl_3 s t a a' n c n' c' w hT hb hb' h h'
    · exact unl_2 s t a a' n c n' c' w hT hb hb' h h'
  · exact unl_1 s t a a' n c n' c' w hT hb hb' h
end Go.Proofs.YtfmdnfbcfhojpaaDoor
