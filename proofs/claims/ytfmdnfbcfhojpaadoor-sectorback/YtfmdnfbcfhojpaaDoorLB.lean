import Derived.Test.YtfmdnfbcfhojpaaDoorL5
namespace Go.Proofs.YtfmdnfbcfhojpaaDoor
set_option maxRecDepth 100000
open Go.RowKit
set_option linter.unusedVariables false

theorem ro_t {s : Sec} (h : gs (ps s) = some s) (T : ByteArray) : RO (ps s) T s.e s.q s.p = (T.toList == s.T.toList) := by
  unfold RO rt
  rw [h]
  by_cases k : s.T = T
  · subst k; simp
  · have : (T.toList == s.T.toList) = false := by rw [beq_eq_false_iff_ne]; exact fun j => k (toList_inj j).symm
    simp [k, this]
theorem ro_e {s : Sec} (h : gs (ps s) = some s) (e : Int) : RO (ps s) s.T e s.q s.p = (e == s.e) := by
  unfold RO rt
  rw [h]
  by_cases k : s.e = e
  · subst k; simp
  · have : (e == s.e) = false := by rw [beq_eq_false_iff_ne]; exact fun j => k j.symm
    simp [k, this]
theorem ro_q {s : Sec} (h : gs (ps s) = some s) (q : Int) : RO (ps s) s.T s.e q s.p = (q == s.q) := by
  unfold RO rt
  rw [h]
  by_cases k : s.q = q
  · subst k; simp
  · have : (q == s.q) = false := by rw [beq_eq_false_iff_ne]; exact fun j => k j.symm
    simp [k, this]
theorem ro_p {s : Sec} (h : gs (ps s) = some s) (p : Int) : RO (ps s) s.T s.e s.q p = (p == s.p) := by
  unfold RO rt
  rw [h]
  by_cases k : s.p = p
  · subst k; simp
  · have : (p == s.p) = false := by rw [beq_eq_false_iff_ne]; exact fun j => k j.symm
    simp [k, this]
set_option maxHeartbeats 8000000 in
theorem back_long (s t : Sec) (a a' : Option Addr) (n c n' c' : Nat) (w : World) (hT : Tab w) (hb : Bs w a n s.l) (hb' : Bs w a' n' t.l) (hn : 2000 < n) :
    Calls Tryd.prog 6 #[.agg #[.string s.T, .int .i64 s.e, .int .i64 s.q, .int .i64 s.p, .slice a n c], .agg #[.string t.T, .int .i64 t.e, .int .i64 t.q, .int .i64 t.p, .slice a' n' c']] w fun en w' => en = .returned (.bool true) ∧ Below w.heap.size w w' := by
  have hI : ¬ (n : Int) ≤ 2000 := by omega
  have hI2 : (2000 : Int) < (n : Int) := by omega
  have m0 := (Sm.new w s.T s.e s.q s.p (.slice a n c)).alloc (.cells #[.string t.T, .int .i64 t.e, .int .i64 t.q, .int .i64 t.p, .slice a' n' c'] 24)
  have m1 := Sm.new (w.alloc (.cells #[.string s.T, .int .i64 s.e, .int .i64 s.q, .int .i64 s.p, .slice a n c] 24)) t.T t.e t.q t.p (.slice a' n' c')
  have B0 := snew w s.T s.e s.q s.p (.slice a n c)
  have B1 := B0.alloc B0.size (.cells #[.string t.T, .int .i64 t.e, .int .i64 t.q, .int .i64 t.p, .slice a' n' c'] 24)
  have hs0 : (w.alloc (.cells #[.string s.T, .int .i64 s.e, .int .i64 s.q, .int .i64 s.p, .slice a n c] 24)).heap.size = w.heap.size + 1 := by simp
  rw [hs0] at m1
  have Y := hid (hb.below B1)
  have Y' := hid (hb'.below B1)
  have T1 := hT.bel B1
  clear hs0 B0 hb hb' hT
  go_enter Tryd.func6, Tryd.ntmps6
  go_wp2_with fail
  refine (first_ _ T1).mono ?_
  rintro x1 w1 ⟨rfl, g1⟩
  replace m0 := m0.kept g1
  replace m1 := m1.kept g1
  replace B1 := bel_bel B1 B1.size g1
  replace Y := hid (Y.out.below g1)
  replace Y' := hid (Y'.out.below g1)
  replace T1 := T1.bel g1
  clear g1
  have d0 := m0.c0
  have d1 := m0.c1
  have d2 := m0.c2
  have d3 := m0.c3
  have d4 := m0.c4
  have e0 := m1.c0
  have e1 := m1.c1
  have e2 := m1.c2
  have e3 := m1.c3
  have e4 := m1.c4
  have M0 := hid m0
  have M1 := hid m1
  have BB := hid B1
  have TT := hid T1
  clear m0 m1 B1 T1
  go_wp2
  go_ret
  exact ⟨rfl, BB.out⟩
set_option maxHeartbeats 8000000 in
theorem back_no (s t : Sec) (a a' : Option Addr) (n c n' c' : Nat) (w : World) (hT : Tab w) (hb : Bs w a n s.l) (hb' : Bs w a' n' t.l) (hn : n ≤ 2000) (hM : ¬ May s) :
    Calls Tryd.prog 6 #[.agg #[.string s.T, .int .i64 s.e, .int .i64 s.q, .int .i64 s.p, .slice a n c], .agg #[.string t.T, .int .i64 t.e, .int .i64 t.q, .int .i64 t.p, .slice a' n' c']] w fun en w' => en = .returned (.bool true) ∧ Below w.heap.size w w' := by
  have hI : (n : Int) ≤ 2000 := by omega
  have hMN : ¬ MayN s.T s.e s.q s.p n := fun k => hM ((may_n hb.1).2 k)
  have m0 := (Sm.new w s.T s.e s.q s.p (.slice a n c)).alloc (.cells #[.string t.T, .int .i64 t.e, .int .i64 t.q, .int .i64 t.p, .slice a' n' c'] 24)
  have m1 := Sm.new (w.alloc (.cells #[.string s.T, .int .i64 s.e, .int .i64 s.q, .int .i64 s.p, .slice a n c] 24)) t.T t.e t.q t.p (.slice a' n' c')
  have B0 := snew w s.T s.e s.q s.p (.slice a n c)
  have B1 := B0.alloc B0.size (.cells #[.string t.T, .int .i64 t.e, .int .i64 t.q, .int .i64 t.p, .slice a' n' c'] 24)
  have hs0 : (w.alloc (.cells #[.string s.T, .int .i64 s.e, .int .i64 s.q, .int .i64 s.p, .slice a n c] 24)).heap.size = w.heap.size + 1 := by simp
  rw [hs0] at m1
  have Y := hid (hb.below B1)
  have Y' := hid (hb'.below B1)
  have T1 := hT.bel B1
  clear hs0 B0 hb hb' hT
  go_enter Tryd.func6, Tryd.ntmps6
  go_wp2_with fail
  refine (first_ _ T1).mono ?_
  rintro x1 w1 ⟨rfl, g1⟩
  replace m0 := m0.kept g1
  replace m1 := m1.kept g1
  replace B1 := bel_bel B1 B1.size g1
  replace Y := hid (Y.out.below g1)
  replace Y' := hid (Y'.out.below g1)
  replace T1 := T1.bel g1
  clear g1
  have d0 := m0.c0
  have d1 := m0.c1
  have d2 := m0.c2
  have d3 := m0.c3
  have d4 := m0.c4
  have e0 := m1.c0
  have e1 := m1.c1
  have e2 := m1.c2
  have e3 := m1.c3
  have e4 := m1.c4
  have M0 := hid m0
  have M1 := hid m1
  have BB := hid B1
  have TT := hid T1
  clear m0 m1 B1 T1
  go_wp2_with fail
  refine (put_n s.T s.e s.q s.p a n c _ hMN).mono ?_
  rintro x2 w2 ⟨rfl, g2⟩
  have m0 := M0.out
  have m1 := M1.out
  have B1 := BB.out
  have T1 := TT.out
  clear M0 M1 BB TT d0 d1 d2 d3 d4 e0 e1 e2 e3 e4
  replace m0 := m0.kept g2
  replace m1 := m1.kept g2
  replace B1 := bel_bel B1 B1.size g2
  replace Y := hid (Y.out.below g2)
  replace Y' := hid (Y'.out.below g2)
  replace T1 := T1.bel g2
  clear g2
  have d0 := m0.c0
  have d1 := m0.c1
  have d2 := m0.c2
  have d3 := m0.c3
  have d4 := m0.c4
  have e0 := m1.c0
  have e1 := m1.c1
  have e2 := m1.c2
  have e3 := m1.c3
  have e4 := m1.c4
  have M0 := hid m0
  have M1 := hid m1
  have BB := hid B1
  have TT := hid T1
  clear m0 m1 B1 T1
  go_wp2_with (first | (go_at_call 14; refine (num_ _ _).mono ?_; rintro xn wn ⟨rfl, hw⟩; obtain rfl := hw.symm) | (go_at_call 20; refine (lmay_n s.T s.e s.q s.p a n c _ hMN).mono ?_; rintro x3 w3 ⟨rfl, g3⟩))
  have B3 := bel_bel BB.out BB.out.size g3
  go_ret
  exact ⟨rfl, B3⟩
set_option maxHeartbeats 16000000 in
theorem back_yes (s t : Sec) (a a' : Option Addr) (n c n' c' : Nat) (w : World) (hT : Tab w) (hb : Bs w a n s.l) (hb' : Bs w a' n' t.l) (hn : n ≤ 2000) (hM : May s) :
    Calls Tryd.prog 6 #[.agg #[.string s.T, .int .i64 s.e, .int .i64 s.q, .int .i64 s.p, .slice a n c], .agg #[.string t.T, .int .i64 t.e, .int .i64 t.q, .int .i64 t.p, .slice a' n' c']] w fun en w' => en = .returned (.bool true) ∧ Below w.heap.size w w' := by
  have hI : (n : Int) ≤ 2000 := by omega
  have hMN := (may_n hb.1).1 hM
  have hby := hb.2.1
  have hgs := gs_ps hM hby
  have hln := hb.1
  have HL := hid (ps_length hM)
  have HB := hid (ps_by hby)
  have m0 := (Sm.new w s.T s.e s.q s.p (.slice a n c)).alloc (.cells #[.string t.T, .int .i64 t.e, .int .i64 t.q, .int .i64 t.p, .slice a' n' c'] 24)
  have m1 := Sm.new (w.alloc (.cells #[.string s.T, .int .i64 s.e, .int .i64 s.q, .int .i64 s.p, .slice a n c] 24)) t.T t.e t.q t.p (.slice a' n' c')
  have B0 := snew w s.T s.e s.q s.p (.slice a n c)
  have B1 := B0.alloc B0.size (.cells #[.string t.T, .int .i64 t.e, .int .i64 t.q, .int .i64 t.p, .slice a' n' c'] 24)
  have hs0 : (w.alloc (.cells #[.string s.T, .int .i64 s.e, .int .i64 s.q, .int .i64 s.p, .slice a n c] 24)).heap.size = w.heap.size + 1 := by simp
  rw [hs0] at m1
  have Y := hid (hb.below B1)
  have Y' := hid (hb'.below B1)
  have T1 := hT.bel B1
  clear hs0 B0 hb hb' hT
  go_enter Tryd.func6, Tryd.ntmps6
  go_wp2_with fail
  refine (first_ _ T1).mono ?_
  rintro x1 w1 ⟨rfl, g1⟩
  replace m0 := m0.kept g1
  replace m1 := m1.kept g1
  replace B1 := bel_bel B1 B1.size g1
  replace Y := hid (Y.out.below g1)
  replace Y' := hid (Y'.out.below g1)
  replace T1 := T1.bel g1
  clear g1
  have d0 := m0.c0
  have d1 := m0.c1
  have d2 := m0.c2
  have d3 := m0.c3
  have d4 := m0.c4
  have e0 := m1.c0
  have e1 := m1.c1
  have e2 := m1.c2
  have e3 := m1.c3
  have e4 := m1.c4
  have M0 := hid m0
  have M1 := hid m1
  have BB := hid B1
  have TT := hid T1
  clear m0 m1 B1 T1
  go_wp2_with fail
  refine (put_y s.T s.e s.q s.p a n c s.l _ TT.out Y.out hMN).mono ?_
  rintro x2 w2 ⟨gb, rfl, hgb, r2, g2⟩
  have PP := hid ((r2.bs HB.out).len HL.out)
  have m0 := M0.out
  have m1 := M1.out
  have B1 := BB.out
  have T1 := TT.out
  clear M0 M1 BB TT d0 d1 d2 d3 d4 e0 e1 e2 e3 e4
  replace m0 := m0.kept g2
  replace m1 := m1.kept g2
  replace B1 := bel_bel B1 B1.size g2
  replace Y := hid (Y.out.below g2)
  replace Y' := hid (Y'.out.below g2)
  replace T1 := T1.bel g2
  clear g2
  have d0 := m0.c0
  have d1 := m0.c1
  have d2 := m0.c2
  have d3 := m0.c3
  have d4 := m0.c4
  have e0 := m1.c0
  have e1 := m1.c1
  have e2 := m1.c2
  have e3 := m1.c3
  have e4 := m1.c4
  have M0 := hid m0
  have M1 := hid m1
  have BB := hid B1
  have TT := hid T1
  clear m0 m1 B1 T1
  clear r2
  go_wp2_with fail
  refine (may_y s.T s.e s.q s.p a n c _ hMN).mono ?_
  rintro x3 w3 ⟨rfl, g3⟩
  replace PP := hid (PP.out.below g3)
  have m0 := M0.out
  have m1 := M1.out
  have B1 := BB.out
  have T1 := TT.out
  clear M0 M1 BB TT d0 d1 d2 d3 d4 e0 e1 e2 e3 e4
  replace m0 := m0.kept g3
  replace m1 := m1.kept g3
  replace B1 := bel_bel B1 B1.size g3
  replace Y := hid (Y.out.below g3)
  replace Y' := hid (Y'.out.below g3)
  replace T1 := T1.bel g3
  clear g3
  have d0 := m0.c0
  have d1 := m0.c1
  have d2 := m0.c2
  have d3 := m0.c3
  have d4 := m0.c4
  have e0 := m1.c0
  have e1 := m1.c1
  have e2 := m1.c2
  have e3 := m1.c3
  have e4 := m1.c4
  have M0 := hid m0
  have M1 := hid m1
  have BB := hid B1
  have TT := hid T1
  clear m0 m1 B1 T1
  go_wp2_with fail
  refine (get_y (some ⟨gb, 0, none⟩) 512 512 (ps s) _ TT.out PP.out (Nat.le_refl _) (by unfold maxLen; omega) s hgs).mono ?_
  rintro x4 w4 ⟨g, rfl, hg4, r4, g4⟩
  have L4 := (r4.bs hby).len hln
  rw [hln]
  replace PP := hid (PP.out.below g4)
  have m0 := M0.out
  have m1 := M1.out
  have B1 := BB.out
  have T1 := TT.out
  clear M0 M1 BB TT d0 d1 d2 d3 d4 e0 e1 e2 e3 e4
  replace m0 := m0.kept g4
  replace m1 := m1.kept g4
  replace B1 := bel_bel B1 B1.size g4
  replace Y := hid (Y.out.below g4)
  replace Y' := hid (Y'.out.below g4)
  replace T1 := T1.bel g4
  clear g4
  have m4 := Sm.new w4 s.T s.e s.q s.p (.slice (some ⟨g, 0, none⟩) n n)
  have g5 : Below w4.heap.size w4 (w4.alloc (.cells #[.string s.T, .int .i64 s.e, .int .i64 s.q, .int .i64 s.p, .slice (some ⟨g, 0, none⟩) n n] 24)) := (Below.refl _ _).alloc (Nat.le_refl _) _
  have L5 := hid (L4.below g5)
  replace PP := hid (PP.out.below g5)
  have f0 := m4.c0
  have f1 := m4.c1
  have f2 := m4.c2
  have f3 := m4.c3
  have f4 := m4.c4
  replace m0 := m0.kept g5
  replace m1 := m1.kept g5
  replace B1 := bel_bel B1 B1.size g5
  replace Y := hid (Y.out.below g5)
  replace Y' := hid (Y'.out.below g5)
  replace T1 := T1.bel g5
  clear g5
  have d0 := m0.c0
  have d1 := m0.c1
  have d2 := m0.c2
  have d3 := m0.c3
  have d4 := m0.c4
  have e0 := m1.c0
  have e1 := m1.c1
  have e2 := m1.c2
  have e3 := m1.c3
  have e4 := m1.c4
  have M0 := hid m0
  have M1 := hid m1
  have BB := hid B1
  have TT := hid T1
  clear m0 m1 B1 T1
  clear r4 L4 m4
  go_wp2_with fail
  refine (alike_y s.T s.e s.q s.p (some ⟨g, 0, none⟩) a n n n c s.l _ L5.out Y.out (by omega) (by omega)).mono ?_
  rintro x6 w6 ⟨rfl, g6⟩
  replace PP := hid (PP.out.below g6)
  have m0 := M0.out
  have m1 := M1.out
  have B1 := BB.out
  have T1 := TT.out
  clear M0 M1 BB TT d0 d1 d2 d3 d4 e0 e1 e2 e3 e4
  replace m0 := m0.kept g6
  replace m1 := m1.kept g6
  replace B1 := bel_bel B1 B1.size g6
  replace Y := hid (Y.out.below g6)
  replace Y' := hid (Y'.out.below g6)
  replace T1 := T1.bel g6
  clear g6
  have d0 := m0.c0
  have d1 := m0.c1
  have d2 := m0.c2
  have d3 := m0.c3
  have d4 := m0.c4
  have e0 := m1.c0
  have e1 := m1.c1
  have e2 := m1.c2
  have e3 := m1.c3
  have e4 := m1.c4
  have M0 := hid m0
  have M1 := hid m1
  have BB := hid B1
  have TT := hid T1
  clear m0 m1 B1 T1
  clear f0 f1 f2 f3 f4 L5
  go_wp2_with fail
  refine (right_y s.T s.e s.q s.p s.l (some ⟨gb, 0, none⟩) 512 512 (ps s) _ TT.out PP.out (Nat.le_refl _) (by unfold maxLen; omega) hgs).mono ?_
  rintro x7 w7 ⟨g', rfl, hg7, r7, g7⟩
  have L7 := hid ((r7.bs hby).len hln)
  rw [hln]
  replace PP := hid (PP.out.below g7)
  have m0 := M0.out
  have m1 := M1.out
  have B1 := BB.out
  have T1 := TT.out
  clear M0 M1 BB TT d0 d1 d2 d3 d4 e0 e1 e2 e3 e4
  replace m0 := m0.kept g7
  replace m1 := m1.kept g7
  replace B1 := bel_bel B1 B1.size g7
  replace Y := hid (Y.out.below g7)
  replace Y' := hid (Y'.out.below g7)
  replace T1 := T1.bel g7
  clear g7
  have d0 := m0.c0
  have d1 := m0.c1
  have d2 := m0.c2
  have d3 := m0.c3
  have d4 := m0.c4
  have e0 := m1.c0
  have e1 := m1.c1
  have e2 := m1.c2
  have e3 := m1.c3
  have e4 := m1.c4
  have M0 := hid m0
  have M1 := hid m1
  have BB := hid B1
  have TT := hid T1
  clear m0 m1 B1 T1
  clear r7
  go_wp2_with fail
  refine (same_yes (some ⟨g', 0, none⟩) a n n n c s.l _ L7.out Y.out (by omega) (by omega)).mono ?_
  rintro x8 w8 ⟨rfl, D8⟩
  have g8 := D8.below
  replace PP := hid (PP.out.below g8)
  have m0 := M0.out
  have m1 := M1.out
  have B1 := BB.out
  have T1 := TT.out
  clear M0 M1 BB TT d0 d1 d2 d3 d4 e0 e1 e2 e3 e4
  replace m0 := m0.kept g8
  replace m1 := m1.kept g8
  replace B1 := bel_bel B1 B1.size g8
  replace Y := hid (Y.out.below g8)
  replace Y' := hid (Y'.out.below g8)
  replace T1 := T1.bel g8
  clear g8
  have d0 := m0.c0
  have d1 := m0.c1
  have d2 := m0.c2
  have d3 := m0.c3
  have d4 := m0.c4
  have e0 := m1.c0
  have e1 := m1.c1
  have e2 := m1.c2
  have e3 := m1.c3
  have e4 := m1.c4
  have M0 := hid m0
  have M1 := hid m1
  have BB := hid B1
  have TT := hid T1
  clear m0 m1 B1 T1
  clear D8 L7
  go_wp2_with (go_at_call 14; refine (num_ _ _).mono ?_; rintro xn wn ⟨rfl, hw⟩; obtain rfl := hw.symm)
  refine (right_u t.T s.e s.q s.p (some ⟨gb, 0, none⟩) 512 512 (ps s) _ TT.out PP.out (Nat.le_refl _) (by unfold maxLen; omega)).mono ?_
  rintro x w11 ⟨a11, n11, c11, rfl, N11, g11⟩
  rw [ro_t hgs]
  replace PP := hid (PP.out.below g11)
  have m0 := M0.out
  have m1 := M1.out
  have B1 := BB.out
  have T1 := TT.out
  clear M0 M1 BB TT d0 d1 d2 d3 d4 e0 e1 e2 e3 e4
  replace m0 := m0.kept g11
  replace m1 := m1.kept g11
  replace B1 := bel_bel B1 B1.size g11
  replace Y := hid (Y.out.below g11)
  replace Y' := hid (Y'.out.below g11)
  replace T1 := T1.bel g11
  clear g11
  have d0 := m0.c0
  have d1 := m0.c1
  have d2 := m0.c2
  have d3 := m0.c3
  have d4 := m0.c4
  have e0 := m1.c0
  have e1 := m1.c1
  have e2 := m1.c2
  have e3 := m1.c3
  have e4 := m1.c4
  have M0 := hid m0
  have M1 := hid m1
  have BB := hid B1
  have TT := hid T1
  clear m0 m1 B1 T1
  clear N11
  go_wp2_with fail
  refine (right_u s.T t.e s.q s.p (some ⟨gb, 0, none⟩) 512 512 (ps s) _ TT.out PP.out (Nat.le_refl _) (by unfold maxLen; omega)).mono ?_
  rintro x w12 ⟨a12, n12, c12, rfl, N12, g12⟩
  rw [ro_e hgs]
  replace PP := hid (PP.out.below g12)
  have m0 := M0.out
  have m1 := M1.out
  have B1 := BB.out
  have T1 := TT.out
  clear M0 M1 BB TT d0 d1 d2 d3 d4 e0 e1 e2 e3 e4
  replace m0 := m0.kept g12
  replace m1 := m1.kept g12
  replace B1 := bel_bel B1 B1.size g12
  replace Y := hid (Y.out.below g12)
  replace Y' := hid (Y'.out.below g12)
  replace T1 := T1.bel g12
  clear g12
  have d0 := m0.c0
  have d1 := m0.c1
  have d2 := m0.c2
  have d3 := m0.c3
  have d4 := m0.c4
  have e0 := m1.c0
  have e1 := m1.c1
  have e2 := m1.c2
  have e3 := m1.c3
  have e4 := m1.c4
  have M0 := hid m0
  have M1 := hid m1
  have BB := hid B1
  have TT := hid T1
  clear m0 m1 B1 T1
  clear N12
  go_wp2_with fail
  refine (right_u s.T s.e t.q s.p (some ⟨gb, 0, none⟩) 512 512 (ps s) _ TT.out PP.out (Nat.le_refl _) (by unfold maxLen; omega)).mono ?_
  rintro x w13 ⟨a13, n13, c13, rfl, N13, g13⟩
  rw [ro_q hgs]
  replace PP := hid (PP.out.below g13)
  have m0 := M0.out
  have m1 := M1.out
  have B1 := BB.out
  have T1 := TT.out
  clear M0 M1 BB TT d0 d1 d2 d3 d4 e0 e1 e2 e3 e4
  replace m0 := m0.kept g13
  replace m1 := m1.kept g13
  replace B1 := bel_bel B1 B1.size g13
  replace Y := hid (Y.out.below g13)
  replace Y' := hid (Y'.out.below g13)
  replace T1 := T1.bel g13
  clear g13
  have d0 := m0.c0
  have d1 := m0.c1
  have d2 := m0.c2
  have d3 := m0.c3
  have d4 := m0.c4
  have e0 := m1.c0
  have e1 := m1.c1
  have e2 := m1.c2
  have e3 := m1.c3
  have e4 := m1.c4
  have M0 := hid m0
  have M1 := hid m1
  have BB := hid B1
  have TT := hid T1
  clear m0 m1 B1 T1
  clear N13
  go_wp2_with fail
  refine (right_u s.T s.e s.q t.p (some ⟨gb, 0, none⟩) 512 512 (ps s) _ TT.out PP.out (Nat.le_refl _) (by unfold maxLen; omega)).mono ?_
  rintro x w14 ⟨a14, n14, c14, rfl, N14, g14⟩
  rw [ro_p hgs]
  replace PP := hid (PP.out.below g14)
  have m0 := M0.out
  have m1 := M1.out
  have B1 := BB.out
  have T1 := TT.out
  clear M0 M1 BB TT d0 d1 d2 d3 d4 e0 e1 e2 e3 e4
  replace m0 := m0.kept g14
  replace m1 := m1.kept g14
  replace B1 := bel_bel B1 B1.size g14
  replace Y := hid (Y.out.below g14)
  replace Y' := hid (Y'.out.below g14)
  replace T1 := T1.bel g14
  clear g14
  have d0 := m0.c0
  have d1 := m0.c1
  have d2 := m0.c2
  have d3 := m0.c3
  have d4 := m0.c4
  have e0 := m1.c0
  have e1 := m1.c1
  have e2 := m1.c2
  have e3 := m1.c3
  have e4 := m1.c4
  have M0 := hid m0
  have M1 := hid m1
  have BB := hid B1
  have TT := hid T1
  clear m0 m1 B1 T1
  clear N14
  go_wp2
  go_ret
  exact ⟨ret_bool (by simp), BB.out⟩
theorem sectorBack_ (s t : Sec) (a a' : Option Addr) (n c n' c' : Nat) (w : World) (hT : Tab w) (hb : Bs w a n s.l) (hb' : Bs w a' n' t.l) :
    Calls Tryd.prog 6 #[.agg #[.string s.T, .int .i64 s.e, .int .i64 s.q, .int .i64 s.p, .slice a n c], .agg #[.string t.T, .int .i64 t.e, .int .i64 t.q, .int .i64 t.p, .slice a' n' c']] w fun en w' => en = .returned (.bool true) ∧ Below w.heap.size w w' := by
  by_cases hn : n ≤ 2000
  · by_cases h : May s
    · exact back_yes s t a a' n c n' c' w hT hb hb' hn h
    · exact back_no s t a a' n c n' c' w hT hb hb' hn h
  · exact back_long s t a a' n c n' c' w hT hb hb' (by omega)
end Go.Proofs.YtfmdnfbcfhojpaaDoor
