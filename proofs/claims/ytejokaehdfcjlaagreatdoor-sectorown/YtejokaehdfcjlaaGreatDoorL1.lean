import Derived.Test.YtejokaehdfcjlaaGreatDoorU5
import Derived.Lib.SlBytesConst
namespace Go.Proofs.YtejokaehdfcjlaaGreatDoor
set_option maxRecDepth 100000
open Go.RowKit
set_option linter.unusedVariables false

theorem num_ (x : Int) (w : World) : Calls Tryz.prog 12 #[.int .i64 x] w fun e w' => e = .returned (.int .i64 x) ∧ w' = w := by
  go_enter Tryz.func12, Tryz.ntmps12
  go_wp2
  go_ret
  exact ⟨rfl, rfl⟩

set_option maxHeartbeats 4000000 in
theorem alike_t (T T' : ByteArray) (e q p e' q' p' : Int) (a a' : Option Addr) (n c n' c' : Nat) (l l' : List Int) (w : World) (hb : Bs w a n l) (hb' : Bs w a' n' l') (hn : n ≤ 2000000) (hn' : n' ≤ 2000000) (hl : sameB l l' = true) (hT : T = T') (he : e = e') (hq : q = q') (hp : p = p') :
    Calls Tryz.prog 11 #[.agg #[.string T, .int .i64 e, .int .i64 q, .int .i64 p, .slice a n c], .agg #[.string T', .int .i64 e', .int .i64 q', .int .i64 p', .slice a' n' c']] w fun en w' => en = .returned (.bool true) ∧ Below w.heap.size w w' := by
  have m0 := (Sm.new w T e q p (.slice a n c)).alloc (.cells #[.string T', .int .i64 e', .int .i64 q', .int .i64 p', .slice a' n' c'] 46)
  have m1 := Sm.new (w.alloc (.cells #[.string T, .int .i64 e, .int .i64 q, .int .i64 p, .slice a n c] 46)) T' e' q' p' (.slice a' n' c')
  have B0 := snew w T e q p (.slice a n c)
  have B1 := B0.alloc B0.size (.cells #[.string T', .int .i64 e', .int .i64 q', .int .i64 p', .slice a' n' c'] 46)
  have Y := hid (hb.below B1)
  have Y' := hid (hb'.below B1)
  have d4 := m0.c4
  have d4' := m1.c4
  have BB := hid B1
  have M0 := hid m0
  have M1 := hid m1
  have hs0 : (w.alloc (.cells #[.string T, .int .i64 e, .int .i64 q, .int .i64 p, .slice a n c] 46)).heap.size = w.heap.size + 1 := by simp
  rw [hs0] at d4' M1
  clear m0 m1 B0 B1 hb hb' hs0
  have x0 : (T.toList == T'.toList) = true := by rw [hT]; exact beq_self_eq_true _
  have xe : (e == e') = true := by rw [he]; exact beq_self_eq_true _
  have xq : (q == q') = true := by rw [hq]; exact beq_self_eq_true _
  have xp : (p == p') = true := by rw [hp]; exact beq_self_eq_true _
  clear hT he hq hp
  go_enter Tryz.func11, Tryz.ntmps11
  go_wp2_with fail
  refine (same_d a a' n c n' c' l l' _ Y.out Y'.out (by unfold maxLen; omega) (by unfold maxLen; omega)).mono ?_
  rintro x1 w1 ⟨rfl, D1⟩
  have m0 := M0.out.at (D1.at _)
  have m1 := M1.out.at (D1.at _)
  have B1 := bel_bel BB.out BB.out.size D1.below
  have f0 := m0.c0
  have f1 := m0.c1
  have f2 := m0.c2
  have f3 := m0.c3
  have g0 := m1.c0
  have g1 := m1.c1
  have g2 := m1.c2
  have g3 := m1.c3
  clear m0 m1 D1 Y Y' d4 d4' BB M0 M1
  rw [hl]
  go_wp2
  go_ret
  exact ⟨rfl, B1⟩
set_option maxHeartbeats 4000000 in
theorem alike_n0 (T T' : ByteArray) (e q p e' q' p' : Int) (a a' : Option Addr) (n c n' c' : Nat) (l l' : List Int) (w : World) (hb : Bs w a n l) (hb' : Bs w a' n' l') (hn : n ≤ 2000000) (hn' : n' ≤ 2000000) (hl : sameB l l' = false) :
    Calls Tryz.prog 11 #[.agg #[.string T, .int .i64 e, .int .i64 q, .int .i64 p, .slice a n c], .agg #[.string T', .int .i64 e', .int .i64 q', .int .i64 p', .slice a' n' c']] w fun en w' => en = .returned (.bool false) ∧ Below w.heap.size w w' := by
  have m0 := (Sm.new w T e q p (.slice a n c)).alloc (.cells #[.string T', .int .i64 e', .int .i64 q', .int .i64 p', .slice a' n' c'] 46)
  have m1 := Sm.new (w.alloc (.cells #[.string T, .int .i64 e, .int .i64 q, .int .i64 p, .slice a n c] 46)) T' e' q' p' (.slice a' n' c')
  have B0 := snew w T e q p (.slice a n c)
  have B1 := B0.alloc B0.size (.cells #[.string T', .int .i64 e', .int .i64 q', .int .i64 p', .slice a' n' c'] 46)
  have Y := hid (hb.below B1)
  have Y' := hid (hb'.below B1)
  have d4 := m0.c4
  have d4' := m1.c4
  have BB := hid B1
  have M0 := hid m0
  have M1 := hid m1
  have hs0 : (w.alloc (.cells #[.string T, .int .i64 e, .int .i64 q, .int .i64 p, .slice a n c] 46)).heap.size = w.heap.size + 1 := by simp
  rw [hs0] at d4' M1
  clear m0 m1 B0 B1 hb hb' hs0
  go_enter Tryz.func11, Tryz.ntmps11
  go_wp2_with fail
  refine (same_d a a' n c n' c' l l' _ Y.out Y'.out (by unfold maxLen; omega) (by unfold maxLen; omega)).mono ?_
  rintro x1 w1 ⟨rfl, D1⟩
  have m0 := M0.out.at (D1.at _)
  have m1 := M1.out.at (D1.at _)
  have B1 := bel_bel BB.out BB.out.size D1.below
  have f0 := m0.c0
  have f1 := m0.c1
  have f2 := m0.c2
  have f3 := m0.c3
  have g0 := m1.c0
  have g1 := m1.c1
  have g2 := m1.c2
  have g3 := m1.c3
  clear m0 m1 D1 Y Y' d4 d4' BB M0 M1
  rw [hl]
  go_wp2
  go_ret
  exact ⟨rfl, B1⟩
set_option maxHeartbeats 4000000 in
theorem alike_n1 (T T' : ByteArray) (e q p e' q' p' : Int) (a a' : Option Addr) (n c n' c' : Nat) (l l' : List Int) (w : World) (hb : Bs w a n l) (hb' : Bs w a' n' l') (hn : n ≤ 2000000) (hn' : n' ≤ 2000000) (hl : sameB l l' = true) (hT : T ≠ T') :
    Calls Tryz.prog 11 #[.agg #[.string T, .int .i64 e, .int .i64 q, .int .i64 p, .slice a n c], .agg #[.string T', .int .i64 e', .int .i64 q', .int .i64 p', .slice a' n' c']] w fun en w' => en = .returned (.bool false) ∧ Below w.heap.size w w' := by
  have m0 := (Sm.new w T e q p (.slice a n c)).alloc (.cells #[.string T', .int .i64 e', .int .i64 q', .int .i64 p', .slice a' n' c'] 46)
  have m1 := Sm.new (w.alloc (.cells #[.string T, .int .i64 e, .int .i64 q, .int .i64 p, .slice a n c] 46)) T' e' q' p' (.slice a' n' c')
  have B0 := snew w T e q p (.slice a n c)
  have B1 := B0.alloc B0.size (.cells #[.string T', .int .i64 e', .int .i64 q', .int .i64 p', .slice a' n' c'] 46)
  have Y := hid (hb.below B1)
  have Y' := hid (hb'.below B1)
  have d4 := m0.c4
  have d4' := m1.c4
  have BB := hid B1
  have M0 := hid m0
  have M1 := hid m1
  have hs0 : (w.alloc (.cells #[.string T, .int .i64 e, .int .i64 q, .int .i64 p, .slice a n c] 46)).heap.size = w.heap.size + 1 := by simp
  rw [hs0] at d4' M1
  clear m0 m1 B0 B1 hb hb' hs0
  have x0 : (T.toList == T'.toList) = false := by rw [beq_eq_false_iff_ne]; exact fun k => hT (toList_inj k)
  go_enter Tryz.func11, Tryz.ntmps11
  go_wp2_with fail
  refine (same_d a a' n c n' c' l l' _ Y.out Y'.out (by unfold maxLen; omega) (by unfold maxLen; omega)).mono ?_
  rintro x1 w1 ⟨rfl, D1⟩
  have m0 := M0.out.at (D1.at _)
  have m1 := M1.out.at (D1.at _)
  have B1 := bel_bel BB.out BB.out.size D1.below
  have f0 := m0.c0
  have f1 := m0.c1
  have f2 := m0.c2
  have f3 := m0.c3
  have g0 := m1.c0
  have g1 := m1.c1
  have g2 := m1.c2
  have g3 := m1.c3
  clear m0 m1 D1 Y Y' d4 d4' BB M0 M1
  rw [hl]
  go_wp2
  go_ret
  exact ⟨rfl, B1⟩
set_option maxHeartbeats 4000000 in
theorem alike_n2 (T T' : ByteArray) (e q p e' q' p' : Int) (a a' : Option Addr) (n c n' c' : Nat) (l l' : List Int) (w : World) (hb : Bs w a n l) (hb' : Bs w a' n' l') (hn : n ≤ 2000000) (hn' : n' ≤ 2000000) (hl : sameB l l' = true) (hT : T = T') (he : e ≠ e') :
    Calls Tryz.prog 11 #[.agg #[.string T, .int .i64 e, .int .i64 q, .int .i64 p, .slice a n c], .agg #[.string T', .int .i64 e', .int .i64 q', .int .i64 p', .slice a' n' c']] w fun en w' => en = .returned (.bool false) ∧ Below w.heap.size w w' := by
  have m0 := (Sm.new w T e q p (.slice a n c)).alloc (.cells #[.string T', .int .i64 e', .int .i64 q', .int .i64 p', .slice a' n' c'] 46)
  have m1 := Sm.new (w.alloc (.cells #[.string T, .int .i64 e, .int .i64 q, .int .i64 p, .slice a n c] 46)) T' e' q' p' (.slice a' n' c')
  have B0 := snew w T e q p (.slice a n c)
  have B1 := B0.alloc B0.size (.cells #[.string T', .int .i64 e', .int .i64 q', .int .i64 p', .slice a' n' c'] 46)
  have Y := hid (hb.below B1)
  have Y' := hid (hb'.below B1)
  have d4 := m0.c4
  have d4' := m1.c4
  have BB := hid B1
  have M0 := hid m0
  have M1 := hid m1
  have hs0 : (w.alloc (.cells #[.string T, .int .i64 e, .int .i64 q, .int .i64 p, .slice a n c] 46)).heap.size = w.heap.size + 1 := by simp
  rw [hs0] at d4' M1
  clear m0 m1 B0 B1 hb hb' hs0
  have x0 : (T.toList == T'.toList) = true := by rw [hT]; exact beq_self_eq_true _
  have xe : (e == e') = false := by rw [beq_eq_false_iff_ne]; exact he
  clear hT
  go_enter Tryz.func11, Tryz.ntmps11
  go_wp2_with fail
  refine (same_d a a' n c n' c' l l' _ Y.out Y'.out (by unfold maxLen; omega) (by unfold maxLen; omega)).mono ?_
  rintro x1 w1 ⟨rfl, D1⟩
  have m0 := M0.out.at (D1.at _)
  have m1 := M1.out.at (D1.at _)
  have B1 := bel_bel BB.out BB.out.size D1.below
  have f0 := m0.c0
  have f1 := m0.c1
  have f2 := m0.c2
  have f3 := m0.c3
  have g0 := m1.c0
  have g1 := m1.c1
  have g2 := m1.c2
  have g3 := m1.c3
  clear m0 m1 D1 Y Y' d4 d4' BB M0 M1
  rw [hl]
  go_wp2
  go_ret
  exact ⟨rfl, B1⟩
set_option maxHeartbeats 4000000 in
theorem alike_n3 (T T' : ByteArray) (e q p e' q' p' : Int) (a a' : Option Addr) (n c n' c' : Nat) (l l' : List Int) (w : World) (hb : Bs w a n l) (hb' : Bs w a' n' l') (hn : n ≤ 2000000) (hn' : n' ≤ 2000000) (hl : sameB l l' = true) (hT : T = T') (he : e = e') (hq : q ≠ q') :
    Calls Tryz.prog 11 #[.agg #[.string T, .int .i64 e, .int .i64 q, .int .i64 p, .slice a n c], .agg #[.string T', .int .i64 e', .int .i64 q', .int .i64 p', .slice a' n' c']] w fun en w' => en = .returned (.bool false) ∧ Below w.heap.size w w' := by
  have m0 := (Sm.new w T e q p (.slice a n c)).alloc (.cells #[.string T', .int .i64 e', .int .i64 q', .int .i64 p', .slice a' n' c'] 46)
  have m1 := Sm.new (w.alloc (.cells #[.string T, .int .i64 e, .int .i64 q, .int .i64 p, .slice a n c] 46)) T' e' q' p' (.slice a' n' c')
  have B0 := snew w T e q p (.slice a n c)
  have B1 := B0.alloc B0.size (.cells #[.string T', .int .i64 e', .int .i64 q', .int .i64 p', .slice a' n' c'] 46)
  have Y := hid (hb.below B1)
  have Y' := hid (hb'.below B1)
  have d4 := m0.c4
  have d4' := m1.c4
  have BB := hid B1
  have M0 := hid m0
  have M1 := hid m1
  have hs0 : (w.alloc (.cells #[.string T, .int .i64 e, .int .i64 q, .int .i64 p, .slice a n c] 46)).heap.size = w.heap.size + 1 := by simp
  rw [hs0] at d4' M1
  clear m0 m1 B0 B1 hb hb' hs0
  have x0 : (T.toList == T'.toList) = true := by rw [hT]; exact beq_self_eq_true _
  have xe : (e == e') = true := by rw [he]; exact beq_self_eq_true _
  have xq : (q == q') = false := by rw [beq_eq_false_iff_ne]; exact hq
  clear hT he
  go_enter Tryz.func11, Tryz.ntmps11
  go_wp2_with fail
  refine (same_d a a' n c n' c' l l' _ Y.out Y'.out (by unfold maxLen; omega) (by unfold maxLen; omega)).mono ?_
  rintro x1 w1 ⟨rfl, D1⟩
  have m0 := M0.out.at (D1.at _)
  have m1 := M1.out.at (D1.at _)
  have B1 := bel_bel BB.out BB.out.size D1.below
  have f0 := m0.c0
  have f1 := m0.c1
  have f2 := m0.c2
  have f3 := m0.c3
  have g0 := m1.c0
  have g1 := m1.c1
  have g2 := m1.c2
  have g3 := m1.c3
  clear m0 m1 D1 Y Y' d4 d4' BB M0 M1
  rw [hl]
  go_wp2
  go_ret
  exact ⟨rfl, B1⟩
set_option maxHeartbeats 4000000 in
theorem alike_n4 (T T' : ByteArray) (e q p e' q' p' : Int) (a a' : Option Addr) (n c n' c' : Nat) (l l' : List Int) (w : World) (hb : Bs w a n l) (hb' : Bs w a' n' l') (hn : n ≤ 2000000) (hn' : n' ≤ 2000000) (hl : sameB l l' = true) (hT : T = T') (he : e = e') (hq : q = q') (hp : p ≠ p') :
    Calls Tryz.prog 11 #[.agg #[.string T, .int .i64 e, .int .i64 q, .int .i64 p, .slice a n c], .agg #[.string T', .int .i64 e', .int .i64 q', .int .i64 p', .slice a' n' c']] w fun en w' => en = .returned (.bool false) ∧ Below w.heap.size w w' := by
  have m0 := (Sm.new w T e q p (.slice a n c)).alloc (.cells #[.string T', .int .i64 e', .int .i64 q', .int .i64 p', .slice a' n' c'] 46)
  have m1 := Sm.new (w.alloc (.cells #[.string T, .int .i64 e, .int .i64 q, .int .i64 p, .slice a n c] 46)) T' e' q' p' (.slice a' n' c')
  have B0 := snew w T e q p (.slice a n c)
  have B1 := B0.alloc B0.size (.cells #[.string T', .int .i64 e', .int .i64 q', .int .i64 p', .slice a' n' c'] 46)
  have Y := hid (hb.below B1)
  have Y' := hid (hb'.below B1)
  have d4 := m0.c4
  have d4' := m1.c4
  have BB := hid B1
  have M0 := hid m0
  have M1 := hid m1
  have hs0 : (w.alloc (.cells #[.string T, .int .i64 e, .int .i64 q, .int .i64 p, .slice a n c] 46)).heap.size = w.heap.size + 1 := by simp
  rw [hs0] at d4' M1
  clear m0 m1 B0 B1 hb hb' hs0
  have x0 : (T.toList == T'.toList) = true := by rw [hT]; exact beq_self_eq_true _
  have xe : (e == e') = true := by rw [he]; exact beq_self_eq_true _
  have xq : (q == q') = true := by rw [hq]; exact beq_self_eq_true _
  have xp : (p == p') = false := by rw [beq_eq_false_iff_ne]; exact hp
  clear hT he hq
  go_enter Tryz.func11, Tryz.ntmps11
  go_wp2_with fail
  refine (same_d a a' n c n' c' l l' _ Y.out Y'.out (by unfold maxLen; omega) (by unfold maxLen; omega)).mono ?_
  rintro x1 w1 ⟨rfl, D1⟩
  have m0 := M0.out.at (D1.at _)
  have m1 := M1.out.at (D1.at _)
  have B1 := bel_bel BB.out BB.out.size D1.below
  have f0 := m0.c0
  have f1 := m0.c1
  have f2 := m0.c2
  have f3 := m0.c3
  have g0 := m1.c0
  have g1 := m1.c1
  have g2 := m1.c2
  have g3 := m1.c3
  clear m0 m1 D1 Y Y' d4 d4' BB M0 M1
  rw [hl]
  go_wp2
  go_ret
  exact ⟨rfl, B1⟩
theorem alike_y (T : ByteArray) (e q p : Int) (a a' : Option Addr) (n c n' c' : Nat) (l : List Int) (w : World) (hb : Bs w a n l) (hb' : Bs w a' n' l) (hn : n ≤ 2000000) (hn' : n' ≤ 2000000) :
    Calls Tryz.prog 11 #[.agg #[.string T, .int .i64 e, .int .i64 q, .int .i64 p, .slice a n c], .agg #[.string T, .int .i64 e, .int .i64 q, .int .i64 p, .slice a' n' c']] w fun en w' => en = .returned (.bool true) ∧ Below w.heap.size w w' :=
  alike_t T T e q p e q p a a' n c n' c' l l w hb hb' hn hn' (sameB_self l) rfl rfl rfl rfl
theorem alike_n (T T' : ByteArray) (e q p e' q' p' : Int) (a a' : Option Addr) (n c n' c' : Nat) (l l' : List Int) (w : World) (hb : Bs w a n l) (hb' : Bs w a' n' l') (hn : n ≤ 2000000) (hn' : n' ≤ 2000000) (hne : (⟨T, e, q, p, l⟩ : Sec) ≠ ⟨T', e', q', p', l'⟩) :
    Calls Tryz.prog 11 #[.agg #[.string T, .int .i64 e, .int .i64 q, .int .i64 p, .slice a n c], .agg #[.string T', .int .i64 e', .int .i64 q', .int .i64 p', .slice a' n' c']] w fun en w' => en = .returned (.bool false) ∧ Below w.heap.size w w' := by
  by_cases h0 : l = l'
  · have hl : sameB l l' = true := sameB_eq.2 h0
    by_cases h1 : T = T'
    · by_cases h2 : e = e'
      · by_cases h3 : q = q'
        · exact alike_n4 T T' e q p e' q' p' a a' n c n' c' l l' w hb hb' hn hn' hl h1 h2 h3 fun h4 => hne (by rw [h0, h1, h2, h3, h4])
        · exact alike_n3 T T' e q p e' q' p' a a' n c n' c' l l' w hb hb' hn hn' hl h1 h2 h3
      · exact alike_n2 T T' e q p e' q' p' a a' n c n' c' l l' w hb hb' hn hn' hl h1 h2
    · exact alike_n1 T T' e q p e' q' p' a a' n c n' c' l l' w hb hb' hn hn' hl h1
  · exact alike_n0 T T' e q p e' q' p' a a' n c n' c' l l' w hb hb' hn hn' (by cases h : sameB l l'; rfl; exact absurd (sameB_eq.1 h) h0)
end Go.Proofs.YtejokaehdfcjlaaGreatDoor
