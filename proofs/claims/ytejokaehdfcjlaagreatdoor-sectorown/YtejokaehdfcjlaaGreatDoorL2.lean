import Derived.Test.YtejokaehdfcjlaaGreatDoorL1
namespace Go.Proofs.YtejokaehdfcjlaaGreatDoor
set_option maxRecDepth 100000
open Go.RowKit
set_option linter.unusedVariables false

set_option maxHeartbeats 4000000 in
theorem may_t (T : ByteArray) (e q p : Int) (a : Option Addr) (n c : Nat) (w : World) (ht : T.toList = [67, 86, 83, 49] ∨ T.toList = [67, 86, 68, 49] ∨ T.toList = [67, 86, 67, 49] ∨ T.toList = [67, 86, 79, 49]) (h2 : sq e) (h3 : sq q) (h4 : 0 ≤ p ∧ p ≤ 8191) (h6 : n ≤ 480) :
    Calls Tryz.prog 5 #[.agg #[.string T, .int .i64 e, .int .i64 q, .int .i64 p, .slice a n c]] w fun en w' => en = .returned (.bool true) ∧ Below w.heap.size w w' := by
  have m0 := Sm.new w T e q p (.slice a n c)
  have B0 := snew w T e q p (.slice a n c)
  have d0 := m0.c0
  have d1 := m0.c1
  have d2 := m0.c2
  have d3 := m0.c3
  have d4 := m0.c4
  clear m0
  obtain ⟨a1, a2⟩ := h2
  obtain ⟨b1, b2⟩ := h3
  obtain ⟨c1, c2⟩ := h4
  have n2 : (n : Int) ≤ 480 := by omega
  rcases ht with ht | ht | ht | ht
  · go_enter Tryz.func5, Tryz.ntmps5
    go_wp2
    all_goals go_ret
    all_goals exact ⟨rfl, B0⟩
  · go_enter Tryz.func5, Tryz.ntmps5
    go_wp2
    all_goals go_ret
    all_goals exact ⟨rfl, B0⟩
  · go_enter Tryz.func5, Tryz.ntmps5
    go_wp2
    all_goals go_ret
    all_goals exact ⟨rfl, B0⟩
  · go_enter Tryz.func5, Tryz.ntmps5
    go_wp2
    all_goals go_ret
    all_goals exact ⟨rfl, B0⟩
theorem isT_list {T : ByteArray} (h : isT T) : T.toList = [67, 86, 83, 49] ∨ T.toList = [67, 86, 68, 49] ∨ T.toList = [67, 86, 67, 49] ∨ T.toList = [67, 86, 79, 49] := by
  rcases h with rfl | rfl | rfl | rfl
  · exact .inl (tl_val rfl)
  · exact .inr (.inl (tl_val rfl))
  · exact .inr (.inr (.inl (tl_val rfl)))
  · exact .inr (.inr (.inr (tl_val rfl)))
theorem may_y (T : ByteArray) (e q p : Int) (a : Option Addr) (n c : Nat) (w : World) (h : MayN T e q p n) :
    Calls Tryz.prog 5 #[.agg #[.string T, .int .i64 e, .int .i64 q, .int .i64 p, .slice a n c]] w fun en w' => en = .returned (.bool true) ∧ Below w.heap.size w w' :=
  may_t T e q p a n c w (isT_list h.1) h.2.1 h.2.2.1 h.2.2.2.1 h.2.2.2.2
set_option maxHeartbeats 8000000 in
theorem may_n1 (T : ByteArray) (e q p : Int) (a : Option Addr) (n c : Nat) (w : World) (h : ¬ isT T) :
    Calls Tryz.prog 5 #[.agg #[.string T, .int .i64 e, .int .i64 q, .int .i64 p, .slice a n c]] w fun en w' => en = .returned (.bool false) ∧ Below w.heap.size w w' := by
  have m0 := Sm.new w T e q p (.slice a n c)
  have B0 := snew w T e q p (.slice a n c)
  have d0 := m0.c0
  have d1 := m0.c1
  have d2 := m0.c2
  have d3 := m0.c3
  have d4 := m0.c4
  clear m0
  have g0 : (T.toList == [67, 86, 83, 49]) = false := tl_no (t := t1) rfl fun e => h (by unfold isT; simp [e])
  have g1 : (T.toList == [67, 86, 68, 49]) = false := tl_no (t := t2) rfl fun e => h (by unfold isT; simp [e])
  have g2 : (T.toList == [67, 86, 67, 49]) = false := tl_no (t := t3) rfl fun e => h (by unfold isT; simp [e])
  have g3 : (T.toList == [67, 86, 79, 49]) = false := tl_no (t := t4) rfl fun e => h (by unfold isT; simp [e])
  clear h
  go_enter Tryz.func5, Tryz.ntmps5
  go_wp2
  all_goals go_ret
  all_goals exact ⟨rfl, B0⟩
set_option maxHeartbeats 8000000 in
theorem may_n2a (T : ByteArray) (e q p : Int) (a : Option Addr) (n c : Nat) (w : World) (ht : T.toList = [67, 86, 83, 49] ∨ T.toList = [67, 86, 68, 49] ∨ T.toList = [67, 86, 67, 49] ∨ T.toList = [67, 86, 79, 49]) (h : ¬ 1 ≤ e) :
    Calls Tryz.prog 5 #[.agg #[.string T, .int .i64 e, .int .i64 q, .int .i64 p, .slice a n c]] w fun en w' => en = .returned (.bool false) ∧ Below w.heap.size w w' := by
  have m0 := Sm.new w T e q p (.slice a n c)
  have B0 := snew w T e q p (.slice a n c)
  have d0 := m0.c0
  have d1 := m0.c1
  have d2 := m0.c2
  have d3 := m0.c3
  have d4 := m0.c4
  clear m0
  rcases ht with ht | ht | ht | ht
  · go_enter Tryz.func5, Tryz.ntmps5
    go_wp2
    all_goals go_ret
    all_goals exact ⟨rfl, B0⟩
  · go_enter Tryz.func5, Tryz.ntmps5
    go_wp2
    all_goals go_ret
    all_goals exact ⟨rfl, B0⟩
  · go_enter Tryz.func5, Tryz.ntmps5
    go_wp2
    all_goals go_ret
    all_goals exact ⟨rfl, B0⟩
  · go_enter Tryz.func5, Tryz.ntmps5
    go_wp2
    all_goals go_ret
    all_goals exact ⟨rfl, B0⟩
set_option maxHeartbeats 8000000 in
theorem may_n2b (T : ByteArray) (e q p : Int) (a : Option Addr) (n c : Nat) (w : World) (ht : T.toList = [67, 86, 83, 49] ∨ T.toList = [67, 86, 68, 49] ∨ T.toList = [67, 86, 67, 49] ∨ T.toList = [67, 86, 79, 49]) (h0 : 1 ≤ e) (h : ¬ e ≤ 4611686018427387904) :
    Calls Tryz.prog 5 #[.agg #[.string T, .int .i64 e, .int .i64 q, .int .i64 p, .slice a n c]] w fun en w' => en = .returned (.bool false) ∧ Below w.heap.size w w' := by
  have m0 := Sm.new w T e q p (.slice a n c)
  have B0 := snew w T e q p (.slice a n c)
  have d0 := m0.c0
  have d1 := m0.c1
  have d2 := m0.c2
  have d3 := m0.c3
  have d4 := m0.c4
  clear m0
  have x := decide_eq_false h
  rcases ht with ht | ht | ht | ht
  · go_enter Tryz.func5, Tryz.ntmps5
    go_wp2
    all_goals go_ret
    all_goals exact ⟨rfl, B0⟩
  · go_enter Tryz.func5, Tryz.ntmps5
    go_wp2
    all_goals go_ret
    all_goals exact ⟨rfl, B0⟩
  · go_enter Tryz.func5, Tryz.ntmps5
    go_wp2
    all_goals go_ret
    all_goals exact ⟨rfl, B0⟩
  · go_enter Tryz.func5, Tryz.ntmps5
    go_wp2
    all_goals go_ret
    all_goals exact ⟨rfl, B0⟩
set_option maxHeartbeats 8000000 in
theorem may_n3a (T : ByteArray) (e q p : Int) (a : Option Addr) (n c : Nat) (w : World) (ht : T.toList = [67, 86, 83, 49] ∨ T.toList = [67, 86, 68, 49] ∨ T.toList = [67, 86, 67, 49] ∨ T.toList = [67, 86, 79, 49]) (h2 : sq e) (h : ¬ 1 ≤ q) :
    Calls Tryz.prog 5 #[.agg #[.string T, .int .i64 e, .int .i64 q, .int .i64 p, .slice a n c]] w fun en w' => en = .returned (.bool false) ∧ Below w.heap.size w w' := by
  have m0 := Sm.new w T e q p (.slice a n c)
  have B0 := snew w T e q p (.slice a n c)
  have d0 := m0.c0
  have d1 := m0.c1
  have d2 := m0.c2
  have d3 := m0.c3
  have d4 := m0.c4
  clear m0
  obtain ⟨a1, a2⟩ := h2
  rcases ht with ht | ht | ht | ht
  · go_enter Tryz.func5, Tryz.ntmps5
    go_wp2
    all_goals go_ret
    all_goals exact ⟨rfl, B0⟩
  · go_enter Tryz.func5, Tryz.ntmps5
    go_wp2
    all_goals go_ret
    all_goals exact ⟨rfl, B0⟩
  · go_enter Tryz.func5, Tryz.ntmps5
    go_wp2
    all_goals go_ret
    all_goals exact ⟨rfl, B0⟩
  · go_enter Tryz.func5, Tryz.ntmps5
    go_wp2
    all_goals go_ret
    all_goals exact ⟨rfl, B0⟩
set_option maxHeartbeats 8000000 in
theorem may_n3b (T : ByteArray) (e q p : Int) (a : Option Addr) (n c : Nat) (w : World) (ht : T.toList = [67, 86, 83, 49] ∨ T.toList = [67, 86, 68, 49] ∨ T.toList = [67, 86, 67, 49] ∨ T.toList = [67, 86, 79, 49]) (h2 : sq e) (h0 : 1 ≤ q) (h : ¬ q ≤ 4611686018427387904) :
    Calls Tryz.prog 5 #[.agg #[.string T, .int .i64 e, .int .i64 q, .int .i64 p, .slice a n c]] w fun en w' => en = .returned (.bool false) ∧ Below w.heap.size w w' := by
  have m0 := Sm.new w T e q p (.slice a n c)
  have B0 := snew w T e q p (.slice a n c)
  have d0 := m0.c0
  have d1 := m0.c1
  have d2 := m0.c2
  have d3 := m0.c3
  have d4 := m0.c4
  clear m0
  obtain ⟨a1, a2⟩ := h2
  have x := decide_eq_false h
  rcases ht with ht | ht | ht | ht
  · go_enter Tryz.func5, Tryz.ntmps5
    go_wp2
    all_goals go_ret
    all_goals exact ⟨rfl, B0⟩
  · go_enter Tryz.func5, Tryz.ntmps5
    go_wp2
    all_goals go_ret
    all_goals exact ⟨rfl, B0⟩
  · go_enter Tryz.func5, Tryz.ntmps5
    go_wp2
    all_goals go_ret
    all_goals exact ⟨rfl, B0⟩
  · go_enter Tryz.func5, Tryz.ntmps5
    go_wp2
    all_goals go_ret
    all_goals exact ⟨rfl, B0⟩
set_option maxHeartbeats 8000000 in
theorem may_n4 (T : ByteArray) (e q p : Int) (a : Option Addr) (n c : Nat) (w : World) (ht : T.toList = [67, 86, 83, 49] ∨ T.toList = [67, 86, 68, 49] ∨ T.toList = [67, 86, 67, 49] ∨ T.toList = [67, 86, 79, 49]) (h2 : sq e) (h3 : sq q) (h : ¬ 0 ≤ p) :
    Calls Tryz.prog 5 #[.agg #[.string T, .int .i64 e, .int .i64 q, .int .i64 p, .slice a n c]] w fun en w' => en = .returned (.bool false) ∧ Below w.heap.size w w' := by
  have m0 := Sm.new w T e q p (.slice a n c)
  have B0 := snew w T e q p (.slice a n c)
  have d0 := m0.c0
  have d1 := m0.c1
  have d2 := m0.c2
  have d3 := m0.c3
  have d4 := m0.c4
  clear m0
  obtain ⟨a1, a2⟩ := h2
  obtain ⟨b1, b2⟩ := h3
  have x := decide_eq_false h
  rcases ht with ht | ht | ht | ht
  · go_enter Tryz.func5, Tryz.ntmps5
    go_wp2
    all_goals go_ret
    all_goals exact ⟨rfl, B0⟩
  · go_enter Tryz.func5, Tryz.ntmps5
    go_wp2
    all_goals go_ret
    all_goals exact ⟨rfl, B0⟩
  · go_enter Tryz.func5, Tryz.ntmps5
    go_wp2
    all_goals go_ret
    all_goals exact ⟨rfl, B0⟩
  · go_enter Tryz.func5, Tryz.ntmps5
    go_wp2
    all_goals go_ret
    all_goals exact ⟨rfl, B0⟩
set_option maxHeartbeats 8000000 in
theorem may_n5 (T : ByteArray) (e q p : Int) (a : Option Addr) (n c : Nat) (w : World) (ht : T.toList = [67, 86, 83, 49] ∨ T.toList = [67, 86, 68, 49] ∨ T.toList = [67, 86, 67, 49] ∨ T.toList = [67, 86, 79, 49]) (h2 : sq e) (h3 : sq q) (h0 : 0 ≤ p) (h : ¬ p ≤ 8191) :
    Calls Tryz.prog 5 #[.agg #[.string T, .int .i64 e, .int .i64 q, .int .i64 p, .slice a n c]] w fun en w' => en = .returned (.bool false) ∧ Below w.heap.size w w' := by
  have m0 := Sm.new w T e q p (.slice a n c)
  have B0 := snew w T e q p (.slice a n c)
  have d0 := m0.c0
  have d1 := m0.c1
  have d2 := m0.c2
  have d3 := m0.c3
  have d4 := m0.c4
  clear m0
  obtain ⟨a1, a2⟩ := h2
  obtain ⟨b1, b2⟩ := h3
  have x := decide_eq_false h
  rcases ht with ht | ht | ht | ht
  · go_enter Tryz.func5, Tryz.ntmps5
    go_wp2
    all_goals go_ret
    all_goals exact ⟨rfl, B0⟩
  · go_enter Tryz.func5, Tryz.ntmps5
    go_wp2
    all_goals go_ret
    all_goals exact ⟨rfl, B0⟩
  · go_enter Tryz.func5, Tryz.ntmps5
    go_wp2
    all_goals go_ret
    all_goals exact ⟨rfl, B0⟩
  · go_enter Tryz.func5, Tryz.ntmps5
    go_wp2
    all_goals go_ret
    all_goals exact ⟨rfl, B0⟩
set_option maxHeartbeats 8000000 in
theorem may_n6 (T : ByteArray) (e q p : Int) (a : Option Addr) (n c : Nat) (w : World) (ht : T.toList = [67, 86, 83, 49] ∨ T.toList = [67, 86, 68, 49] ∨ T.toList = [67, 86, 67, 49] ∨ T.toList = [67, 86, 79, 49]) (h2 : sq e) (h3 : sq q) (h0 : 0 ≤ p) (h1 : p ≤ 8191) (h : ¬ n ≤ 480) :
    Calls Tryz.prog 5 #[.agg #[.string T, .int .i64 e, .int .i64 q, .int .i64 p, .slice a n c]] w fun en w' => en = .returned (.bool false) ∧ Below w.heap.size w w' := by
  have m0 := Sm.new w T e q p (.slice a n c)
  have B0 := snew w T e q p (.slice a n c)
  have d0 := m0.c0
  have d1 := m0.c1
  have d2 := m0.c2
  have d3 := m0.c3
  have d4 := m0.c4
  clear m0
  obtain ⟨a1, a2⟩ := h2
  obtain ⟨b1, b2⟩ := h3
  have x5 : ¬ (n : Int) ≤ 480 := by omega
  have x6 : decide ((n : Int) ≤ 480) = false := decide_eq_false x5
  rcases ht with ht | ht | ht | ht
  · go_enter Tryz.func5, Tryz.ntmps5
    go_wp2
    all_goals go_ret
    all_goals exact ⟨rfl, B0⟩
  · go_enter Tryz.func5, Tryz.ntmps5
    go_wp2
    all_goals go_ret
    all_goals exact ⟨rfl, B0⟩
  · go_enter Tryz.func5, Tryz.ntmps5
    go_wp2
    all_goals go_ret
    all_goals exact ⟨rfl, B0⟩
  · go_enter Tryz.func5, Tryz.ntmps5
    go_wp2
    all_goals go_ret
    all_goals exact ⟨rfl, B0⟩
theorem lmay_n (T : ByteArray) (e q p : Int) (a : Option Addr) (n c : Nat) (w : World) (h : ¬ MayN T e q p n) :
    Calls Tryz.prog 5 #[.agg #[.string T, .int .i64 e, .int .i64 q, .int .i64 p, .slice a n c]] w fun en w' => en = .returned (.bool false) ∧ Below w.heap.size w w' := by
  by_cases h1 : isT T
  · have ht := isT_list h1
    by_cases h2 : sq e
    · by_cases h3 : sq q
      · by_cases h4 : 0 ≤ p
        · by_cases h5 : p ≤ 8191
          · exact may_n6 T e q p a n c w ht h2 h3 h4 h5 fun k => h ⟨h1, h2, h3, ⟨h4, by omega⟩, k⟩
          · exact may_n5 T e q p a n c w ht h2 h3 h4 h5
        · exact may_n4 T e q p a n c w ht h2 h3 h4
      · by_cases k : 1 ≤ q
        · exact may_n3b T e q p a n c w ht h2 k (by unfold sq at h3; omega)
        · exact may_n3a T e q p a n c w ht h2 k
    · by_cases k : 1 ≤ e
      · exact may_n2b T e q p a n c w ht k (by unfold sq at h2; omega)
      · exact may_n2a T e q p a n c w ht k
  · exact may_n1 T e q p a n c w h1
end Go.Proofs.YtejokaehdfcjlaaGreatDoor
