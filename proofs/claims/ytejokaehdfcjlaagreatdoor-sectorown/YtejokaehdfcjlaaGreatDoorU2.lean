import Derived.Test.YtejokaehdfcjlaaGreatDoorU1
namespace Go.Proofs.YtejokaehdfcjlaaGreatDoor
set_option maxRecDepth 100000
open Go.RowKit
set_option linter.unusedVariables false

set_option maxHeartbeats 4000000 in
theorem refMay_t (T : ByteArray) (e q p : Int) (a : Option Addr) (n c : Nat) (w : World) (ht : T.toList = [67, 86, 83, 49] ∨ T.toList = [67, 86, 68, 49] ∨ T.toList = [67, 86, 67, 49] ∨ T.toList = [67, 86, 79, 49]) (h2 : sq e) (h3 : sq q) (h4 : 0 ≤ p ∧ p ≤ 8191) (h6 : n ≤ 480) :
    Calls Tryz.prog 16 #[.agg #[.string T, .int .i64 e, .int .i64 q, .int .i64 p, .slice a n c]] w fun en w' => en = .returned (.bool true) ∧ Below w.heap.size w w' := by
  have m0 := Sm.new w T e q p (.slice a n c)
  have B0 := snew w T e q p (.slice a n c)
  have d0 := m0.c0
  have d1 := m0.c1
  have d2 := m0.c2
  have d3 := m0.c3
  have d4 := m0.c4
  clear m0
  obtain ⟨a1, a2⟩ := h2
  obtain ⟨b1, b2⟩ := h3
  obtain ⟨c1, c2⟩ := h4
  have c2' : p < 8192 := by omega
  have n2 : (n : Int) ≤ 480 := by omega
  rcases ht with ht | ht | ht | ht
  · go_enter Tryz.func16, Tryz.ntmps16
    go_wp2
    go_ret
    exact ⟨rfl, B0⟩
  · go_enter Tryz.func16, Tryz.ntmps16
    go_wp2
    go_ret
    exact ⟨rfl, B0⟩
  · go_enter Tryz.func16, Tryz.ntmps16
    go_wp2
    go_ret
    exact ⟨rfl, B0⟩
  · go_enter Tryz.func16, Tryz.ntmps16
    go_wp2
    go_ret
    exact ⟨rfl, B0⟩
theorem refMay_y (T : ByteArray) (e q p : Int) (a : Option Addr) (n c : Nat) (w : World) (h : MayN T e q p n) :
    Calls Tryz.prog 16 #[.agg #[.string T, .int .i64 e, .int .i64 q, .int .i64 p, .slice a n c]] w fun en w' => en = .returned (.bool true) ∧ Below w.heap.size w w' := by
  obtain ⟨h1, h2, h3, h4, h6⟩ := h
  refine refMay_t T e q p a n c w ?_ h2 h3 h4 h6
  rcases h1 with rfl | rfl | rfl | rfl
  · exact .inl (tl_val rfl)
  · exact .inr (.inl (tl_val rfl))
  · exact .inr (.inr (.inl (tl_val rfl)))
  · exact .inr (.inr (.inr (tl_val rfl)))
set_option maxHeartbeats 4000000 in
theorem refMay_n1 (T : ByteArray) (e q p : Int) (a : Option Addr) (n c : Nat) (w : World) (h : ¬ isT T) :
    Calls Tryz.prog 16 #[.agg #[.string T, .int .i64 e, .int .i64 q, .int .i64 p, .slice a n c]] w fun en w' => en = .returned (.bool false) ∧ Below w.heap.size w w' := by
  have m0 := Sm.new w T e q p (.slice a n c)
  have B0 := snew w T e q p (.slice a n c)
  have d0 := m0.c0
  have d1 := m0.c1
  have d2 := m0.c2
  have d3 := m0.c3
  have d4 := m0.c4
  clear m0
  have g0 : (T.toList == [67, 86, 83, 49]) = false := tl_no (t := t1) rfl fun e => h (by unfold isT; simp [e])
  have h0 : ¬ T.toList = [67, 86, 83, 49] := fun k => h (by have := toList_inj (k.trans (tl_val (t := t1) rfl).symm); unfold isT; simp [this])
  have g1 : (T.toList == [67, 86, 68, 49]) = false := tl_no (t := t2) rfl fun e => h (by unfold isT; simp [e])
  have h1 : ¬ T.toList = [67, 86, 68, 49] := fun k => h (by have := toList_inj (k.trans (tl_val (t := t2) rfl).symm); unfold isT; simp [this])
  have g2 : (T.toList == [67, 86, 67, 49]) = false := tl_no (t := t3) rfl fun e => h (by unfold isT; simp [e])
  have h2 : ¬ T.toList = [67, 86, 67, 49] := fun k => h (by have := toList_inj (k.trans (tl_val (t := t3) rfl).symm); unfold isT; simp [this])
  have g3 : (T.toList == [67, 86, 79, 49]) = false := tl_no (t := t4) rfl fun e => h (by unfold isT; simp [e])
  have h3 : ¬ T.toList = [67, 86, 79, 49] := fun k => h (by have := toList_inj (k.trans (tl_val (t := t4) rfl).symm); unfold isT; simp [this])
  clear h
  go_enter Tryz.func16, Tryz.ntmps16
  go_wp2
  go_ret
  exact ⟨rfl, B0⟩
set_option maxHeartbeats 4000000 in
theorem refMay_n2a (T : ByteArray) (e q p : Int) (a : Option Addr) (n c : Nat) (w : World) (ht : T.toList = [67, 86, 83, 49] ∨ T.toList = [67, 86, 68, 49] ∨ T.toList = [67, 86, 67, 49] ∨ T.toList = [67, 86, 79, 49])  (h : e < 1) :
    Calls Tryz.prog 16 #[.agg #[.string T, .int .i64 e, .int .i64 q, .int .i64 p, .slice a n c]] w fun en w' => en = .returned (.bool false) ∧ Below w.heap.size w w' := by
  have m0 := Sm.new w T e q p (.slice a n c)
  have B0 := snew w T e q p (.slice a n c)
  have d0 := m0.c0
  have d1 := m0.c1
  have d2 := m0.c2
  have d3 := m0.c3
  have d4 := m0.c4
  clear m0
  rcases ht with ht | ht | ht | ht
  · go_enter Tryz.func16, Tryz.ntmps16
    go_wp2
    go_ret
    exact ⟨rfl, B0⟩
  · go_enter Tryz.func16, Tryz.ntmps16
    go_wp2
    go_ret
    exact ⟨rfl, B0⟩
  · go_enter Tryz.func16, Tryz.ntmps16
    go_wp2
    go_ret
    exact ⟨rfl, B0⟩
  · go_enter Tryz.func16, Tryz.ntmps16
    go_wp2
    go_ret
    exact ⟨rfl, B0⟩
set_option maxHeartbeats 4000000 in
theorem refMay_n2b (T : ByteArray) (e q p : Int) (a : Option Addr) (n c : Nat) (w : World) (ht : T.toList = [67, 86, 83, 49] ∨ T.toList = [67, 86, 68, 49] ∨ T.toList = [67, 86, 67, 49] ∨ T.toList = [67, 86, 79, 49])  (h0 : 1 ≤ e) (h : 4611686018427387904 < e) :
    Calls Tryz.prog 16 #[.agg #[.string T, .int .i64 e, .int .i64 q, .int .i64 p, .slice a n c]] w fun en w' => en = .returned (.bool false) ∧ Below w.heap.size w w' := by
  have m0 := Sm.new w T e q p (.slice a n c)
  have B0 := snew w T e q p (.slice a n c)
  have d0 := m0.c0
  have d1 := m0.c1
  have d2 := m0.c2
  have d3 := m0.c3
  have d4 := m0.c4
  clear m0
  have h1 : ¬ e < 1 := by omega
  rcases ht with ht | ht | ht | ht
  · go_enter Tryz.func16, Tryz.ntmps16
    go_wp2
    go_ret
    exact ⟨rfl, B0⟩
  · go_enter Tryz.func16, Tryz.ntmps16
    go_wp2
    go_ret
    exact ⟨rfl, B0⟩
  · go_enter Tryz.func16, Tryz.ntmps16
    go_wp2
    go_ret
    exact ⟨rfl, B0⟩
  · go_enter Tryz.func16, Tryz.ntmps16
    go_wp2
    go_ret
    exact ⟨rfl, B0⟩
set_option maxHeartbeats 4000000 in
theorem refMay_n3a (T : ByteArray) (e q p : Int) (a : Option Addr) (n c : Nat) (w : World) (ht : T.toList = [67, 86, 83, 49] ∨ T.toList = [67, 86, 68, 49] ∨ T.toList = [67, 86, 67, 49] ∨ T.toList = [67, 86, 79, 49]) (h2 : sq e) (h : q < 1) :
    Calls Tryz.prog 16 #[.agg #[.string T, .int .i64 e, .int .i64 q, .int .i64 p, .slice a n c]] w fun en w' => en = .returned (.bool false) ∧ Below w.heap.size w w' := by
  have m0 := Sm.new w T e q p (.slice a n c)
  have B0 := snew w T e q p (.slice a n c)
  have d0 := m0.c0
  have d1 := m0.c1
  have d2 := m0.c2
  have d3 := m0.c3
  have d4 := m0.c4
  clear m0
  obtain ⟨a1, a2⟩ := h2
  rcases ht with ht | ht | ht | ht
  · go_enter Tryz.func16, Tryz.ntmps16
    go_wp2
    go_ret
    exact ⟨rfl, B0⟩
  · go_enter Tryz.func16, Tryz.ntmps16
    go_wp2
    go_ret
    exact ⟨rfl, B0⟩
  · go_enter Tryz.func16, Tryz.ntmps16
    go_wp2
    go_ret
    exact ⟨rfl, B0⟩
  · go_enter Tryz.func16, Tryz.ntmps16
    go_wp2
    go_ret
    exact ⟨rfl, B0⟩
set_option maxHeartbeats 4000000 in
theorem refMay_n3b (T : ByteArray) (e q p : Int) (a : Option Addr) (n c : Nat) (w : World) (ht : T.toList = [67, 86, 83, 49] ∨ T.toList = [67, 86, 68, 49] ∨ T.toList = [67, 86, 67, 49] ∨ T.toList = [67, 86, 79, 49]) (h2 : sq e) (h0 : 1 ≤ q) (h : 4611686018427387904 < q) :
    Calls Tryz.prog 16 #[.agg #[.string T, .int .i64 e, .int .i64 q, .int .i64 p, .slice a n c]] w fun en w' => en = .returned (.bool false) ∧ Below w.heap.size w w' := by
  have m0 := Sm.new w T e q p (.slice a n c)
  have B0 := snew w T e q p (.slice a n c)
  have d0 := m0.c0
  have d1 := m0.c1
  have d2 := m0.c2
  have d3 := m0.c3
  have d4 := m0.c4
  clear m0
  obtain ⟨a1, a2⟩ := h2
  have h1 : ¬ q < 1 := by omega
  rcases ht with ht | ht | ht | ht
  · go_enter Tryz.func16, Tryz.ntmps16
    go_wp2
    go_ret
    exact ⟨rfl, B0⟩
  · go_enter Tryz.func16, Tryz.ntmps16
    go_wp2
    go_ret
    exact ⟨rfl, B0⟩
  · go_enter Tryz.func16, Tryz.ntmps16
    go_wp2
    go_ret
    exact ⟨rfl, B0⟩
  · go_enter Tryz.func16, Tryz.ntmps16
    go_wp2
    go_ret
    exact ⟨rfl, B0⟩
set_option maxHeartbeats 4000000 in
theorem refMay_n4 (T : ByteArray) (e q p : Int) (a : Option Addr) (n c : Nat) (w : World) (ht : T.toList = [67, 86, 83, 49] ∨ T.toList = [67, 86, 68, 49] ∨ T.toList = [67, 86, 67, 49] ∨ T.toList = [67, 86, 79, 49]) (h2 : sq e) (h3 : sq q) (h : ¬ 0 ≤ p) :
    Calls Tryz.prog 16 #[.agg #[.string T, .int .i64 e, .int .i64 q, .int .i64 p, .slice a n c]] w fun en w' => en = .returned (.bool false) ∧ Below w.heap.size w w' := by
  have m0 := Sm.new w T e q p (.slice a n c)
  have B0 := snew w T e q p (.slice a n c)
  have d0 := m0.c0
  have d1 := m0.c1
  have d2 := m0.c2
  have d3 := m0.c3
  have d4 := m0.c4
  clear m0
  obtain ⟨a1, a2⟩ := h2
  obtain ⟨b1, b2⟩ := h3
  have x4 : decide (0 ≤ p) = false := decide_eq_false h
  rcases ht with ht | ht | ht | ht
  · go_enter Tryz.func16, Tryz.ntmps16
    go_wp2
    go_ret
    exact ⟨rfl, B0⟩
  · go_enter Tryz.func16, Tryz.ntmps16
    go_wp2
    go_ret
    exact ⟨rfl, B0⟩
  · go_enter Tryz.func16, Tryz.ntmps16
    go_wp2
    go_ret
    exact ⟨rfl, B0⟩
  · go_enter Tryz.func16, Tryz.ntmps16
    go_wp2
    go_ret
    exact ⟨rfl, B0⟩
set_option maxHeartbeats 4000000 in
theorem refMay_n5 (T : ByteArray) (e q p : Int) (a : Option Addr) (n c : Nat) (w : World) (ht : T.toList = [67, 86, 83, 49] ∨ T.toList = [67, 86, 68, 49] ∨ T.toList = [67, 86, 67, 49] ∨ T.toList = [67, 86, 79, 49]) (h2 : sq e) (h3 : sq q) (h0 : 0 ≤ p) (h : ¬ p < 8192) :
    Calls Tryz.prog 16 #[.agg #[.string T, .int .i64 e, .int .i64 q, .int .i64 p, .slice a n c]] w fun en w' => en = .returned (.bool false) ∧ Below w.heap.size w w' := by
  have m0 := Sm.new w T e q p (.slice a n c)
  have B0 := snew w T e q p (.slice a n c)
  have d0 := m0.c0
  have d1 := m0.c1
  have d2 := m0.c2
  have d3 := m0.c3
  have d4 := m0.c4
  clear m0
  obtain ⟨a1, a2⟩ := h2
  obtain ⟨b1, b2⟩ := h3
  have x5 : decide (p < 8192) = false := decide_eq_false h
  rcases ht with ht | ht | ht | ht
  · go_enter Tryz.func16, Tryz.ntmps16
    go_wp2
    go_ret
    exact ⟨rfl, B0⟩
  · go_enter Tryz.func16, Tryz.ntmps16
    go_wp2
    go_ret
    exact ⟨rfl, B0⟩
  · go_enter Tryz.func16, Tryz.ntmps16
    go_wp2
    go_ret
    exact ⟨rfl, B0⟩
  · go_enter Tryz.func16, Tryz.ntmps16
    go_wp2
    go_ret
    exact ⟨rfl, B0⟩
set_option maxHeartbeats 4000000 in
theorem refMay_n6 (T : ByteArray) (e q p : Int) (a : Option Addr) (n c : Nat) (w : World) (ht : T.toList = [67, 86, 83, 49] ∨ T.toList = [67, 86, 68, 49] ∨ T.toList = [67, 86, 67, 49] ∨ T.toList = [67, 86, 79, 49]) (h2 : sq e) (h3 : sq q) (h0 : 0 ≤ p) (h1 : p < 8192) (h : ¬ n ≤ 480) :
    Calls Tryz.prog 16 #[.agg #[.string T, .int .i64 e, .int .i64 q, .int .i64 p, .slice a n c]] w fun en w' => en = .returned (.bool false) ∧ Below w.heap.size w w' := by
  have m0 := Sm.new w T e q p (.slice a n c)
  have B0 := snew w T e q p (.slice a n c)
  have d0 := m0.c0
  have d1 := m0.c1
  have d2 := m0.c2
  have d3 := m0.c3
  have d4 := m0.c4
  clear m0
  obtain ⟨a1, a2⟩ := h2
  obtain ⟨b1, b2⟩ := h3
  have x5 : ¬ (n : Int) ≤ 480 := by omega
  have x6 : decide ((n : Int) ≤ 480) = false := decide_eq_false x5
  rcases ht with ht | ht | ht | ht
  · go_enter Tryz.func16, Tryz.ntmps16
    go_wp2
    go_ret
    exact ⟨rfl, B0⟩
  · go_enter Tryz.func16, Tryz.ntmps16
    go_wp2
    go_ret
    exact ⟨rfl, B0⟩
  · go_enter Tryz.func16, Tryz.ntmps16
    go_wp2
    go_ret
    exact ⟨rfl, B0⟩
  · go_enter Tryz.func16, Tryz.ntmps16
    go_wp2
    go_ret
    exact ⟨rfl, B0⟩
theorem refMay_n (T : ByteArray) (e q p : Int) (a : Option Addr) (n c : Nat) (w : World) (h : ¬ MayN T e q p n) :
    Calls Tryz.prog 16 #[.agg #[.string T, .int .i64 e, .int .i64 q, .int .i64 p, .slice a n c]] w fun en w' => en = .returned (.bool false) ∧ Below w.heap.size w w' := by
  by_cases h1 : isT T
  · have ht : T.toList = [67, 86, 83, 49] ∨ T.toList = [67, 86, 68, 49] ∨ T.toList = [67, 86, 67, 49] ∨ T.toList = [67, 86, 79, 49] := by
      rcases id h1 with rfl | rfl | rfl | rfl
      · exact .inl (tl_val rfl)
      · exact .inr (.inl (tl_val rfl))
      · exact .inr (.inr (.inl (tl_val rfl)))
      · exact .inr (.inr (.inr (tl_val rfl)))
    by_cases h2 : sq e
    · by_cases h3 : sq q
      · by_cases h4 : 0 ≤ p
        · by_cases h5 : p < 8192
          · exact refMay_n6 T e q p a n c w ht h2 h3 h4 h5 fun k => h ⟨h1, h2, h3, ⟨h4, by omega⟩, k⟩
          · exact refMay_n5 T e q p a n c w ht h2 h3 h4 h5
        · exact refMay_n4 T e q p a n c w ht h2 h3 h4
      · by_cases k : q < 1
        · exact refMay_n3a T e q p a n c w ht h2 k
        · exact refMay_n3b T e q p a n c w ht h2 (by omega) (by unfold sq at h3; omega)
    · by_cases k : e < 1
      · exact refMay_n2a T e q p a n c w ht k
      · exact refMay_n2b T e q p a n c w ht (by omega) (by unfold sq at h2; omega)
  · exact refMay_n1 T e q p a n c w h1
end Go.Proofs.YtejokaehdfcjlaaGreatDoor
