import Derived.Test.YthhakecimnnnfaaLP
namespace Go.Proofs.Ythhakecimnnnfaa
set_option maxRecDepth 100000
open Go.RowKit
set_option linter.unusedVariables false

/-! The document's small calls. -/
theorem rblocks_ (b : Int) (w : World) : Calls Try.prog 38 #[.int .i64 b] w fun e w' => e = .returned (.bool (blk b)) ∧ w' = w := by
  by_cases h1 : 1 ≤ b
  · by_cases h2 : b ≤ 1048576
    · have hr : blk b = true := decide_eq_true ⟨h1, h2⟩
      rw [hr]
      go_enter Try.func38, Try.ntmps38
      go_wp2_with fail
      all_goals (go_ret; first | exact ⟨rfl, rfl⟩ | exact ⟨ret_bool (decide_eq_true (by omega)), rfl⟩)
    · have hr : blk b = false := decide_eq_false (by omega)
      rw [hr]
      go_enter Try.func38, Try.ntmps38
      go_wp2_with fail
      all_goals (go_ret; first | exact ⟨rfl, rfl⟩ | exact ⟨ret_bool (decide_eq_false (by omega)), rfl⟩)
  · have hr : blk b = false := decide_eq_false (by omega)
    rw [hr]
    go_enter Try.func38, Try.ntmps38
    go_wp2_with fail
    all_goals (go_ret; first | exact ⟨rfl, rfl⟩ | exact ⟨ret_bool (decide_eq_false (by omega)), rfl⟩)
set_option maxHeartbeats 1000000 in
theorem rvalid17_ (a : Option Addr) (m c : Nat) (S C N D E s n : Int) (w : World) (hm : m ≤ maxLen) :
    Calls Try.prog 11 #[.agg #[.slice a m c, .int .i64 S, .int .i64 C, .int .i64 N, .int .u64 D, .int .u64 E, .int .i64 s, .int .i64 n]] w fun e w' => e = .returned (.bool (lok m S C N s n)) ∧ Below w.heap.size w w' := by
  unfold maxLen at hm
  have B0 := lnew w a m c S C N D E s n
  have m0 := Lm.new w a m c S C N D E s n
  obtain ⟨r, HR⟩ : ∃ r, Hid (lok m S C N s n = r) := ⟨_, rfl⟩
  rw [HR.out]
  unfold lok at HR
  obtain ⟨q, hq⟩ : ∃ q, vld s n = q := ⟨_, rfl⟩
  have kv := fun wx => refValid_ s n wx
  rw [hq] at kv HR
  clear hq
  have c6 := m0.c6
  have c7 := m0.c7
  go_enter Try.func11, Try.ntmps11
  go_wp2_with fail
  refine (kv _).mono ?_
  rintro e w1 ⟨rfl, g1⟩
  have HB := hid (bel_bel B0 B0.size g1)
  have m1 := m0.kept g1
  clear c6 c7
  have c0 := m1.c0
  have c1 := m1.c1
  have c2 := m1.c2
  have c3 := m1.c3
  clear B0 m0 g1 m1
  by_cases h1 : 1 ≤ C
  case neg =>
    have hr : r = false := by rw [← HR.out]; exact decide_eq_false (by omega)
    subst hr
    clear HR
    cases q <;> (go_wp2_with fail; all_goals (go_ret; first | exact ⟨rfl, HB.out⟩ | exact ⟨ret_bool (decide_eq_false (by omega)), HB.out⟩))
  by_cases h2 : C ≤ 2147483647
  case neg =>
    have hr : r = false := by rw [← HR.out]; exact decide_eq_false (by omega)
    subst hr
    clear HR
    cases q <;> (go_wp2_with fail; all_goals (go_ret; first | exact ⟨rfl, HB.out⟩ | exact ⟨ret_bool (decide_eq_false (by omega)), HB.out⟩))
  by_cases h3 : 0 ≤ N
  case neg =>
    have hr : r = false := by rw [← HR.out]; exact decide_eq_false (by omega)
    subst hr
    clear HR
    cases q <;> (go_wp2_with fail; all_goals (go_ret; first | exact ⟨rfl, HB.out⟩ | exact ⟨ret_bool (decide_eq_false (by omega)), HB.out⟩))
  by_cases h4 : N ≤ 2147483647
  case neg =>
    have hr : r = false := by rw [← HR.out]; exact decide_eq_false (by omega)
    subst hr
    clear HR
    cases q <;> (go_wp2_with fail; all_goals (go_ret; first | exact ⟨rfl, HB.out⟩ | exact ⟨ret_bool (decide_eq_false (by omega)), HB.out⟩))
  cases q with
  | false =>
    have hr : r = false := by rw [← HR.out]; exact decide_eq_false (by simp)
    subst hr
    clear HR
    go_wp2_with fail
    all_goals (go_ret; first | exact ⟨rfl, HB.out⟩ | exact ⟨ret_bool (decide_eq_false (by omega)), HB.out⟩)
  | true =>
    by_cases h5 : m = 32
    case neg =>
      have hr : r = false := by rw [← HR.out]; exact decide_eq_false (by omega)
      subst hr
      clear HR
      have hme : ((m : Int) == 32) = false := beq_eq_false_iff_ne.2 (by omega)
      go_wp2_with fail
      all_goals (go_ret; first | exact ⟨rfl, HB.out⟩ | exact ⟨ret_bool (decide_eq_false (by omega)), HB.out⟩)
    subst h5
    by_cases h6 : 0 ≤ S
    case neg =>
      have hr : r = false := by rw [← HR.out]; exact decide_eq_false (by omega)
      subst hr
      clear HR
      go_wp2_with fail
      all_goals (go_ret; first | exact ⟨rfl, HB.out⟩ | exact ⟨ret_bool (decide_eq_false (by omega)), HB.out⟩)
    by_cases h7 : S ≤ 1
    case neg =>
      have hr : r = false := by rw [← HR.out]; exact decide_eq_false (by omega)
      subst hr
      clear HR
      go_wp2_with fail
      all_goals (go_ret; first | exact ⟨rfl, HB.out⟩ | exact ⟨ret_bool (decide_eq_false (by omega)), HB.out⟩)
    have hr : r = true := by rw [← HR.out]; exact decide_eq_true ⟨rfl, rfl, by omega, h1, h2, h3, h4⟩
    subst hr
    clear HR
    go_wp2_with fail
    all_goals (go_ret; first | exact ⟨rfl, HB.out⟩ | exact ⟨ret_bool (decide_eq_true (by omega)), HB.out⟩)
theorem rabove_ (a : Option Addr) (m c : Nat) (k : List Int) (S C N D E s n : Int) (w : World) (hC : C ≤ 2147483647) (hC0 : 0 ≤ C) (hN : N ≤ 2147483647) (hN0 : 0 ≤ N) :
    Calls Try.prog 46 #[.agg #[.slice a m c, .int .i64 S, .int .i64 C, .int .i64 N, .int .u64 D, .int .u64 E, .int .i64 s, .int .i64 n]] w fun e w' => e = .returned (.int .i64 (abN ⟨k, S, C, N, D, E, s, n⟩)) ∧ Below w.heap.size w w' := by
  have B0 := lnew w a m c S C N D E s n
  have m0 := Lm.new w a m c S C N D E s n
  have c2 := m0.c2
  have c3 := m0.c3
  clear m0
  by_cases h : C < N
  · have hr : abN ⟨k, S, C, N, D, E, s, n⟩ = N + 1 := by show (if C < N then _ else _) = _; rw [if_pos h]
    rw [hr]
    go_enter Try.func46, Try.ntmps46
    go_wp2_with fail
    go_ret
    exact ⟨by go_num, B0⟩
  · have hr : abN ⟨k, S, C, N, D, E, s, n⟩ = C + 1 := by show (if C < N then _ else _) = _; rw [if_neg h]
    rw [hr]
    go_enter Try.func46, Try.ntmps46
    go_wp2_with fail
    go_ret
    exact ⟨by go_num, B0⟩
theorem rup_ (c b : Int) (w : World) (hc : u64r c) (hb : i64r b) : Calls Try.prog 13 #[.int .u64 c, .int .i64 b] w fun e w' => e = .returned (.int .u64 (upN c b)) ∧ Below w.heap.size w w' := by
  unfold u64r at hc
  have kb := rblocks_ b w
  obtain ⟨q, hq⟩ : ∃ q, blk b = q := ⟨_, rfl⟩
  rw [hq] at kb
  go_enter Try.func13, Try.ntmps13
  go_wp2_with fail
  refine kb.mono ?_
  rintro e w1 ⟨rfl, rfl⟩
  clear kb
  cases q with
  | false =>
    have hr : upN c b = 0 := by unfold upN; rw [hq]; rfl
    go_wp2_with fail
    go_ret
    rw [hr]
    exact ⟨rfl, Below.refl _ _⟩
  | true =>
    have hbb := of_decide_eq_true (show decide _ = true from hq)
    by_cases h : 18446744073709551615 - b < c
    · have hr : upN c b = 18446744073709551615 := by unfold upN; rw [hq, if_pos rfl, if_pos h]
      go_wp2_with fail
      go_ret
      rw [hr]
      exact ⟨by first | rfl | go_num, Below.refl _ _⟩
    · have hr : upN c b = c + b := by unfold upN; rw [hq, if_pos rfl, if_neg h]
      go_wp2_with fail
      go_ret
      rw [hr]
      exact ⟨by first | rfl | go_num, Below.refl _ _⟩
end Go.Proofs.Ythhakecimnnnfaa
