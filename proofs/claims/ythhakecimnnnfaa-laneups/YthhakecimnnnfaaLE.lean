import Derived.Test.YthhakecimnnnfaaLC
import Derived.Test.YthhakecimnnnfaaLD
namespace Go.Proofs.Ythhakecimnnnfaa
set_option maxRecDepth 100000
open Go.RowKit
set_option linter.unusedVariables false

set_option maxHeartbeats 1000000 in
/-- LaneValids. -/
theorem laneValids_ (ll : LL) (a : Option Addr) (m c : Nat) (k : List Int) (S C N D E s n : Int) (w : World) (hm : m ≤ maxLen) (hs : i64r s) (hn : i64r n) :
    Calls Try.prog 3 #[.agg #[.slice a m c, .int .i64 S, .int .i64 C, .int .i64 N, .int .u64 D, .int .u64 E, .int .i64 s, .int .i64 n]] w fun e w' => e = .returned (.bool true) ∧ Below w.heap.size w w' := by
  have B1 := lnew w a m c S C N D E s n
  have m1 := Lm.new w a m c S C N D E s n
  obtain ⟨W, HW⟩ : ∃ y, Hid (w.alloc (.cells #[.slice a m c, .int .i64 S, .int .i64 C, .int .i64 N, .int .u64 D, .int .u64 E, .int .i64 s, .int .i64 n] 27) = y) := ⟨_, rfl⟩
  obtain ⟨gg, Hg⟩ : ∃ y, Hid (w.heap.size = y) := ⟨_, rfl⟩
  rw [HW.out] at B1 m1
  rw [Hg.out] at m1
  have HB := hid B1
  have HM := hid m1
  clear B1 m1
  go_enter Try.func3, Try.ntmps3
  go_wp2_with fail
  rw [HW.out, Hg.out]
  clear HW
  refine (known_ ll W).mono ?_
  rintro e w1 ⟨rfl, g1⟩
  have HB1 : Hid (Bw W w1) := g1
  have n1 := HM.out.kept g1
  have y0 := n1.c0
  have y1 := n1.c1
  have y2 := n1.c2
  have y3 := n1.c3
  have y4 := n1.c4
  have y5 := n1.c5
  have y6 := n1.c6
  have y7 := n1.c7
  clear g1 n1
  go_wp2_with fail
  refine (ll.valid a m c k S C N D E s n w1 hm hs hn).mono ?_
  rintro e w2 ⟨rfl, g2⟩
  have HB2 : Hid (Bw W w2) := HB1.out.on g2
  clear y0 y1 y2 y3 y4 y5 y6 y7
  have n1 := HM.out.kept HB2.out
  have y0 := n1.c0
  have y1 := n1.c1
  have y2 := n1.c2
  have y3 := n1.c3
  have y4 := n1.c4
  have y5 := n1.c5
  have y6 := n1.c6
  have y7 := n1.c7
  clear g2 n1
  go_wp2_with fail
  refine (dlc.valid a m c k S C N D E s n w2 hm hs hn).mono ?_
  rintro e w3 ⟨rfl, g3⟩
  have HB3 : Hid (Bw W w3) := HB2.out.on g3
  clear y0 y1 y2 y3 y4 y5 y6 y7 g3
  have HF : Hid (Below w.heap.size w w3) := bel_bel HB.out HB.out.size HB3.out
  obtain ⟨q, hq⟩ : ∃ q, lok m S C N s n = q := ⟨_, rfl⟩
  rw [hq]
  clear hq
  cases q <;> (go_wp2_with fail; go_ret; exact ⟨rfl, HF.out⟩)
set_option maxHeartbeats 1000000 in
/-- LaneUps. -/
theorem laneUps_ (ll : LL) (c b : Int) (w : World) (hc : u64r c) (hb : i64r b) :
    Calls Try.prog 4 #[.int .u64 c, .int .i64 b] w fun e w' => e = .returned (.bool true) ∧ Below w.heap.size w w' := by
  go_enter Try.func4, Try.ntmps4
  go_wp2_with fail
  refine (known_ ll w).mono ?_
  rintro e w1 ⟨rfl, g1⟩
  have HB1 : Hid (Bw w w1) := g1
  clear g1
  go_wp2_with fail
  refine (ll.up c b w1 hc hb).mono ?_
  rintro e w2 ⟨rfl, g2⟩
  have HB2 : Hid (Bw w w2) := HB1.out.on g2
  clear g2
  go_wp2_with fail
  refine (dlc.up c b w2 hc hb).mono ?_
  rintro e w3 ⟨rfl, g3⟩
  have HB3 : Hid (Bw w w3) := HB2.out.on g3
  clear g3
  obtain ⟨u, hu⟩ : ∃ u, upN c b = u := ⟨_, rfl⟩
  rw [hu]
  have he : (u == u) = true := by simp
  go_wp2_with fail
  go_ret
  exact ⟨rfl, HB3.out⟩
set_option maxHeartbeats 4000000 in
/-- LaneUpper. -/
theorem laneUpper_ (ll : LL) (c d b : Int) (w : World) (hc : u64r c) (hd : u64r d) (hb : i64r b) :
    Calls Try.prog 5 #[.int .u64 c, .int .u64 d, .int .i64 b] w fun e w' => e = .returned (.bool true) ∧ Below w.heap.size w w' := by
  go_enter Try.func5, Try.ntmps5
  go_wp2_with fail
  refine (known_ ll w).mono ?_
  rintro e w1 ⟨rfl, g1⟩
  have HB1 : Hid (Bw w w1) := g1
  clear g1
  have k1 := ll.up c b w1 hc hb
  by_cases h1 : 1 ≤ b
  case neg =>
    rw [show upN c b = 0 from by unfold upN blk; rw [decide_eq_false (by omega)]; rfl] at k1
    go_wp2_with fail
    refine k1.mono ?_
    rintro e w2 ⟨rfl, g2⟩
    have HB2 : Hid (Bw w w2) := HB1.out.on g2
    clear g2 k1
    go_wp2_with fail
    go_ret
    exact ⟨rfl, HB2.out⟩
  by_cases h2 : b ≤ 1048576
  case neg =>
    rw [show upN c b = 0 from by unfold upN blk; rw [decide_eq_false (by omega)]; rfl] at k1
    go_wp2_with fail
    refine k1.mono ?_
    rintro e w2 ⟨rfl, g2⟩
    have HB2 : Hid (Bw w w2) := HB1.out.on g2
    clear g2 k1
    go_wp2_with fail
    go_ret
    exact ⟨rfl, HB2.out⟩
  have hbk : blk b = true := decide_eq_true ⟨h1, h2⟩
  have HU : Hid ((18446744073709551615 - b < c ∧ upN c b = 18446744073709551615) ∨ (c ≤ 18446744073709551615 - b ∧ upN c b = c + b)) := by
    show _ ∨ _
    unfold upN
    rw [hbk, if_pos rfl]
    split
    · exact .inl ⟨by assumption, rfl⟩
    · exact .inr ⟨by omega, rfl⟩
  have HV : Hid ((18446744073709551615 - b < d ∧ upN d b = 18446744073709551615) ∨ (d ≤ 18446744073709551615 - b ∧ upN d b = d + b)) := by
    show _ ∨ _
    unfold upN
    rw [hbk, if_pos rfl]
    split
    · exact .inl ⟨by assumption, rfl⟩
    · exact .inr ⟨by omega, rfl⟩
  obtain ⟨u, hu⟩ : ∃ u, upN c b = u := ⟨_, rfl⟩
  obtain ⟨v, hv⟩ : ∃ v, upN d b = v := ⟨_, rfl⟩
  have k2 := fun wx => ll.up d b wx hd hb
  rw [hu] at k1 HU
  rw [hv] at k2 HV
  unfold u64r at hc hd
  clear hu hv hbk
  go_wp2_with fail
  refine k1.mono ?_
  rintro e w2 ⟨rfl, g2⟩
  have HB2 : Hid (Bw w w2) := HB1.out.on g2
  clear g2 k1
  go_wp2_with fail
  refine (k2 _).mono ?_
  rintro e w3 ⟨rfl, g3⟩
  have HB3 : Hid (Bw w w3) := HB2.out.on g3
  clear g3 k2
  have hub : b % 18446744073709551616 = b := by omega
  have hU := HU.out
  have hV := HV.out
  clear HU HV
  rcases hU with ⟨p1, rfl⟩ | ⟨p1, rfl⟩
  · have q0 : ¬ (c < 18446744073709551615 - b) := by omega
    have r1 : ((18446744073709551615 : Int) != 18446744073709551615) = false := by simp
    rcases hV with ⟨p2, rfl⟩ | ⟨p2, rfl⟩
    · by_cases hcm : c ≤ 18446744073709551614 <;> by_cases hcd : d < c <;> (go_wp2_with fail; all_goals (go_ret; first | exact ⟨rfl, HB3.out⟩ | exact ⟨ret_bool (decide_eq_true (by omega)), HB3.out⟩ | exact ⟨ret_bool (by simp; omega), HB3.out⟩))
    · have hcd : d < c := by omega
      by_cases hcm : c ≤ 18446744073709551614 <;> (go_wp2_with fail; all_goals (go_ret; first | exact ⟨rfl, HB3.out⟩ | exact ⟨ret_bool (decide_eq_true (by omega)), HB3.out⟩ | exact ⟨ret_bool (by simp; omega), HB3.out⟩))
  · have e0 : c + b - c = b := by omega
    have r2 : (b != b) = false := by simp
    have hcm : c ≤ 18446744073709551614 := by omega
    have q1 : ¬ (c + b ≤ c) := by omega
    have q2 : ¬ (18446744073709551615 < c + b) := by omega
    have q3 : ¬ (c + b < c) := by omega
    by_cases he : c + b = 18446744073709551615
    · have r1 : ((c + b) != 18446744073709551615) = false := by rw [he]; simp
      have r3 : ((c + b) == 18446744073709551615) = true := by rw [he]; simp
      have q0 : ¬ (c < 18446744073709551615 - b) := by omega
      rcases hV with ⟨p2, rfl⟩ | ⟨p2, rfl⟩ <;> by_cases hcd : d < c <;> (go_wp2_with fail; all_goals (go_ret; first | exact ⟨rfl, HB3.out⟩ | exact ⟨ret_bool (decide_eq_true (by omega)), HB3.out⟩ | exact ⟨ret_bool (by simp; omega), HB3.out⟩))
    · have r1 : ((c + b) != 18446744073709551615) = true := bne_iff_ne.2 he
      have r3 : ((c + b) == 18446744073709551615) = false := beq_eq_false_iff_ne.2 he
      rcases hV with ⟨p2, rfl⟩ | ⟨p2, rfl⟩ <;> by_cases hcd : d < c <;> (go_wp2_with fail; all_goals (go_ret; first | exact ⟨rfl, HB3.out⟩ | exact ⟨ret_bool (decide_eq_true (by omega)), HB3.out⟩ | exact ⟨ret_bool (by simp; omega), HB3.out⟩))
end Go.Proofs.Ythhakecimnnnfaa
