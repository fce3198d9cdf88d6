import Derived.Test.YtgjamfnhkeoedaaLawSeals
namespace Go.Proofs.Ytgjamfnhkeoedaa
open Go.RowKit
set_option linter.unusedVariables false

set_option maxHeartbeats 2000000 in
theorem gcmBack_ (a0 : Option Addr) (n0 c0 : Nat) (z0 : List Int) (a1 : Option Addr) (n1 c1 : Nat) (z1 : List Int) (a2 : Option Addr) (n2 c2 : Nat) (z2 : List Int) (a3 : Option Addr) (n3 c3 : Nat) (z3 : List Int) (w : World) (hb0 : Bs w a0 n0 z0) (hn0 : n0 ≤ 140737488351232) (hb1 : Bs w a1 n1 z1) (hn1 : n1 ≤ 140737488351232) (hb2 : Bs w a2 n2 z2) (hn2 : n2 ≤ 140737488351232) (hb3 : Bs w a3 n3 z3) (hn3 : n3 ≤ 140737488351232) :
    Calls Try.prog 5 #[.slice a0 n0 c0, .slice a1 n1 c1, .slice a2 n2 c2, .slice a3 n3 c3] w fun e w' => e = .returned (.bool true) ∧ Below w.heap.size w w' := by
  obtain ⟨t0, rfl, HY0⟩ := as_nat hb0.2.1
  obtain ⟨t1, rfl, HY1⟩ := as_nat hb1.2.1
  obtain ⟨t2, rfl, HY2⟩ := as_nat hb2.2.1
  obtain ⟨t3, rfl, HY3⟩ := as_nat hb3.2.1
  go_enter Try.func5, Try.ntmps5
  go_wp2_with fail
  refine (first_ w).mono ?_
  rintro e w1 ⟨rfl, B0⟩
  go_wp2_with fail
  refine (refBytes a0 n0 c0 (ic t0) _ (hb0.below B0) (by omega)).mono ?_
  rintro e w1c0 ⟨v0, rfl, ho, g2⟩
  obtain ⟨ka0, kc0, rfl, kb0, kl0, km0, _⟩ := own_form ho (ic_bytes HY0.out)
  have B0 := bel_bel B0 B0.size g2
  clear g2 ho
  go_wp2_with fail
  refine (refBytes a1 n1 c1 (ic t1) _ (hb1.below B0) (by omega)).mono ?_
  rintro e w1c1 ⟨v1, rfl, ho, g2⟩
  have kb0 := kb0.below g2
  obtain ⟨ka1, kc1, rfl, kb1, kl1, km1, _⟩ := own_form ho (ic_bytes HY1.out)
  have B0 := bel_bel B0 B0.size g2
  clear g2 ho
  go_wp2_with fail
  refine (refBytes a2 n2 c2 (ic t2) _ (hb2.below B0) (by omega)).mono ?_
  rintro e w1c2 ⟨v2, rfl, ho, g2⟩
  have kb0 := kb0.below g2
  have kb1 := kb1.below g2
  obtain ⟨ka2, kc2, rfl, kb2, kl2, km2, _⟩ := own_form ho (ic_bytes HY2.out)
  have B0 := bel_bel B0 B0.size g2
  clear g2 ho
  go_wp2_with fail
  refine (refBytes a3 n3 c3 (ic t3) _ (hb3.below B0) (by omega)).mono ?_
  rintro e w1c3 ⟨v3, rfl, ho, g2⟩
  have kb0 := kb0.below g2
  have kb1 := kb1.below g2
  have kb2 := kb2.below g2
  obtain ⟨ka3, kc3, rfl, kb3, kl3, km3, _⟩ := own_form ho (ic_bytes HY3.out)
  have B0 := bel_bel B0 B0.size g2
  clear g2 ho
  by_cases hg : n0 = 32 ∧ n1 = 12 ∧ n2 ≤ 65536 ∧ n3 ≤ 65536
  · obtain ⟨rfl, rfl, h2, h3⟩ := hg
    have k1 := fun w h0 h1 h2' h3' => seal_ ka0 ka1 ka2 ka3 kc0 kc1 n2 kc2 n3 kc3 t0 t1 t2 t3 w h0 h1 h2' h3' HY0.out HY1.out HY2.out HY3.out h2 h3 kl2 km2 kl3 km3
    have HY9 : Hid (∀ x ∈ sl (kf t0) t1 t2 t3, x < 256) := sl_lt (kf_lt HY0.out) HY1.out HY3.out
    have hl3 : t3.length = n3 := by have := hb3.1; rwa [ic_length] at this
    have HT : Hid ((sl (kf t0) t1 t2 t3).take n3 = st (kf t0) t1 t3) := by
      show _ = _
      unfold sl
      rw [List.take_append_of_le_length (by rw [st_length]; omega), List.take_of_length_le (by rw [st_length]; omega)]
    have HD : Hid ((sl (kf t0) t1 t2 t3).drop n3 = tl (kf t0) t1 t2 (st (kf t0) t1 t3)) := by
      show _ = _
      unfold sl
      rw [← hl3, ← st_length (kf t0) t1 t3, List.drop_left]
    have HS := hid (st_st (kf t0) t1 t3)
    generalize sl (kf t0) t1 t2 t3 = t9 at *
    clear hl3
    go_wp2_with fail
    refine (k1 _ kb0 kb1 kb2 kb3).mono ?_
    rintro e w2 ⟨sa, scap, rfl, sb, hs1, hs2, g2⟩
    have B0 := bel_bel B0 B0.size g2
    clear g2 k1 kb0 kb1 kb2 kb3 kl0 kl1 kl2 kl3 km0 km1 km2 km3
    go_wp2_with fail
    refine (num_ 0 _).mono ?_
    rintro e w3 ⟨rfl, rfl⟩
    go_wp2_with fail
    refine (refBytes a0 32 c0 (ic t0) _ (hb0.below B0) (by omega)).mono ?_
    rintro e w2c0 ⟨v0, rfl, ho, g2⟩
    have sb := sb.below g2
    obtain ⟨ma0, mc0, rfl, mb0, ml0, mm0, _⟩ := own_form ho (ic_bytes HY0.out)
    have B0 := bel_bel B0 B0.size g2
    clear g2 ho
    go_wp2_with fail
    refine (refBytes a1 12 c1 (ic t1) _ (hb1.below B0) (by omega)).mono ?_
    rintro e w2c1 ⟨v1, rfl, ho, g2⟩
    have sb := sb.below g2
    have mb0 := mb0.below g2
    obtain ⟨ma1, mc1, rfl, mb1, ml1, mm1, _⟩ := own_form ho (ic_bytes HY1.out)
    have B0 := bel_bel B0 B0.size g2
    clear g2 ho
    go_wp2_with fail
    refine (refBytes a2 n2 c2 (ic t2) _ (hb2.below B0) (by omega)).mono ?_
    rintro e w2c2 ⟨v2, rfl, ho, g2⟩
    have sb := sb.below g2
    have mb0 := mb0.below g2
    have mb1 := mb1.below g2
    obtain ⟨ma2, mc2, rfl, mb2, ml2, mm2, _⟩ := own_form ho (ic_bytes HY2.out)
    have B0 := bel_bel B0 B0.size g2
    clear g2 ho
    go_wp2_with fail
    refine (refBytes sa (n3 + 16) scap (ic t9) _ sb (by omega)).mono ?_
    rintro e w2c3 ⟨v3, rfl, ho, g2⟩
    have sb := sb.below g2
    have mb0 := mb0.below g2
    have mb1 := mb1.below g2
    have mb2 := mb2.below g2
    obtain ⟨ma3, mc3, rfl, mb3, ml3, mm3, _⟩ := own_form ho (ic_bytes HY9.out)
    have B0 := bel_bel B0 B0.size g2
    clear g2 ho
    have k2 := fun w h0 h1 h2' h3' => open_ ma0 ma1 ma2 ma3 mc0 mc1 n2 mc2 n3 mc3 t0 t1 t2 t9 w h0 h1 h2' h3' HY0.out HY1.out HY2.out HY9.out h2 h3 ml3 ml2 mm2 mm3
    rw [HT.out, HD.out, HS.out] at k2
    go_wp2_with fail
    refine (k2 _ mb0 mb1 mb2 mb3).mono ?_
    rintro e w4 ⟨g2, hh⟩
    have B0 := bel_bel B0 B0.size g2
    rcases hh with ⟨_, oa, ocap, rfl, ob, _, _⟩ | ⟨hh, _⟩
    · clear g2 k2 mb0 mb1 mb2 mb3 sb
      go_wp2_with fail
      refine (same_yes oa a3 n3 ocap n3 c3 (ic t3) w4 ob (hb3.below B0) (by omega) (by omega)).mono ?_
      rintro e w5 ⟨rfl, D⟩
      have B0 := bel_bel B0 B0.size D.below
      clear D ob
      go_wp2_with fail
      go_ret
      exact ⟨rfl, B0⟩
    · exact absurd rfl hh
  · have hx : n0 ≠ 32 ∨ n1 ≠ 12 ∨ 65536 < n2 ∨ 65536 < n3 := by omega
    have k1 := fun w hb => seal_bad ka0 ka1 ka2 ka3 n0 kc0 n1 kc1 n2 kc2 n3 kc3 (ic t0) w hb (by unfold maxLen; omega) (by unfold maxLen; omega) (by unfold maxLen; omega) (by unfold maxLen; omega) hx
    clear kb1 kb2 kb3 kl0 kl1 kl2 kl3 km0 km1 km2 km3
    by_cases e0 : n0 = 32
    · by_cases e1 : n1 = 12
      · rw [if_neg (by omega), if_neg (by omega)] at k1
        by_cases e2 : 65536 < n2
        · have b0 : ((n0 : Int) != 32) = false := by simp [e0]
          have b1 : ((n1 : Int) != 12) = false := by simp [e1]
          have d2 : decide ((65536 : Int) < (n2 : Int)) = true := decide_eq_true (by omega)
          clear e0 e1 e2 hg hx
          go_wp2_with fail
          refine (k1 _ kb0).mono ?_
          rintro e w2 ⟨⟨sa, scap, rfl⟩, g2⟩
          have B0 := bel_bel B0 B0.size g2
          clear g2 k1 kb0
          go_wp2_with fail
          refine (num_ 51 _).mono ?_
          rintro e w5 ⟨rfl, rfl⟩
          go_wp2_with fail
          go_ret
          exact ⟨rfl, B0⟩
        · have b0 : ((n0 : Int) != 32) = false := by simp [e0]
          have b1 : ((n1 : Int) != 12) = false := by simp [e1]
          have d2 : decide ((65536 : Int) < (n2 : Int)) = false := decide_eq_false (by omega)
          have d3 : decide ((65536 : Int) < (n3 : Int)) = true := decide_eq_true (by omega)
          clear e0 e1 e2 hg hx
          go_wp2_with fail
          refine (k1 _ kb0).mono ?_
          rintro e w2 ⟨⟨sa, scap, rfl⟩, g2⟩
          have B0 := bel_bel B0 B0.size g2
          clear g2 k1 kb0
          go_wp2_with fail
          refine (num_ 51 _).mono ?_
          rintro e w5 ⟨rfl, rfl⟩
          go_wp2_with fail
          go_ret
          exact ⟨rfl, B0⟩
      · rw [if_neg (by omega), if_pos (by omega)] at k1
        have b0 : ((n0 : Int) != 32) = false := by simp [e0]
        have b1 : ((n1 : Int) != 12) = true := by simpa using fun h => e1 (by omega)
        clear e0 e1 hg hx
        go_wp2_with fail
        refine (k1 _ kb0).mono ?_
        rintro e w2 ⟨⟨sa, scap, rfl⟩, g2⟩
        have B0 := bel_bel B0 B0.size g2
        clear g2 k1 kb0
        go_wp2_with fail
        refine (num_ 50 _).mono ?_
        rintro e w5 ⟨rfl, rfl⟩
        go_wp2_with fail
        go_ret
        exact ⟨rfl, B0⟩
    · rw [if_pos (by omega)] at k1
      have b0 : ((n0 : Int) != 32) = true := by simpa using fun h => e0 (by omega)
      clear e0 hg hx
      go_wp2_with fail
      refine (k1 _ kb0).mono ?_
      rintro e w2 ⟨⟨sa, scap, rfl⟩, g2⟩
      have B0 := bel_bel B0 B0.size g2
      clear g2 k1 kb0
      go_wp2_with fail
      refine (num_ 40 _).mono ?_
      rintro e w5 ⟨rfl, rfl⟩
      go_wp2_with fail
      go_ret
      exact ⟨rfl, B0⟩
end Go.Proofs.Ytgjamfnhkeoedaa
