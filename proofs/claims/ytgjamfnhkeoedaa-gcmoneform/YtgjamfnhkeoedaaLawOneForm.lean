import Derived.Test.YtgjamfnhkeoedaaLawSeals
namespace Go.Proofs.Ytgjamfnhkeoedaa
open Go.RowKit
set_option linter.unusedVariables false

set_option maxHeartbeats 2000000 in
theorem gcmOneForm_ (a0 : Option Addr) (n0 c0 : Nat) (z0 : List Int) (a1 : Option Addr) (n1 c1 : Nat) (z1 : List Int) (a2 : Option Addr) (n2 c2 : Nat) (z2 : List Int) (a3 : Option Addr) (n3 c3 : Nat) (z3 : List Int) (w : World) (hb0 : Bs w a0 n0 z0) (hn0 : n0 ≤ 140737488351232) (hb1 : Bs w a1 n1 z1) (hn1 : n1 ≤ 140737488351232) (hb2 : Bs w a2 n2 z2) (hn2 : n2 ≤ 140737488351232) (hb3 : Bs w a3 n3 z3) (hn3 : n3 ≤ 140737488351232) :
    Calls Try.prog 6 #[.slice a0 n0 c0, .slice a1 n1 c1, .slice a2 n2 c2, .slice a3 n3 c3] w fun e w' => e = .returned (.bool true) ∧ Below w.heap.size w w' := by
  obtain ⟨t0, rfl, HY0⟩ := as_nat hb0.2.1
  obtain ⟨t1, rfl, HY1⟩ := as_nat hb1.2.1
  obtain ⟨t2, rfl, HY2⟩ := as_nat hb2.2.1
  obtain ⟨t3, rfl, HY3⟩ := as_nat hb3.2.1
  go_enter Try.func6, Try.ntmps6
  go_wp2_with fail
  refine (first_ w).mono ?_
  rintro e w1 ⟨rfl, B0⟩
  go_wp2_with fail
  refine (refBytes a0 n0 c0 (ic t0) _ (hb0.below B0) (by omega)).mono ?_
  rintro e w1c0 ⟨v0, rfl, ho, g2⟩
  obtain ⟨ka0, kc0, rfl, kb0, kl0, km0, _⟩ := own_form ho (ic_bytes HY0.out)
  have B0 := bel_bel B0 B0.size g2
  clear g2 ho
  go_wp2_with fail
  refine (refBytes a1 n1 c1 (ic t1) _ (hb1.below B0) (by omega)).mono ?_
  rintro e w1c1 ⟨v1, rfl, ho, g2⟩
  have kb0 := kb0.below g2
  obtain ⟨ka1, kc1, rfl, kb1, kl1, km1, _⟩ := own_form ho (ic_bytes HY1.out)
  have B0 := bel_bel B0 B0.size g2
  clear g2 ho
  go_wp2_with fail
  refine (refBytes a2 n2 c2 (ic t2) _ (hb2.below B0) (by omega)).mono ?_
  rintro e w1c2 ⟨v2, rfl, ho, g2⟩
  have kb0 := kb0.below g2
  have kb1 := kb1.below g2
  obtain ⟨ka2, kc2, rfl, kb2, kl2, km2, _⟩ := own_form ho (ic_bytes HY2.out)
  have B0 := bel_bel B0 B0.size g2
  clear g2 ho
  go_wp2_with fail
  refine (refBytes a3 n3 c3 (ic t3) _ (hb3.below B0) (by omega)).mono ?_
  rintro e w1c3 ⟨v3, rfl, ho, g2⟩
  have kb0 := kb0.below g2
  have kb1 := kb1.below g2
  have kb2 := kb2.below g2
  obtain ⟨ka3, kc3, rfl, kb3, kl3, km3, _⟩ := own_form ho (ic_bytes HY3.out)
  have B0 := bel_bel B0 B0.size g2
  clear g2 ho
  by_cases hg : n0 = 32 ∧ n1 = 12 ∧ n2 ≤ 65536 ∧ 16 ≤ n3 ∧ n3 ≤ 65552
  · obtain ⟨rfl, rfl, h2, h3, h4⟩ := hg
    obtain ⟨n, rfl⟩ : ∃ n, n3 = n + 16 := ⟨n3 - 16, by omega⟩
    have hl3 : t3.length = n + 16 := by have := hb3.1; rwa [ic_length] at this
    have k1 := fun w h0 h1 h2' h3' => open_ ka0 ka1 ka2 ka3 kc0 kc1 n2 kc2 n kc3 t0 t1 t2 t3 w h0 h1 h2' h3' HY0.out HY1.out HY2.out HY3.out h2 (by omega) kl3 kl2 km2 km3
    have HO : Hid (t3.drop n = tl (kf t0) t1 t2 (t3.take n) → sl (kf t0) t1 t2 (st (kf t0) t1 (t3.take n)) = t3) := sl_one _ _ _ _ n hl3
    have HY8 : Hid (∀ x ∈ st (kf t0) t1 (t3.take n), x < 256) := st_lt (kf_lt HY0.out) HY1.out (fun x hx => HY3.out x (List.mem_of_mem_take hx))
    generalize st (kf t0) t1 (t3.take n) = t8 at *
    go_wp2_with fail
    refine (k1 _ kb0 kb1 kb2 kb3).mono ?_
    rintro e w2 ⟨g2, hh⟩
    have B0 := bel_bel B0 B0.size g2
    clear g2 k1 kb0 kb1 kb2 kb3 kl0 kl1 kl2 kl3 km0 km1 km2 km3 hl3
    rcases hh with ⟨heq, oa, ocap, rfl, ob, hoc1, hoc2⟩ | ⟨_, oa, ocap, rfl⟩
    · have HE := hid (HO.out heq)
      clear heq HO
      go_wp2_with fail
      refine (refBytes a0 32 c0 (ic t0) _ (hb0.below B0) (by omega)).mono ?_
      rintro e w2c0 ⟨v0, rfl, ho, g2⟩
      have ob := ob.below g2
      obtain ⟨ma0, mc0, rfl, mb0, ml0, mm0, _⟩ := own_form ho (ic_bytes HY0.out)
      have B0 := bel_bel B0 B0.size g2
      clear g2 ho
      go_wp2_with fail
      refine (refBytes a1 12 c1 (ic t1) _ (hb1.below B0) (by omega)).mono ?_
      rintro e w2c1 ⟨v1, rfl, ho, g2⟩
      have ob := ob.below g2
      have mb0 := mb0.below g2
      obtain ⟨ma1, mc1, rfl, mb1, ml1, mm1, _⟩ := own_form ho (ic_bytes HY1.out)
      have B0 := bel_bel B0 B0.size g2
      clear g2 ho
      go_wp2_with fail
      refine (refBytes a2 n2 c2 (ic t2) _ (hb2.below B0) (by omega)).mono ?_
      rintro e w2c2 ⟨v2, rfl, ho, g2⟩
      have ob := ob.below g2
      have mb0 := mb0.below g2
      have mb1 := mb1.below g2
      obtain ⟨ma2, mc2, rfl, mb2, ml2, mm2, _⟩ := own_form ho (ic_bytes HY2.out)
      have B0 := bel_bel B0 B0.size g2
      clear g2 ho
      have k2 := fun w h0 h1 h2' h3' => seal_ ma0 ma1 ma2 oa mc0 mc1 n2 mc2 n ocap t0 t1 t2 t8 w h0 h1 h2' h3' HY0.out HY1.out HY2.out HY8.out h2 (by omega) ml2 mm2 hoc1 hoc2
      rw [HE.out] at k2
      go_wp2_with fail
      refine (k2 _ mb0 mb1 mb2 ob).mono ?_
      rintro e w4 ⟨sa, scap, rfl, sb, _, _, g2⟩
      have B0 := bel_bel B0 B0.size g2
      clear g2 k2 mb0 mb1 mb2 ob
      go_wp2_with fail
      refine (same_yes sa a3 (n + 16) scap (n + 16) c3 (ic t3) w4 sb (hb3.below B0) (by omega) (by omega)).mono ?_
      rintro e w5 ⟨rfl, D⟩
      have B0 := bel_bel B0 B0.size D.below
      clear D sb
      go_wp2_with fail
      refine (num_ 0 _).mono ?_
      rintro e w6 ⟨rfl, rfl⟩
      go_wp2_with fail
      go_ret
      exact ⟨rfl, B0⟩
    · go_wp2_with fail
      go_ret
      exact ⟨rfl, B0⟩
  · have hx : n0 ≠ 32 ∨ n1 ≠ 12 ∨ 65536 < n2 ∨ n3 < 16 ∨ 65552 < n3 := by omega
    have k1 := fun w hb hb3 => open_bad ka0 ka1 ka2 ka3 n0 kc0 n1 kc1 n2 kc2 n3 kc3 (ic t0) t3 w hb hb3 kl3 (by unfold maxLen; omega) (by unfold maxLen; omega) (by unfold maxLen; omega) km3 hx
    clear hg hx kb1 kb2
    go_wp2_with fail
    refine (k1 _ kb0 kb3).mono ?_
    rintro e w2 ⟨⟨oa, ocap, rfl⟩, g2⟩
    have B0 := bel_bel B0 B0.size g2
    clear g2 k1 kb0 kb3
    go_wp2_with fail
    go_ret
    exact ⟨rfl, B0⟩
end Go.Proofs.Ytgjamfnhkeoedaa
