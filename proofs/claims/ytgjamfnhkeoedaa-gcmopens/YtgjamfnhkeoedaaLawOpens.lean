import Derived.Test.YtgjamfnhkeoedaaLawAny
namespace Go.Proofs.Ytgjamfnhkeoedaa
open Go.RowKit
set_option linter.unusedVariables false

set_option maxRecDepth 100000 in
set_option maxHeartbeats 4000000 in
theorem gcmOpens_ (a0 : Option Addr) (n0 c0 : Nat) (z0 : List Int) (a1 : Option Addr) (n1 c1 : Nat) (z1 : List Int) (a2 : Option Addr) (n2 c2 : Nat) (z2 : List Int) (a3 : Option Addr) (n3 c3 : Nat) (z3 : List Int) (at' : Int) (x : Nat) (w : World) (hb0 : Bs w a0 n0 z0) (hn0 : n0 ≤ 140737488351232) (hb1 : Bs w a1 n1 z1) (hn1 : n1 ≤ 140737488351232) (hb2 : Bs w a2 n2 z2) (hn2 : n2 ≤ 140737488351232) (hb3 : Bs w a3 n3 z3) (hn3 : n3 ≤ 140737488351232) (hat : -9223372036854775808 ≤ at' ∧ at' ≤ 9223372036854775807) (hx : x < 256) (hcap3 : n3 ≤ c3) :
    Calls Try.prog 4 #[.slice a0 n0 c0, .slice a1 n1 c1, .slice a2 n2 c2, .slice a3 n3 c3, .int .i64 at', .int .u8 x] w fun e w' => e = .returned (.bool true) ∧ Below w.heap.size w w' := by
  obtain ⟨t0, rfl, HY0⟩ := as_nat hb0.2.1
  obtain ⟨t1, rfl, HY1⟩ := as_nat hb1.2.1
  obtain ⟨t2, rfl, HY2⟩ := as_nat hb2.2.1
  obtain ⟨t3, rfl, HY3⟩ := as_nat hb3.2.1
  have r1 := fun w h0 h1 h2 h3 => refOpenAny_ a0 n0 c0 t0 a1 n1 c1 t1 a2 n2 c2 t2 a3 n3 c3 t3 w h0 h1 h2 h3 HY0.out HY1.out HY2.out HY3.out (by unfold maxLen; omega) (by unfold maxLen; omega) (by unfold maxLen; omega) (by unfold maxLen; omega) hcap3
  go_enter Try.func4, Try.ntmps4
  go_wp2_with fail
  refine (first_ w).mono ?_
  rintro e w1 ⟨rfl, B0⟩
  go_wp2_with fail
  refine (refBytes a0 n0 c0 (ic t0) _ (hb0.below B0) (by omega)).mono ?_
  rintro e w1c0 ⟨v0, rfl, ho, g2⟩
  obtain ⟨ka0, kc0, rfl, kb0, kl0, km0, _⟩ := own_form ho (ic_bytes HY0.out)
  have B0 := bel_bel B0 B0.size g2
  clear g2 ho
  go_wp2_with fail
  refine (refBytes a1 n1 c1 (ic t1) _ (hb1.below B0) (by omega)).mono ?_
  rintro e w1c1 ⟨v1, rfl, ho, g2⟩
  have kb0 := kb0.below g2
  obtain ⟨ka1, kc1, rfl, kb1, kl1, km1, _⟩ := own_form ho (ic_bytes HY1.out)
  have B0 := bel_bel B0 B0.size g2
  clear g2 ho
  go_wp2_with fail
  refine (refBytes a2 n2 c2 (ic t2) _ (hb2.below B0) (by omega)).mono ?_
  rintro e w1c2 ⟨v2, rfl, ho, g2⟩
  have kb0 := kb0.below g2
  have kb1 := kb1.below g2
  obtain ⟨ka2, kc2, rfl, kb2, kl2, km2, _⟩ := own_form ho (ic_bytes HY2.out)
  have B0 := bel_bel B0 B0.size g2
  clear g2 ho
  go_wp2_with fail
  refine (refBytes a3 n3 c3 (ic t3) _ (hb3.below B0) (by omega)).mono ?_
  rintro e w1c3 ⟨v3, rfl, ho, g2⟩
  have kb0 := kb0.below g2
  have kb1 := kb1.below g2
  have kb2 := kb2.below g2
  obtain ⟨ka3, kc3, rfl, kb3, kl3, km3, _⟩ := own_form ho (ic_bytes HY3.out)
  have B0 := bel_bel B0 B0.size g2
  clear g2 ho
  have o1 := fun w h0 h1 h2 h3 => openAny_ ka0 n0 kc0 t0 ka1 n1 kc1 t1 ka2 n2 kc2 t2 ka3 n3 kc3 t3 w h0 h1 h2 h3 HY0.out HY1.out HY2.out HY3.out (by unfold maxLen; omega) (by unfold maxLen; omega) (by unfold maxLen; omega) (by unfold maxLen; omega) kl3 kl2 km2 km3
  generalize oB t0 t1 t2 t3 = bb at *
  generalize oP t0 t1 t2 t3 = pp at *
  go_wp2_with fail
  refine (o1 _ kb0 kb1 kb2 kb3).mono ?_
  rintro e w2 ⟨sa, sm, scap, rfl, sb, hsm, g2⟩
  have B0 := bel_bel B0 B0.size g2
  clear g2 o1 kb0 kb1 kb2 kb3 kl0 kl1 kl2 kl3 km0 km1 km2 km3
  go_wp2_with fail
  refine (r1 _ (hb0.below B0) (hb1.below B0) (hb2.below B0) (hb3.below B0)).mono ?_
  rintro e w3 ⟨ra, rm, rcap, rfl, rb, hrm, g2⟩
  have sb := sb.below g2
  have B0 := bel_bel B0 B0.size g2
  clear g2 r1
  go_wp2_with fail
  refine (same_yes sa ra sm scap rm rcap (ic pp) w3 sb rb (by omega) (by omega)).mono ?_
  rintro e w4 ⟨rfl, D⟩
  have B0 := bel_bel B0 B0.size D.below
  have hbb : (bb != bb) = false := by simp
  clear D sb rb hsm hrm
  by_cases hg : n0 = 32 ∧ n1 = 12 ∧ n2 ≤ 65536 ∧ n3 ≤ 65536
  · obtain ⟨rfl, rfl, h2, h3⟩ := hg
    have k2 := fun w h0 h1 h2' h3' => refSeal_ a0 a1 a2 a3 c0 c1 n2 c2 n3 c3 t0 t1 t2 t3 w h0 h1 h2' h3' HY0.out HY1.out HY2.out HY3.out h2 h3
    have HY9 : Hid (∀ x ∈ sl (kf t0) t1 t2 t3, x < 256) := sl_lt (kf_lt HY0.out) HY1.out HY3.out
    have hl : (sl (kf t0) t1 t2 t3).length = n3 + 16 := by rw [sl_length]; have := hb3.1; rw [ic_length] at this; omega
    generalize sl (kf t0) t1 t2 t3 = L at *
    go_wp2_with fail
    refine (k2 _ (hb0.below B0) (hb1.below B0) (hb2.below B0) (hb3.below B0)).mono ?_
    rintro e w5 ⟨v, rfl, ho, g2⟩
    have ho := own_le ho B0.size
    have B0 := bel_bel B0 B0.size g2
    clear g2 k2
    obtain ⟨g, cap, rfl, hc1, hc2, hgw, hh, hlen⟩ := own_head ho (by omega)
    clear ho
    by_cases hin : 0 ≤ at' ∧ at' < (n3 + 16 : Nat)
    · obtain ⟨i, rfl⟩ : ∃ i : Nat, at' = i := ⟨at'.toNat, by omega⟩
      have hi : i < n3 + 16 := by omega
      have d1 : decide ((i : Int) < 0) = false := decide_eq_false (by omega)
      have d2 : decide ((n3 : Int) + 16 ≤ (i : Int)) = false := decide_eq_false (by omega)
      have c0' := hh.cell i (by rw [hlen]; exact hi)
      have f0 := hh.unfrozen i
      rw [ic_get] at c0'
      have ly : L.getD i 0 < 256 := getD_lt HY9.out i
      have x1 := u8x ly hx
      have HH := hh.set i ((L.getD i 0 ^^^ x : Nat) : Int)
      rw [ic_set] at HH
      have HY8 : Hid (∀ y ∈ L.set i (L.getD i 0 ^^^ x), y < 256) := fun y hy => by
        rcases List.mem_or_eq_of_mem_set hy with h | rfl
        · exact HY9.out y h
        · exact xor_lt8 ly hx
      have hl8 : (L.set i (L.getD i 0 ^^^ x)).length = n3 + 16 := by rw [List.length_set]; exact hl
      have B2 : Below w.heap.size w (w5.setCell ⟨g, i, none⟩ (.int .u8 ((L.getD i 0 ^^^ x : Nat) : Int))) := B0.setCell hgw _
      generalize L.set i (L.getD i 0 ^^^ x) = t8 at *
      generalize L.getD i 0 ^^^ x = z at *
      generalize L.getD i 0 = y at *
      have sb := HH.all (m := n3 + 16) (by rw [ic_length]; exact hl8) (ic_bytes HY8.out)
      clear hh HH B0 hl hl8 ly hlen hin
      have B0 := B2
      clear B2
      go_wp2_with fail
      generalize w5.setCell ⟨g, i, none⟩ (.int .u8 (z : Int)) = w6 at *
      clear c0' f0 x1 d1 d2
      refine (refBytes a0 32 c0 (ic t0) _ (hb0.below B0) (by omega)).mono ?_
      rintro e w6c0 ⟨v0, rfl, ho, g2⟩
      have sb := sb.below g2
      obtain ⟨ma0, mc0, rfl, mb0, ml0, mm0, _⟩ := own_form ho (ic_bytes HY0.out)
      have B0 := bel_bel B0 B0.size g2
      clear g2 ho
      go_wp2_with fail
      refine (refBytes a1 12 c1 (ic t1) _ (hb1.below B0) (by omega)).mono ?_
      rintro e w6c1 ⟨v1, rfl, ho, g2⟩
      have sb := sb.below g2
      have mb0 := mb0.below g2
      obtain ⟨ma1, mc1, rfl, mb1, ml1, mm1, _⟩ := own_form ho (ic_bytes HY1.out)
      have B0 := bel_bel B0 B0.size g2
      clear g2 ho
      go_wp2_with fail
      refine (refBytes a2 n2 c2 (ic t2) _ (hb2.below B0) (by omega)).mono ?_
      rintro e w6c2 ⟨v2, rfl, ho, g2⟩
      have sb := sb.below g2
      have mb0 := mb0.below g2
      have mb1 := mb1.below g2
      obtain ⟨ma2, mc2, rfl, mb2, ml2, mm2, _⟩ := own_form ho (ic_bytes HY2.out)
      have B0 := bel_bel B0 B0.size g2
      clear g2 ho
      go_wp2_with fail
      refine (refBytes (some ⟨g, 0, none⟩) (n3 + 16) cap (ic t8) _ sb (by omega)).mono ?_
      rintro e w6c3 ⟨v3, rfl, ho, g2⟩
      have sb := sb.below g2
      have mb0 := mb0.below g2
      have mb1 := mb1.below g2
      have mb2 := mb2.below g2
      obtain ⟨ma3, mc3, rfl, mb3, ml3, mm3, _⟩ := own_form ho (ic_bytes HY8.out)
      have B0 := bel_bel B0 B0.size g2
      clear g2 ho
      have r2 := fun w h0 h1 h2 h3 => refOpenAny_ a0 32 c0 t0 a1 12 c1 t1 a2 n2 c2 t2 (some ⟨g, 0, none⟩) (n3 + 16) cap t8 w h0 h1 h2 h3 HY0.out HY1.out HY2.out HY8.out (by unfold maxLen; omega) (by unfold maxLen; omega) (by unfold maxLen; omega) (by unfold maxLen; omega) hc1
      have o2 := fun w h0 h1 h2 h3 => openAny_ ma0 32 mc0 t0 ma1 12 mc1 t1 ma2 n2 mc2 t2 ma3 (n3 + 16) mc3 t8 w h0 h1 h2 h3 HY0.out HY1.out HY2.out HY8.out (by unfold maxLen; omega) (by unfold maxLen; omega) (by unfold maxLen; omega) (by unfold maxLen; omega) ml3 ml2 mm2 mm3
      generalize oB t0 t1 t2 t8 = cb' at *
      generalize oP t0 t1 t2 t8 = qq at *
      go_wp2_with fail
      refine (o2 _ mb0 mb1 mb2 mb3).mono ?_
      rintro e w7 ⟨sa2, sm2, scap2, rfl, sb2, hsm, g2⟩
      have sb := sb.below g2
      have B0 := bel_bel B0 B0.size g2
      clear g2 o2 mb0 mb1 mb2 mb3 ml0 ml1 ml2 ml3 mm0 mm1 mm2 mm3
      go_wp2_with fail
      refine (r2 _ (hb0.below B0) (hb1.below B0) (hb2.below B0) sb).mono ?_
      rintro e w8 ⟨ra2, rm2, rcap2, rfl, rb2, hrm, g2⟩
      have sb2 := sb2.below g2
      have B0 := bel_bel B0 B0.size g2
      clear g2 r2 sb
      go_wp2_with fail
      refine (same_yes sa2 ra2 sm2 scap2 rm2 rcap2 (ic qq) w8 sb2 rb2 (by omega) (by omega)).mono ?_
      rintro e w9 ⟨rfl, D⟩
      have B0 := bel_bel B0 B0.size D.below
      have hcb : (cb' == cb') = true := by simp
      clear D sb2 rb2 hsm hrm
      go_wp2_with fail
      go_ret
      exact ⟨rfl, B0⟩
    · by_cases hneg : at' < 0
      · have d1 : decide (at' < 0) = true := decide_eq_true hneg
        go_wp2_with fail
        go_ret
        exact ⟨rfl, B0⟩
      · have d1 : decide (at' < 0) = false := decide_eq_false hneg
        have d2 : decide ((n3 : Int) + 16 ≤ at') = true := decide_eq_true (by omega)
        go_wp2_with fail
        go_ret
        exact ⟨rfl, B0⟩
  · have hx' : n0 ≠ 32 ∨ n1 ≠ 12 ∨ 65536 < n2 ∨ 65536 < n3 := by omega
    have k2 := fun w => refSeal_bad a0 a1 a2 a3 n0 c0 n1 c1 n2 c2 n3 c3 w (by unfold maxLen; omega) (by unfold maxLen; omega) (by unfold maxLen; omega) (by unfold maxLen; omega) hx'
    obtain ⟨E, HE⟩ : ∃ E : Int, Hid ((if n0 ≠ 32 then 40 else if n1 ≠ 12 then 50 else 51 : Int) = E) := ⟨_, rfl⟩
    have hE : (E != 0) = true := by
      rw [← HE.out]
      split
      · rfl
      · split <;> rfl
    rw [HE.out] at k2
    clear HE hx' hg
    go_wp2_with fail
    refine (k2 _).mono ?_
    rintro e w5 ⟨rfl, hw⟩
    obtain rfl := hw.symm
    clear k2 hw
    go_wp2_with fail
    go_ret
    exact ⟨rfl, B0⟩
end Go.Proofs.Ytgjamfnhkeoedaa
