import Derived.Test.YtgjamfnhkeoedaaFirstG
namespace Go.Proofs.Ytgjamfnhkeoedaa
open Go.RowKit
set_option linter.unusedVariables false

theorem as_nat {zs : List Int} (h : ∀ z ∈ zs, 0 ≤ z ∧ z ≤ 255) : ∃ t : List Nat, zs = ic t ∧ Hid (∀ x ∈ t, x < 256) := by
  refine ⟨zs.map Int.toNat, (ic_toNat h).symm, ?_⟩
  intro x hx
  obtain ⟨z, hz, rfl⟩ := List.mem_map.1 hx
  have := h z hz
  omega
theorem Bs.none0 (w : World) (a : Option Addr) : Bs w a 0 [] := ⟨rfl, by simp, .inl rfl⟩
set_option maxHeartbeats 2000000 in
theorem gcmSeals_ (a0 : Option Addr) (n0 c0 : Nat) (z0 : List Int) (a1 : Option Addr) (n1 c1 : Nat) (z1 : List Int) (a2 : Option Addr) (n2 c2 : Nat) (z2 : List Int) (a3 : Option Addr) (n3 c3 : Nat) (z3 : List Int) (w : World) (hb0 : Bs w a0 n0 z0) (hn0 : n0 ≤ 140737488351232) (hb1 : Bs w a1 n1 z1) (hn1 : n1 ≤ 140737488351232) (hb2 : Bs w a2 n2 z2) (hn2 : n2 ≤ 140737488351232) (hb3 : Bs w a3 n3 z3) (hn3 : n3 ≤ 140737488351232) :
    Calls Try.prog 3 #[.slice a0 n0 c0, .slice a1 n1 c1, .slice a2 n2 c2, .slice a3 n3 c3] w fun e w' => e = .returned (.bool true) ∧ Below w.heap.size w w' := by
  obtain ⟨t0, rfl, HY0⟩ := as_nat hb0.2.1
  obtain ⟨t1, rfl, HY1⟩ := as_nat hb1.2.1
  obtain ⟨t2, rfl, HY2⟩ := as_nat hb2.2.1
  obtain ⟨t3, rfl, HY3⟩ := as_nat hb3.2.1
  go_enter Try.func3, Try.ntmps3
  go_wp2_with fail
  refine (first_ w).mono ?_
  rintro e w1 ⟨rfl, B0⟩
  go_wp2_with fail
  refine (refBytes a0 n0 c0 (ic t0) _ (hb0.below B0) (by omega)).mono ?_
  rintro e w1c0 ⟨v0, rfl, ho, g2⟩
  obtain ⟨ka0, kc0, rfl, kb0, kl0, km0, _⟩ := own_form ho (ic_bytes HY0.out)
  have B0 := bel_bel B0 B0.size g2
  clear g2 ho
  go_wp2_with fail
  refine (refBytes a1 n1 c1 (ic t1) _ (hb1.below B0) (by omega)).mono ?_
  rintro e w1c1 ⟨v1, rfl, ho, g2⟩
  have kb0 := kb0.below g2
  obtain ⟨ka1, kc1, rfl, kb1, kl1, km1, _⟩ := own_form ho (ic_bytes HY1.out)
  have B0 := bel_bel B0 B0.size g2
  clear g2 ho
  go_wp2_with fail
  refine (refBytes a2 n2 c2 (ic t2) _ (hb2.below B0) (by omega)).mono ?_
  rintro e w1c2 ⟨v2, rfl, ho, g2⟩
  have kb0 := kb0.below g2
  have kb1 := kb1.below g2
  obtain ⟨ka2, kc2, rfl, kb2, kl2, km2, _⟩ := own_form ho (ic_bytes HY2.out)
  have B0 := bel_bel B0 B0.size g2
  clear g2 ho
  go_wp2_with fail
  refine (refBytes a3 n3 c3 (ic t3) _ (hb3.below B0) (by omega)).mono ?_
  rintro e w1c3 ⟨v3, rfl, ho, g2⟩
  have kb0 := kb0.below g2
  have kb1 := kb1.below g2
  have kb2 := kb2.below g2
  obtain ⟨ka3, kc3, rfl, kb3, kl3, km3, _⟩ := own_form ho (ic_bytes HY3.out)
  have B0 := bel_bel B0 B0.size g2
  clear g2 ho
  by_cases hg : n0 = 32 ∧ n1 = 12 ∧ n2 ≤ 65536 ∧ n3 ≤ 65536
  · obtain ⟨rfl, rfl, h2, h3⟩ := hg
    have k1 := fun w h0 h1 h2' h3' => seal_ ka0 ka1 ka2 ka3 kc0 kc1 n2 kc2 n3 kc3 t0 t1 t2 t3 w h0 h1 h2' h3' HY0.out HY1.out HY2.out HY3.out h2 h3 kl2 km2 kl3 km3
    have k2 := fun w h0 h1 h2' h3' => refSeal_ a0 a1 a2 a3 c0 c1 n2 c2 n3 c3 t0 t1 t2 t3 w h0 h1 h2' h3' HY0.out HY1.out HY2.out HY3.out h2 h3
    have HB : Hid (∀ x ∈ sl (kf t0) t1 t2 t3, x < 256) := sl_lt (kf_lt HY0.out) HY1.out HY3.out
    generalize sl (kf t0) t1 t2 t3 = L at *
    go_wp2_with fail
    refine (k1 _ kb0 kb1 kb2 kb3).mono ?_
    rintro e w2 ⟨sa, scap, rfl, sb, _, _, g2⟩
    have B0 := bel_bel B0 B0.size g2
    clear g2 k1 kb0 kb1 kb2 kb3
    go_wp2_with fail
    refine (k2 _ (hb0.below B0) (hb1.below B0) (hb2.below B0) (hb3.below B0)).mono ?_
    rintro e w3 ⟨v, rfl, ho, g2⟩
    have sb := sb.below g2
    have B0 := bel_bel B0 B0.size g2
    obtain ⟨ra, rcap, rfl, rb, _⟩ := own_form ho (ic_bytes HB.out)
    clear g2 k2 ho
    go_wp2_with fail
    refine (same_yes sa ra _ scap _ rcap (ic L) w3 sb rb (by omega) (by omega)).mono ?_
    rintro e w4 ⟨rfl, D⟩
    have B0 := bel_bel B0 B0.size D.below
    clear D sb rb
    go_wp2_with fail
    refine (num_ 0 _).mono ?_
    rintro e w5 ⟨rfl, rfl⟩
    go_wp2_with fail
    go_ret
    exact ⟨rfl, B0⟩
  · have hx : n0 ≠ 32 ∨ n1 ≠ 12 ∨ 65536 < n2 ∨ 65536 < n3 := by omega
    have k1 := fun w hb => seal_bad ka0 ka1 ka2 ka3 n0 kc0 n1 kc1 n2 kc2 n3 kc3 (ic t0) w hb (by unfold maxLen; omega) (by unfold maxLen; omega) (by unfold maxLen; omega) (by unfold maxLen; omega) hx
    have k2 := fun w => refSeal_bad a0 a1 a2 a3 n0 c0 n1 c1 n2 c2 n3 c3 w (by unfold maxLen; omega) (by unfold maxLen; omega) (by unfold maxLen; omega) (by unfold maxLen; omega) hx
    generalize (if n0 ≠ 32 then 40 else if n1 ≠ 12 then 50 else 51 : Int) = E at *
    clear hg hx kb1 kb2 kb3
    go_wp2_with fail
    refine (k1 _ kb0).mono ?_
    rintro e w2 ⟨⟨sa, scap, rfl⟩, g2⟩
    have B0 := bel_bel B0 B0.size g2
    clear g2 k1 kb0
    go_wp2_with fail
    refine (k2 _).mono ?_
    rintro e w3 ⟨rfl, hw⟩
    obtain rfl := hw.symm
    clear k2 hw
    go_wp2_with fail
    refine (same_yes sa none 0 scap 0 0 [] w2 (Bs.none0 _ _) (Bs.none0 _ _) (by omega) (by omega)).mono ?_
    rintro e w4 ⟨rfl, D⟩
    have B0 := bel_bel B0 B0.size D.below
    clear D
    go_wp2_with fail
    refine (num_ E _).mono ?_
    rintro e w5 ⟨rfl, rfl⟩
    go_wp2_with fail
    go_ret
    exact ⟨rfl, B0⟩
end Go.Proofs.Ytgjamfnhkeoedaa
