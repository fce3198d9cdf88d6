import Derived.Test.YtfmdnfbcfhojpaaDoorL5
namespace Go.Proofs.YtfmdnfbcfhojpaaDoor
set_option maxRecDepth 100000
open Go.RowKit
set_option linter.unusedVariables false

set_option maxHeartbeats 8000000 in
theorem sectorOneForm_ (a : Option Addr) (n c : Nat) (zs : List Int) (w : World) (hT : Tab w) (hb : Bs w a n zs) (hc : n ≤ c) (hm : c ≤ maxLen) :
    Calls Tryd.prog 7 #[.slice a n c] w fun en w' => en = .returned (.bool true) ∧ Below w.heap.size w w' := by
  have HB := hid hb
  clear hb
  by_cases hn : n ≤ 2000
  · have hI : (n : Int) ≤ 2000 := by omega
    go_enter Tryd.func7, Tryd.ntmps7
    go_wp2_with fail
    refine (first_ _ hT).mono ?_
    rintro x1 w1 ⟨rfl, g1⟩
    have T1 := hT.bel g1
    have Y1 := hid (HB.out.below g1)
    have B1 := g1
    clear g1
    cases hg : gs zs with
    | none =>
      go_wp2_with fail
      refine (get_n a n c zs w1 T1 Y1.out hc hm hg).mono ?_
      rintro x2 w2 ⟨rfl, g2⟩
      have B2 := bel_bel B1 B1.size g2
      have m2 := Sm.new w2 ⟨#[]⟩ 0 0 0 (.slice none 0 0)
      have B3 := B2.alloc B2.size (.cells #[.string ⟨#[]⟩, .int .i64 0, .int .i64 0, .int .i64 0, .slice none 0 0] 24)
      have d0 := m2.c0
      have d1 := m2.c1
      have d2 := m2.c2
      have d3 := m2.c3
      have d4 := m2.c4
      clear m2 B2 g2
      go_wp2_with (first | (go_at_call 14; refine (num_ _ _).mono ?_; rintro xn wn ⟨rfl, hw⟩; obtain rfl := hw.symm) | (go_at_call 22; refine (alike_y ⟨#[]⟩ 0 0 0 none none 0 0 0 0 [] _ (bs_nil _ _) (bs_nil _ _) (by omega) (by omega)).mono ?_; rintro x7 w7 ⟨rfl, g7⟩))
      have B7 := bel_bel B3 B3.size g7
      go_ret
      exact ⟨rfl, B7⟩
    | some s =>
      obtain ⟨hl, hM, hp, hrs⟩ := gs_some hg
      have hy : By s.l := by rw [hrs]; exact sl_by HB.out.2.1 _ _
      have hMN := (may_n (s := s) rfl).1 hM
      have HP := hid hp
      have HPL := hid (ps_length hM)
      clear hrs hp hM
      go_wp2_with fail
      refine (get_y a n c zs w1 T1 Y1.out hc hm s hg).mono ?_
      rintro x2 w2 ⟨g, rfl, hg2, r2, g2⟩
      have B2 := bel_bel B1 B1.size g2
      have T2 := T1.bel g2
      have Y2 := hid (Y1.out.below g2)
      have L2 := r2.bs hy
      generalize hln : s.l.length = k at *
      have A2 : Below w2.heap.size w2 (w2.alloc (.cells #[.string s.T, .int .i64 s.e, .int .i64 s.q, .int .i64 s.p, .slice (some ⟨g, 0, none⟩) k k] 24)) := (Below.refl _ _).alloc (Nat.le_refl _) _
      have m2 := Sm.new w2 s.T s.e s.q s.p (.slice (some ⟨g, 0, none⟩) k k)
      have B3 := hid (bel_bel B2 B2.size A2)
      have T3 := hid (T2.bel A2)
      have Y3 := hid (Y2.out.below A2)
      have L3 := hid (L2.below A2)
      have d0 := m2.c0
      have d1 := m2.c1
      have d2 := m2.c2
      have d3 := m2.c3
      have d4 := m2.c4
      have M2 := hid m2
      clear m2 A2 B2 T2 Y2 L2 r2 g2 T1 Y1 B1 hg
      go_wp2_with (go_at_call 14; refine (num_ _ _).mono ?_; rintro xn wn ⟨rfl, hw⟩; obtain rfl := hw.symm)
      refine (put_y s.T s.e s.q s.p _ k k s.l _ T3.out L3.out hMN).mono ?_
      rintro x4 w4 ⟨ga, rfl, hga, r4, g4⟩
      have B4 := hid (bel_bel B3.out B3.out.size g4)
      have P4 : Hid (Bs w4 (some ⟨ga, 0, none⟩) 512 zs) := by
        have := r4.bs (ps_by hy)
        have e := HP.out
        rw [show (⟨s.T, s.e, s.q, s.p, s.l⟩ : Sec) = s from rfl, e] at this
        exact this.len hl
      have Y4 := hid (Y3.out.below g4)
      have m4 := M2.out.kept g4
      have f0 := m4.c0
      have f1 := m4.c1
      have f2 := m4.c2
      have f3 := m4.c3
      have f4 := m4.c4
      have M4 := hid m4
      clear d0 d1 d2 d3 d4 m4 M2 B3 T3 Y3 L3 g4 r4
      go_wp2_with fail
      refine (same_d a (some ⟨ga, 0, none⟩) n c 512 512 zs zs _ Y4.out P4.out (by unfold maxLen; omega) (by unfold maxLen; omega)).mono ?_
      rintro x6 w6 ⟨rfl, D6⟩
      rw [sameB_self]
      have B6 := bel_bel B4.out B4.out.size D6.below
      have m6 := M4.out.at (D6.at _)
      have h0 := m6.c0
      have h1 := m6.c1
      have h2 := m6.c2
      have h3 := m6.c3
      have h4 := m6.c4
      clear f0 f1 f2 f3 f4 m6 M4 B4 Y4 P4 D6
      go_wp2_with (first | (go_at_call 14; refine (num_ _ _).mono ?_; rintro xn wn ⟨rfl, hw⟩; obtain rfl := hw.symm) | (go_at_call 20; refine (may_y s.T s.e s.q s.p _ k k _ hMN).mono ?_; rintro x7 w7 ⟨rfl, g7⟩))
      have B7 := bel_bel B6 B6.size g7
      go_ret
      exact ⟨rfl, B7⟩
  · have hI : ¬ (n : Int) ≤ 2000 := by omega
    have hI2 : (2000 : Int) < (n : Int) := by omega
    go_enter Tryd.func7, Tryd.ntmps7
    go_wp2_with fail
    refine (first_ _ hT).mono ?_
    rintro x1 w1 ⟨rfl, g1⟩
    go_wp2
    go_ret
    exact ⟨rfl, g1⟩
end Go.Proofs.YtfmdnfbcfhojpaaDoor
