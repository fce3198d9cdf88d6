import Derived.Test.YtfmdnfbcfhojpaaDoorL5
import Derived.Test.YtfmdnfbcfhojpaaDoorPlace
namespace Go.Proofs.YtfmdnfbcfhojpaaDoor
set_option maxRecDepth 100000
open Go.RowKit
set_option linter.unusedVariables false

theorem xor8 (z x : Int) (hz : 0 ≤ z ∧ z ≤ 255) (hx : 0 ≤ x ∧ x ≤ 255) : 0 ≤ bits BinOp.xor IntKind.u8 z x ∧ bits BinOp.xor IntKind.u8 z x ≤ 255 := by
  rw [bits.eq_3, IntKind.wrap_u8]; omega
theorem PE_or (s : Sec) : PE s = 0 ∨ PE s = 117 := by unfold PE; split; exact .inl rfl; exact .inr rfl
theorem GE_or (b : List Int) : GE b = 0 ∨ GE b = 117 := by unfold GE; split; exact .inl rfl; exact .inr rfl
set_option maxHeartbeats 8000000 in
theorem gets_ (g n cap : Nat) (ys : List Int) (w : World) (hT : Tab w) (hh : Head w g cap ys) (hl : ys.length = n + 3) (hy : By ys) (hn : n ≤ 2000) (hcm : cap ≤ maxLen) :
    Calls Tryd.prog 16 #[.slice (some ⟨g, 0, none⟩) (n + 3) cap, .int .i64 n] w fun en w' => en = .returned (.bool true) ∧ Below w.heap.size w w' := by
  have hcap : n + 3 ≤ cap := by obtain ⟨_, _, _, h, _⟩ := hh; omega
  have hcm' := hcm
  unfold maxLen at hcm'
  have Y0 := hid (hh.all hl hy)
  have i1 : (n : Int) ≤ (n : Int) + 3 := by omega
  have i2 : (n : Int) + 3 ≤ (cap : Int) := by omega
  have i3 : (0 : Int) ≤ (n : Int) := by omega
  clear hh
  go_enter Tryd.func16, Tryd.ntmps16
  go_wp2_with fail
  refine (refBytes _ (n + 3) cap ys w Y0.out (by omega)).mono ?_
  rintro x1 w1 ⟨v1, rfl, o1, g1⟩
  obtain ⟨gw, cw, rfl, hw1, hw2, hw3, hh1, _⟩ := own_head o1 (by omega)
  unfold maxLen at hw2
  have i4 : (n : Int) ≤ (cw : Int) := by omega
  have T1 := hT.bel g1
  have B1 := g1
  have Y1 := hid (Y0.out.below g1)
  have Z1 := hid (hh1.all hl hy)
  clear o1 g1 hh1 Y0
  have hq : Hid (Bs w1 (some ⟨g, 0, none⟩) n (ys.take n)) := by
    have := bs_sl Y1.out 0 n (by omega)
    show Bs _ _ _ _
    simpa [sl] using this
  go_wp2_with fail
  refine (get_u _ n (n + 3) (ys.take n) w1 T1 hq.out (by omega) (by unfold maxLen; omega)).mono ?_
  rintro x2 w2 ⟨a2, n2, c2, rfl, N2, g2⟩
  have hn2 : n2 ≤ 480 := by have := N2.bs.1; have := GS_le (ys.take n); omega
  have B2 := bel_bel B1 B1.size g2
  have m2 := Sm.new w2 (GS (ys.take n)).T (GS (ys.take n)).e (GS (ys.take n)).q (GS (ys.take n)).p (.slice a2 n2 c2)
  have A2 : Below w2.heap.size w2 (w2.alloc (.cells #[.string (GS (ys.take n)).T, .int .i64 (GS (ys.take n)).e, .int .i64 (GS (ys.take n)).q, .int .i64 (GS (ys.take n)).p, .slice a2 n2 c2] 24)) := (Below.refl _ _).alloc (Nat.le_refl _) _
  have B3 := bel_bel B2 B2.size A2
  have Y3 := hid ((Y1.out.below g2).below A2)
  have Z3 := hid ((Z1.out.below g2).below A2)
  have N3 := hid (N2.bs.below A2)
  have hq3 : Hid (Bs (w2.alloc (.cells #[.string (GS (ys.take n)).T, .int .i64 (GS (ys.take n)).e, .int .i64 (GS (ys.take n)).q, .int .i64 (GS (ys.take n)).p, .slice a2 n2 c2] 24)) (some ⟨gw, 0, none⟩) n (ys.take n)) := by
    have := bs_sl Z3.out 0 n (by omega)
    show Bs _ _ _ _
    simpa [sl] using this
  have M2 := hid m2
  have GOR := GE_or (ys.take n)
  obtain ⟨s, hs⟩ : ∃ s, s = GS (ys.take n) := ⟨_, rfl⟩
  obtain ⟨E, hE⟩ : ∃ E, E = GE (ys.take n) := ⟨_, rfl⟩
  have kg := fun wx hx => refGet_u (some ⟨gw, 0, none⟩) n cw (ys.take n) wx hx (by omega) (by unfold maxLen; omega)
  rw [← hs, ← hE] at kg
  rw [← hs] at M2 N3 B3 Y3 Z3 hq3
  rw [← hE] at GOR
  rw [← hs, ← hE]
  clear hs hE m2 A2 N2 g2 B2 T1 Y1 Z1 hq
  obtain ⟨T, e, q, p, l⟩ := s
  simp only at M2 N3 B3 Y3 Z3 hq3 kg
  simp only
  have BB := hid B3
  clear B3
  go_wp2_with fail
  refine (kg _ hq3.out).mono ?_
  rintro x3 w3 ⟨a3, n3, c3, rfl, N4, g3⟩
  have hn3 : n3 ≤ 480 := by have := N4.bs.1; have := N3.out.1; omega
  have B4 := bel_bel BB.out BB.out.size g3
  have m3 := M2.out.kept g3
  have A3 : Below w3.heap.size w3 (w3.alloc (.cells #[.string T, .int .i64 e, .int .i64 q, .int .i64 p, .slice a3 n3 c3] 24)) := (Below.refl _ _).alloc (Nat.le_refl _) _
  have m4 := Sm.new w3 T e q p (.slice a3 n3 c3)
  have m3' := m3.kept A3
  have B5 := hid (bel_bel B4 B4.size A3)
  have Y5 := hid ((Y3.out.below g3).below A3)
  have Z5 := hid ((Z3.out.below g3).below A3)
  have L5 := hid ((N3.out.below g3).below A3)
  have K5 := hid (N4.bs.below A3)
  have d0 := m3'.c0
  have d1 := m3'.c1
  have d2 := m3'.c2
  have d3 := m3'.c3
  have d4 := m3'.c4
  have e0 := m4.c0
  have e1 := m4.c1
  have e2 := m4.c2
  have e3 := m4.c3
  have e4 := m4.c4
  clear m3 m3' m4 A3 B4 N4 g3 M2 BB N3 Y3 Z3 hq3 kg
  go_wp2_with fail
  refine (alike_y T e q p a2 a3 n2 c2 n3 c3 l _ L5.out K5.out (by omega) (by omega)).mono ?_
  rintro x6 w6 ⟨rfl, g6⟩
  have B6 := hid (bel_bel B5.out B5.out.size g6)
  have Y6 := hid (Y5.out.below g6)
  have Z6 := hid (Z5.out.below g6)
  clear d0 d1 d2 d3 d4 e0 e1 e2 e3 e4 B5 Y5 Z5 L5 K5 g6
  go_wp2_with fail
  refine (same_yes (some ⟨g, 0, none⟩) (some ⟨gw, 0, none⟩) (n + 3) cap (n + 3) cw ys _ Y6.out Z6.out (by omega) (by omega)).mono ?_
  rintro x7 w7 ⟨rfl, D7⟩
  have B7 := bel_bel B6.out B6.out.size D7.below
  have xE : (E == E) = true := beq_self_eq_true E
  clear Y6 Z6 B6 D7
  go_wp2_with (go_at_call 14; refine (num_ _ _).mono ?_; rintro xn wn ⟨rfl, hw⟩; obtain rfl := hw.symm)
  go_ret
  exact ⟨rfl, B7⟩

set_option maxHeartbeats 8000000 in
theorem sectorGets_ (a : Option Addr) (n c : Nat) (zs : List Int) (at_ x : Int) (w : World) (hT : Tab w) (hb : Bs w a n zs) (hc : n ≤ c) (hm : c ≤ maxLen) (hat : -9223372036854775808 ≤ at_ ∧ at_ ≤ 9223372036854775807) (hx : 0 ≤ x ∧ x ≤ 255) :
    Calls Tryd.prog 4 #[.slice a n c, .int .i64 at_, .int .u8 x] w fun en w' => en = .returned (.bool true) ∧ Below w.heap.size w w' := by
  obtain ⟨hat0, hat1⟩ := hat
  obtain ⟨hx0, hx1⟩ := hx
  have HB := hid hb
  by_cases hn : n ≤ 2000
  · have hI : (n : Int) ≤ 2000 := by omega
    clear hb
    go_enter Tryd.func4, Tryd.ntmps4
    go_wp2_with fail
    refine (first_ _ hT).mono ?_
    rintro x1 w1 ⟨rfl, B1⟩
    have T1 := hT.bel B1
    have S1 := B1.size
    go_wp2_with fail
    refine (room_ a n c zs w1 (HB.out.below B1) (by omega)).mono ?_
    rintro x2 w2 ⟨g, cap, rfl, hcap, hcm, hgb, hh2, g2⟩
    have hgw : w.heap.size ≤ g := by omega
    have T2 := T1.bel g2
    have B2 := bel_bel B1 S1 g2
    have hl2 : (rm zs).length = n + 3 := by rw [rm_length, HB.out.1]
    have hy2 : By (rm zs) := rm_by HB.out.2.1
    have HL := hid hl2
    have HY := hid hy2
    have H2 := hid hh2
    clear g2 B1 S1 T1 hh2 hl2 hy2
    generalize rm zs = rs0 at *
    go_wp2_with fail
    refine (gets_ g n cap rs0 w2 T2 H2.out HL.out HY.out hn hcm).mono ?_
    rintro x3 w3 ⟨rfl, g3⟩
    have B3 := bel_bel B2 B2.size g3
    have H3 := hid (H2.out.below g3)
    clear B2 g3 H2 T2
    by_cases h0 : n = 0
    · subst h0
      go_wp2
      go_ret
      exact ⟨rfl, B3⟩
    · have h0' : ¬ (n : Int) = 0 := by omega
      have h0b : ((n : Int) == 0) = false := by simpa using h0
      obtain ⟨k, hk, ek⟩ := place at_ n (by omega) (by omega)
      have hc3 := H3.out.cell k (by have := HL.out; omega)
      have hf := H3.out.unfrozen k
      have hcm' := hcm
      unfold maxLen at hcm'
      have i4 : (k : Int) < (n : Int) + 3 := by omega
      have i5 : ¬ (k : Int) < 0 := by omega
      have HX := hid (xor8 (rs0.getD k 0) x (getD_byte HY.out k) ⟨hx0, hx1⟩)
      have HB2 := hid (byte_set HY.out k _ HX.out)
      have HH := hid (H3.out.set k (bits BinOp.xor IntKind.u8 (rs0.getD k 0) x))
      have HL2 : Hid ((rs0.set k (bits BinOp.xor IntKind.u8 (rs0.getD k 0) x)).length = n + 3) := by show _ = _; rw [List.length_set]; exact HL.out
      generalize rs0.set k (bits BinOp.xor IntKind.u8 (rs0.getD k 0) x) = ys at *
      generalize rs0.getD k 0 = z at *
      clear H3 HX
      have BB := hid B3
      clear B3
      go_wp2_with fail
      have B6 : Below w.heap.size w (w3.setCell ⟨g, k, none⟩ (.int .u8 (bits BinOp.xor IntKind.u8 z x))) := BB.out.setCell hgw _
      have T6 : Tab (w3.setCell ⟨g, k, none⟩ (.int .u8 (bits BinOp.xor IntKind.u8 z x))) := hT.below B6 hT.1
      generalize w3.setCell ⟨g, k, none⟩ (.int .u8 (bits BinOp.xor IntKind.u8 z x)) = w6 at *
      refine (gets_ g n cap ys w6 T6 HH.out HL2.out HB2.out hn hcm).mono ?_
      rintro x7 w7 ⟨rfl, g7⟩
      have B7 := bel_bel B6 B6.size g7
      go_wp2
      go_ret
      exact ⟨rfl, B7⟩
  · have hI : ¬ (n : Int) ≤ 2000 := by omega
    have hI2 : (2000 : Int) < (n : Int) := by omega
    clear hb HB
    go_enter Tryd.func4, Tryd.ntmps4
    go_wp2_with fail
    refine (first_ _ hT).mono ?_
    rintro x1 w1 ⟨rfl, g1⟩
    go_wp2
    go_ret
    exact ⟨rfl, g1⟩
end Go.Proofs.YtfmdnfbcfhojpaaDoor
