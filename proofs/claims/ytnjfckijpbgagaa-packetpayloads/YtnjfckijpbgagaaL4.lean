import Derived.Test.YtnjfckijpbgagaaN5
import Derived.Test.YtnjfckijpbgagaaN8
namespace Go.Proofs.Ytnjfckijpbgagaa
set_option maxRecDepth 100000
open Go.RowKit
set_option linter.unusedVariables false

theorem sa_self (F H L : Int) : sa F H L F H L = true := by unfold sa; exact decide_eq_true ⟨rfl, rfl, rfl⟩
set_option maxHeartbeats 2000000 in
theorem samePayload_ (F H L F' H' L' : Int) (a1 : Option Addr) (n1 c1 : Nat) (a2 : Option Addr) (n2 c2 : Nat) (zs : List Int) (w : World) (hb1 : Bs w a1 n1 zs) (hb2 : Bs w a2 n2 zs) (hn1 : n1 ≤ 2000000) (hn2 : n2 ≤ 2000000) :
    Calls Try.prog 22 #[.agg #[.int .i64 F, .int .u64 H, .int .u64 L, .int .i64 F', .int .u64 H', .int .u64 L', .slice a1 n1 c1], .agg #[.int .i64 F, .int .u64 H, .int .u64 L, .int .i64 F', .int .u64 H', .int .u64 L', .slice a2 n2 c2]] w fun e w' => e = .returned (.bool true) ∧ Below w.heap.size w w' := by
  have k1 := fun w => sameAddr_ F H L F H L w
  have k2 := fun w => sameAddr_ F' H' L' F' H' L' w
  rw [sa_self] at k1 k2
  have BA := (ynew w F H L F' H' L' (.slice a1 n1 c1)).alloc (by simp) (.cells #[.int .i64 F, .int .u64 H, .int .u64 L, .int .i64 F', .int .u64 H', .int .u64 L', .slice a2 n2 c2] 45)
  have m0 := (Ym.new w F H L F' H' L' (.slice a1 n1 c1)).alloc (.cells #[.int .i64 F, .int .u64 H, .int .u64 L, .int .i64 F', .int .u64 H', .int .u64 L', .slice a2 n2 c2] 45)
  have m1 := Ym.new (w.alloc (.cells #[.int .i64 F, .int .u64 H, .int .u64 L, .int .i64 F', .int .u64 H', .int .u64 L', .slice a1 n1 c1] 45)) F H L F' H' L' (.slice a2 n2 c2)
  rw [World.size_alloc] at m1
  have M0 := hid m0
  have M1 := hid m1
  have BB := hid BA
  have Y1 := hid (hb1.below BA)
  have Y2 := hid (hb2.below BA)
  clear m0 m1 BA hb1 hb2
  go_enter Try.func22, Try.ntmps22
  go_wp2_with fail
  refine (k1 _).mono ?_
  rintro e w1 ⟨rfl, g1⟩
  have m0 := M0.out.kept g1
  have m1 := M1.out.kept g1
  have b1 := bel_bel BB.out BB.out.size g1
  have y1 := Y1.out.below g1
  have y2 := Y2.out.below g1
  clear M0 M1 BB Y1 Y2 g1 k1
  have c3 := m0.c3
  have c4 := m0.c4
  have c5 := m0.c5
  have e3 := m1.c3
  have e4 := m1.c4
  have e5 := m1.c5
  go_wp2_with fail
  clear c3 c4 c5 e3 e4 e5
  refine (k2 _).mono ?_
  rintro e w2 ⟨rfl, g1⟩
  replace m0 := m0.kept g1
  replace m1 := m1.kept g1
  replace b1 := bel_bel b1 b1.size g1
  replace y1 := y1.below g1
  replace y2 := y2.below g1
  clear g1 k2
  have c6 := m0.c6
  have e6 := m1.c6
  go_wp2_with fail
  clear c6 e6
  refine (same_yes a1 a2 n1 c1 n2 c2 zs w2 y1 y2 hn1 hn2).mono ?_
  rintro e w3 ⟨rfl, d3⟩
  have b3 := bel_bel b1 b1.size d3.below
  clear m0 m1 y1 y2 b1 d3
  go_wp2_with fail
  go_ret
  exact ⟨rfl, b3⟩
set_option maxHeartbeats 4000000 in
theorem packetPayloads_ (F H L F' H' L' : Int) (a1 : Option Addr) (n1 c1 : Nat) (zs : List Int) (w : World) (hb1 : Bs w a1 n1 zs) (hn1 : n1 ≤ 140737488351232) (hF : InI F) (hH : InU H) (hL : InU L) (hF' : InI F') (hH' : InU H') (hL' : InU L') :
    Calls Try.prog 5 #[.agg #[.int .i64 F, .int .u64 H, .int .u64 L, .int .i64 F', .int .u64 H', .int .u64 L', .slice a1 n1 c1]] w fun e w' => e = .returned (.bool true) ∧ Below w.heap.size w w' := by
  have k1 := fun w h => refBytes a1 n1 c1 zs w h hn1
  have k2 := fun x1 d1 w h => putPayload_ F H L F' H' L' x1 n1 d1 zs w h (by omega) hF hH hL hF' hH' hL'
  have k3 := fun w h => refPutPayload_ F H L F' H' L' a1 n1 c1 zs w h (by unfold maxLen; omega) hH hL hH' hL'
  have HYB := hid (yB_byte (F := F) (H := H) (L := L) (F' := F') (H' := H') (L' := L') hb1.2.1)
  have hle := yB_le F H L F' H' L' zs
  generalize yB F H L F' H' L' zs = V at *
  generalize yE F H L F' H' L' zs = E at *
  have HM := hid (Ym.new w F H L F' H' L' (.slice a1 n1 c1))
  have HBB := hid (ynew w F H L F' H' L' (.slice a1 n1 c1))
  have HB1 := hid hb1
  clear hb1
  go_enter Try.func5, Try.ntmps5
  go_wp2_with fail
  have d0 := HM.out.c0
  have d1 := HM.out.c1
  have d2 := HM.out.c2
  have d3 := HM.out.c3
  have d4 := HM.out.c4
  have d5 := HM.out.c5
  have d6 := HM.out.c6
  have hlt := HM.out.lt
  have XB1 := hid (HB1.out.below HBB.out)
  generalize w.alloc (.cells #[.int .i64 F, .int .u64 H, .int .u64 L, .int .i64 F', .int .u64 H', .int .u64 L', .slice a1 n1 c1] 45) = wa at *
  go_region_held (fun wx => wx.cell? ⟨w.heap.size, 0, none⟩ = some (.int .i64 F) ∧ wx.cell? ⟨w.heap.size, 1, none⟩ = some (.int .u64 H) ∧ wx.cell? ⟨w.heap.size, 2, none⟩ = some (.int .u64 L) ∧ wx.cell? ⟨w.heap.size, 3, none⟩ = some (.int .i64 F') ∧ wx.cell? ⟨w.heap.size, 4, none⟩ = some (.int .u64 H') ∧ wx.cell? ⟨w.heap.size, 5, none⟩ = some (.int .u64 L') ∧ wx.cell? ⟨w.heap.size, 6, none⟩ = some (.slice a1 n1 c1)) (go_keep) (first | (go_at_call 18; refine (k2 x1 d1' w2 X1.out).mono ?_; rintro e w4 ⟨v4, rfl, o4, g4⟩; obtain ⟨a4, c4, rfl, y4', _⟩ := own_form o4 HYB.out; have y0 := (g4.cell (p := ⟨w.heap.size, 0, none⟩) (Nat.lt_of_lt_of_le hlt G2.out.size)).trans y0; have y1 := (g4.cell (p := ⟨w.heap.size, 1, none⟩) (Nat.lt_of_lt_of_le hlt G2.out.size)).trans y1; have y2 := (g4.cell (p := ⟨w.heap.size, 2, none⟩) (Nat.lt_of_lt_of_le hlt G2.out.size)).trans y2; have y3 := (g4.cell (p := ⟨w.heap.size, 3, none⟩) (Nat.lt_of_lt_of_le hlt G2.out.size)).trans y3; have y4 := (g4.cell (p := ⟨w.heap.size, 4, none⟩) (Nat.lt_of_lt_of_le hlt G2.out.size)).trans y4; have y5 := (g4.cell (p := ⟨w.heap.size, 5, none⟩) (Nat.lt_of_lt_of_le hlt G2.out.size)).trans y5; have y6 := (g4.cell (p := ⟨w.heap.size, 6, none⟩) (Nat.lt_of_lt_of_le hlt G2.out.size)).trans y6; have G4 := hid g4; have Y4 := hid y4'; clear o4 g4 y4') | (go_at_call 10; refine (k1 _ (by exact XB1.out)).mono ?_; rintro e w2 ⟨v2, rfl, o2, g2⟩; obtain ⟨x1, d1', rfl, y1', _⟩ := own_form o2 HB1.out.2.1; have y0 := (g2.cell (p := ⟨w.heap.size, 0, none⟩) hlt).trans d0; have y1 := (g2.cell (p := ⟨w.heap.size, 1, none⟩) hlt).trans d1; have y2 := (g2.cell (p := ⟨w.heap.size, 2, none⟩) hlt).trans d2; have y3 := (g2.cell (p := ⟨w.heap.size, 3, none⟩) hlt).trans d3; have y4 := (g2.cell (p := ⟨w.heap.size, 4, none⟩) hlt).trans d4; have y5 := (g2.cell (p := ⟨w.heap.size, 5, none⟩) hlt).trans d5; have y6 := (g2.cell (p := ⟨w.heap.size, 6, none⟩) hlt).trans d6; have X1 := hid y1'; have G2 := hid g2; clear o2 g2 y1'))
  have Ga : Below wa.heap.size wa w4 := by
    have h1 : Below wa.heap.size wa wa.drew := ⟨rfl, rfl, rfl, Nat.le_refl _, fun _ _ => rfl⟩
    have h2 := bel_bel h1 h1.size G2.out
    exact bel_bel h2 h2.size G4.out
  have m4 := HM.out.kept Ga
  have b4 := bel_bel HBB.out HBB.out.size Ga
  clear y0 y1 y2 y3 y4 y5 y6 d0 d1 d2 d3 d4 d5 d6 X1 G2 G4 Ga HM HBB k1 k2
  have d0 := m4.c0
  have d1 := m4.c1
  have d2 := m4.c2
  have d3 := m4.c3
  have d4 := m4.c4
  have d5 := m4.c5
  have d6 := m4.c6
  go_wp2_with fail
  clear d0 d1 d2 d3 d4 d5 d6
  refine (k3 _ (HB1.out.below b4)).mono ?_
  rintro e w5 ⟨v5, rfl, o5, g5⟩
  obtain ⟨a5, c5, rfl, y5, _⟩ := own_form o5 HYB.out
  have y4 := Y4.out.below g5
  have b5 := bel_bel b4 b4.size g5
  clear k3 o5 g5 b4 m4 Y4
  go_wp2_with fail
  refine (same_yes a4 a5 V.length c4 V.length c5 V w5 y4 y5 (by omega) (by omega)).mono ?_
  rintro e w6 ⟨rfl, d6⟩
  have b6 := bel_bel b5 b5.size d6.below
  clear y4 y5 b5 d6
  go_wp2_with (first | (go_at_call 13; refine (num_ E _).mono ?_; rintro e wn ⟨rfl, hw⟩; obtain rfl := hw.symm; clear hw) | (go_at_call 14; refine (first_ _).mono ?_; rintro e wf ⟨rfl, gf⟩; have bf := bel_bel b6 b6.size gf))
  go_ret
  exact ⟨rfl, bf⟩
set_option maxHeartbeats 4000000 in
theorem packetCarries_ (a : Option Addr) (n c : Nat) (zs : List Int) (w : World) (hb : Bs w a n zs) (hnc : n ≤ c) (hc : c ≤ maxLen) (hn : n ≤ 140737488351232) :
    Calls Try.prog 6 #[.slice a n c] w fun e w' => e = .returned (.bool true) ∧ Below w.heap.size w w' := by
  have k1 := refBytes a n c zs w hb hn
  have k2 := fun a1 c1 w h1 h2 h3 => getPayload_ a1 n c1 zs w h1 h2 h3
  have k3 := fun w h1 => refGetPayload_ a n c zs w h1 hnc hc
  have HBY := hid hb.2.1
  have HBS := hid hb
  unfold Wo at k2 k3
  obtain ⟨F, HF⟩ : ∃ x, Hid (zZ zs (af (yN zs)) = x) := ⟨_, rfl⟩
  obtain ⟨H, HH⟩ : ∃ x, Hid (zZ zs (ah (zS zs)) = x) := ⟨_, rfl⟩
  obtain ⟨L, HL⟩ : ∃ x, Hid (zZ zs (alP (zS zs)) = x) := ⟨_, rfl⟩
  obtain ⟨H', HH'⟩ : ∃ x, Hid (zZ zs (ah (zD zs)) = x) := ⟨_, rfl⟩
  obtain ⟨L', HL'⟩ : ∃ x, Hid (zZ zs (alP (zD zs)) = x) := ⟨_, rfl⟩
  obtain ⟨E, HE⟩ : ∃ x, Hid (zE zs = x) := ⟨_, rfl⟩
  simp only [HF.out, HH.out, HL.out, HH'.out, HL'.out, HE.out] at k2 k3
  have HZY : Hid (∀ z ∈ zB zs, 0 ≤ z ∧ z ≤ 255) := by
    show ∀ z ∈ _, _
    unfold zB
    split
    · exact fun z hz => hb.2.1 z (List.mem_of_mem_drop hz)
    · intro z hz
      simp at hz
  have hZL : (zB zs).length ≤ 1280 := by
    unfold zB
    split
    · rename_i h
      have := (zOk_in h).2.2
      rw [List.length_drop]
      omega
    · simp
  generalize zB zs = V at *
  clear hb
  go_enter Try.func6, Try.ntmps6
  go_wp2_with fail
  refine k1.mono ?_
  rintro e w1 ⟨v1, rfl, o1, g1⟩
  obtain ⟨x1, d1, rfl, y1, i1, j1, _⟩ := own_form o1 HBY.out
  clear o1 k1
  go_wp2_with fail
  refine (k2 x1 d1 w1 y1 i1 j1).mono ?_
  rintro e w2 ⟨⟨a1, n1, c1, rfl, o2⟩, g2⟩
  obtain ⟨a3, e3, q3, y2, i3, j3, _⟩ := own_form o2 HZY.out
  obtain ⟨rfl, -, rfl⟩ : a1 = a3 ∧ n1 = n1 ∧ c1 = e3 := by simpa using q3
  have l1 := y2.1
  have b2 := bel_bel g1 g1.size g2
  have BA := (Below.refl w2.heap.size w2).alloc (Nat.le_refl _) (.cells #[.int .i64 F, .int .u64 H, .int .u64 L, .int .i64 F, .int .u64 H', .int .u64 L', .slice a1 n1 c1] 45)
  have M2 : Hid (Ym (w2.alloc (.cells #[.int .i64 F, .int .u64 H, .int .u64 L, .int .i64 F, .int .u64 H', .int .u64 L', .slice a1 n1 c1] 45)) w2.heap.size F H L F H' L' (.slice a1 n1 c1)) := Ym.new w2 _ _ _ _ _ _ _
  have Y2 := hid (y2.below BA)
  have B2 := hid (bel_bel b2 b2.size BA)
  clear o2 g2 g1 y1 k2 y2 b2 BA q3
  go_wp2_with fail
  refine (k3 _ (HBS.out.below B2.out)).mono ?_
  rintro e w3 ⟨⟨a2, n2, c2, rfl, o3⟩, g3⟩
  obtain ⟨a4, e4, q4, y3, i4, j4, _⟩ := own_form o3 HZY.out
  obtain ⟨rfl, -, rfl⟩ : a2 = a4 ∧ n2 = n2 ∧ c2 = e4 := by simpa using q4
  have l2 := y3.1
  have b3 := bel_bel B2.out B2.out.size g3
  have BA := (Below.refl w3.heap.size w3).alloc (Nat.le_refl _) (.cells #[.int .i64 F, .int .u64 H, .int .u64 L, .int .i64 F, .int .u64 H', .int .u64 L', .slice a2 n2 c2] 45)
  have N3 : Hid (Ym (w3.alloc (.cells #[.int .i64 F, .int .u64 H, .int .u64 L, .int .i64 F, .int .u64 H', .int .u64 L', .slice a2 n2 c2] 45)) w3.heap.size F H L F H' L' (.slice a2 n2 c2)) := Ym.new w3 _ _ _ _ _ _ _
  have M3 := hid ((M2.out.kept g3).kept BA)
  have Y3 := hid ((Y2.out.below g3).below BA)
  have Z3 := hid (y3.below BA)
  have B3 := hid (bel_bel b3 b3.size BA)
  clear o3 g3 y3 b3 BA q4 k3 M2 Y2 B2
  have d0 := M3.out.c0
  have d1 := M3.out.c1
  have d2 := M3.out.c2
  have d3 := M3.out.c3
  have d4 := M3.out.c4
  have d5 := M3.out.c5
  have d6 := M3.out.c6
  go_wp2_with fail
  clear d0 d1 d2 d3 d4 d5 d6
  refine (samePayload_ F H L F H' L' a1 n1 c1 a2 n2 c2 V _ Y3.out Z3.out (by omega) (by omega)).mono ?_
  rintro e w5 ⟨rfl, g5⟩
  have b6 := bel_bel B3.out B3.out.size g5
  clear g5 M3 N3 Y3 Z3 B3
  go_wp2_with (first | (go_at_call 13; refine (num_ E _).mono ?_; rintro e wn ⟨rfl, hw⟩; obtain rfl := hw.symm; clear hw) | (go_at_call 14; refine (first_ _).mono ?_; rintro e wf ⟨rfl, gf⟩; have bf := bel_bel b6 b6.size gf))
  go_ret
  exact ⟨rfl, bf⟩
end Go.Proofs.Ytnjfckijpbgagaa
