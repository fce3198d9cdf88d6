import Derived.Test.YtgcbfamlediafaaH5
import Derived.Test.YtgcbfamlediafaaH4
import Derived.Lib.AppendZerosOnto
import Derived.Test.YtgcbfamlediafaaN4
import Derived.Test.YtgcbfamlediafaaPTxt
import Derived.ProofKit
import Derived.OpenShut
import Derived.ChangeSame
import Derived.Deep.Slices
import Derived.Deep.Strs
import Derived.SizedLaws
namespace Go.Proofs.Ytgcbfamlediafaa
set_option maxRecDepth 100000
open Go.RowKit
set_option linter.unusedVariables false

theorem num_ (E : Int) (w : World) : Calls Try.prog 14 #[.int .i64 E] w fun e w' => e = .returned (.int .i64 E) ∧ w' = w := by
  go_enter Try.func14, Try.ntmps14
  go_wp2_with fail
  go_ret
  exact ⟨rfl, rfl⟩
theorem sameHead_ (T K G C : Int) (w : World) : Calls Try.prog 19 #[.agg #[.int .i64 T, .int .i64 K, .int .i64 G, .int .u64 C], .agg #[.int .i64 T, .int .i64 K, .int .i64 G, .int .u64 C]] w fun e w' => e = .returned (.bool true) ∧ Below w.heap.size w w' := by
  have B0 := (hnew w T K G C).alloc (by simp) (.cells #[.int .i64 T, .int .i64 K, .int .i64 G, .int .u64 C] 24)
  go_enter Try.func19, Try.ntmps19
  go_wp2_with fail
  go_ret
  exact ⟨rfl, B0⟩
theorem zeros_cells (n : Nat) : Builtin.zeroCells #[Value.int .u8 0] n = (cells (List.replicate n 0)).toArray := by
  apply Array.ext
  · simp [Builtin.zeroCells, cells]
  · intro i h1 h2
    simp [Builtin.zeroCells, cells, Nat.mod_one]
def want20 : List Int := [3, 0, 0, 0, 0, 0, 0, 7, 0, 0, 0, 1, 0, 0, 0, 0, 0, 0, 1, 2]
def want12 : List Int := [128, 0, 0, 1, 0, 0, 0, 0, 0, 0, 1, 2]
theorem ex_head : hB 3 7 1 258 = want20 ∧ hE 3 7 1 258 = 0 := by decide
theorem ex_nonce : nB 1 1 258 = want12 := by decide
def want45 : List Int := want20 ++ List.replicate 25 0
theorem ex_get : gZ want45 (gT want45) = 3 ∧ gZ want45 (gK want45) = 7 ∧ gZ want45 (gG want45) = 1 ∧ gZ want45 (gC want45) = 258 ∧ gE want45 = 0 := by decide
set_option maxHeartbeats 4000000 in
/-- The chapter's first example. -/
theorem first_ (w : World) : Calls Try.prog 15 #[] w fun e w' => e = .returned (.bool true) ∧ Below w.heap.size w w' := by
  obtain ⟨i5, hi, hz0, hz1, hz2⟩ := info_parts info5
  have B0 := hnew w 3 7 1 258
  have m0 := Hm.new w 3 7 1 258
  have k1 := fun w => putHead_ 3 7 1 258 w ⟨by decide, by decide⟩
  rw [ex_head.1, ex_head.2] at k1
  have k2 := fun w => nonce_ 1 1 258 w ⟨by decide, by decide⟩
  rw [ex_nonce] at k2
  have HB := hid B0
  have HM := hid m0
  clear B0 m0
  go_enter Try.func15, Try.ntmps15
  go_wp2_with fail
  refine (k1 _).mono ?_
  rintro e w1 ⟨v1, rfl, o1, g1⟩
  obtain ⟨a1, c1, rfl, y1, _⟩ := own_form o1 (by decide)
  have BA := (Below.refl w1.heap.size w1).alloc (Nat.le_refl _) (.cells #[.int .u8 3, .int .u8 0, .int .u8 0, .int .u8 0, .int .u8 0, .int .u8 0, .int .u8 0, .int .u8 7, .int .u8 0, .int .u8 0, .int .u8 0, .int .u8 1, .int .u8 0, .int .u8 0, .int .u8 0, .int .u8 0, .int .u8 0, .int .u8 0, .int .u8 1, .int .u8 2] 5)
  have R1 : Hid (Row (w1.alloc (.cells #[.int .u8 3, .int .u8 0, .int .u8 0, .int .u8 0, .int .u8 0, .int .u8 0, .int .u8 0, .int .u8 7, .int .u8 0, .int .u8 0, .int .u8 0, .int .u8 1, .int .u8 0, .int .u8 0, .int .u8 0, .int .u8 0, .int .u8 0, .int .u8 0, .int .u8 1, .int .u8 2] 5)) w1.heap.size want20) := heap_alloc_new w1 _
  have Y1 := hid (y1.below BA)
  have M1 := hid ((HM.out.kept g1).kept BA)
  have B1 := hid (bel_bel (bel_bel HB.out HB.out.size g1) (bel_bel HB.out HB.out.size g1).size BA)
  clear k1 o1 g1 y1 HB HM BA
  go_wp2_with fail
  generalize w1.alloc (.cells #[.int .u8 3, .int .u8 0, .int .u8 0, .int .u8 0, .int .u8 0, .int .u8 0, .int .u8 0, .int .u8 7, .int .u8 0, .int .u8 0, .int .u8 0, .int .u8 1, .int .u8 0, .int .u8 0, .int .u8 0, .int .u8 0, .int .u8 0, .int .u8 0, .int .u8 1, .int .u8 2] 5) = wa at *
  generalize w1.heap.size = q at *
  have HW : Hid (Bs wa (some ⟨q, 0, none⟩) 20 want20) := R1.out.bs (by decide)
  refine (same_yes a1 (some ⟨q, 0, none⟩) 20 c1 20 20 want20 wa Y1.out HW.out (by decide) (by decide)).mono ?_
  rintro e w2 ⟨rfl, d2⟩
  have M2 := hid (M1.out.kept d2.below)
  have B2 := hid (bel_bel B1.out B1.out.size d2.below)
  have R2 : Hid (Row w2 q want20) := by
    show Row _ _ _
    unfold Row
    rw [d2.at]
    exact R1.out
  clear R1 Y1 M1 B1 HW d2
  go_wp2_with fail
  refine (k2 _).mono ?_
  rintro e w3 ⟨v3, rfl, o3, g3⟩
  obtain ⟨a3, c3, rfl, y3, _⟩ := own_form o3 (by decide)
  have BA := (Below.refl w3.heap.size w3).alloc (Nat.le_refl _) (.cells #[.int .u8 128, .int .u8 0, .int .u8 0, .int .u8 1, .int .u8 0, .int .u8 0, .int .u8 0, .int .u8 0, .int .u8 0, .int .u8 0, .int .u8 1, .int .u8 2] 5)
  have N3 : Hid (Row (w3.alloc (.cells #[.int .u8 128, .int .u8 0, .int .u8 0, .int .u8 1, .int .u8 0, .int .u8 0, .int .u8 0, .int .u8 0, .int .u8 0, .int .u8 0, .int .u8 1, .int .u8 2] 5)) w3.heap.size want12) := heap_alloc_new w3 _
  have Y3 := hid (y3.below BA)
  have M3 := hid ((M2.out.kept g3).kept BA)
  have B3 := hid (bel_bel (bel_bel B2.out B2.out.size g3) (bel_bel B2.out B2.out.size g3).size BA)
  have R3 : Hid (Row (w3.alloc (.cells #[.int .u8 128, .int .u8 0, .int .u8 0, .int .u8 1, .int .u8 0, .int .u8 0, .int .u8 0, .int .u8 0, .int .u8 0, .int .u8 0, .int .u8 1, .int .u8 2] 5)) q want20) := by
    show Row _ _ _
    have hq := R2.out.lt
    unfold Row
    rw [BA.block q (Nat.lt_of_lt_of_le hq g3.size), g3.block q hq]
    exact R2.out
  clear k2 o3 g3 y3 BA M2 B2 R2
  go_wp2_with fail
  generalize w3.alloc (.cells #[.int .u8 128, .int .u8 0, .int .u8 0, .int .u8 1, .int .u8 0, .int .u8 0, .int .u8 0, .int .u8 0, .int .u8 0, .int .u8 0, .int .u8 1, .int .u8 2] 5) = wb at *
  generalize w3.heap.size = q3 at *
  have HN : Hid (Bs wb (some ⟨q3, 0, none⟩) 12 want12) := N3.out.bs (by decide)
  refine (same_yes a3 (some ⟨q3, 0, none⟩) 12 c3 12 12 want12 wb Y3.out HN.out (by decide) (by decide)).mono ?_
  rintro e w4 ⟨rfl, d4⟩
  have M4 := hid (M3.out.kept d4.below)
  have B4 := hid (bel_bel B3.out B3.out.size d4.below)
  have R4 : Hid (Row w4 q want20) := by
    show Row _ _ _
    unfold Row
    rw [d4.at]
    exact R3.out
  clear M3 B3 R3 d4 N3 Y3 HN
  have HOLD : Hid ((Builtin.firstCells i5.size 20 (.slice (some ⟨q, 0, none⟩) 20 20)).run Try.prog w4.drew = .ok (cells want20).toArray w4.drew) := by
    show _ = _
    refine run_firstCells_some w4.drew i5.size 20 ⟨q, 0, none⟩ 20 20 (cells want20) (by rw [hz1]; rfl) (fun j v hj => ?_)
    have hj' : j < 20 := (List.getElem?_eq_some_iff.1 hj).1
    rw [Addr.add_lit, Nat.zero_add]
    show w4.cell? ⟨q, j, none⟩ = some v
    rw [cell_of_row w4 q j _ _ (0, 0) R4.out, ← hj]
    simp
  have hrz := fun ty => Lib.run_append_grow_zeros (P := Try.prog) w4 25 3 ty 5 i5 (.int .u8 0) .i64 .i64 Try.underlying25 Try.underlying3 hi hz0 (some ⟨q, 0, none⟩) 20 20 (cells want20) HOLD.out 25 (by decide) (by omega) (by decide) (by decide) (by rw [hz2]; decide) (by rw [hz2]; decide)
  have hGn : 45 ≤ grownCap w4 45 20 5 := grownCap_ge w4 _ _ _
  have hG63 := grownCap_le_maxLen w4 45 20 5 (by unfold maxLen; omega)
  obtain ⟨G, hG⟩ : ∃ G, G = grownCap w4 (20 + 25) 20 5 := ⟨_, rfl⟩
  replace hGn : 45 ≤ G := by rw [hG]; exact hGn
  replace hG63 : G ≤ maxLen := by rw [hG]; exact hG63
  rw [← hG] at hrz
  clear hG
  have HRZ := hid hrz
  clear hrz
  go_wp2_with (at_builtin; refine Lib.wpList_append_run _ rfl _ _ _ _ rfl _ _ rfl rfl _ _ (HRZ.out _) ?_)
  have hG0 := hG63
  unfold maxLen at hG0
  have RG : Hid ((w4.alloc (.cells ((cells want20).toArray ++ (Builtin.zeroCells #[.int .u8 0] 25 ++ Builtin.zeroCells #[.int .u8 0] (G - 45))) 5)).drew.heap[w4.heap.size]? = some (.cells ((cells want20).toArray ++ (Builtin.zeroCells #[.int .u8 0] 25 ++ Builtin.zeroCells #[.int .u8 0] (G - 45))) 5 (0, 0))) := heap_alloc_new w4 _
  have B5 : Hid (Below w4.heap.size w4 (w4.alloc (.cells ((cells want20).toArray ++ (Builtin.zeroCells #[.int .u8 0] 25 ++ Builtin.zeroCells #[.int .u8 0] (G - 45))) 5)).drew) := by
    have hA := (Below.refl w4.heap.size w4).alloc (Nat.le_refl _) (.cells ((cells want20).toArray ++ (Builtin.zeroCells #[.int .u8 0] 25 ++ Builtin.zeroCells #[.int .u8 0] (G - 45))) 5)
    exact ⟨hA.os, hA.tape, hA.output, hA.size, hA.block⟩
  have YG : Hid (Bs (w4.alloc (.cells ((cells want20).toArray ++ (Builtin.zeroCells #[.int .u8 0] 25 ++ Builtin.zeroCells #[.int .u8 0] (G - 45))) 5)).drew (some ⟨w4.heap.size, 0, none⟩) 45 want45) := by
    refine ⟨rfl, by decide, .inr ⟨w4.heap.size, 0, rfl, fun i hi => ?_⟩⟩
    rw [Nat.zero_add, cell_of_row _ _ i _ _ (0, 0) RG.out]
    have hz : Builtin.zeroCells #[Value.int .u8 0] 25 = (cells (List.replicate 25 0)).toArray := zeros_cells 25
    have hs : (cells want20).toArray ++ (cells (List.replicate 25 0)).toArray = (cells want45).toArray := rfl
    rw [hz, ← Array.append_assoc, hs]
    have hlen : (cells want45).length = 45 := rfl
    have hi' : i < 45 := hi
    rw [Array.getElem?_append_left (by simp [hlen]; omega)]
    have := cells_get want45 i hi'
    simpa using this
  have M5 := hid (M4.out.kept B5.out)
  have B6 := hid (bel_bel B4.out B4.out.size B5.out)
  generalize (w4.alloc (.cells ((cells want20).toArray ++ (Builtin.zeroCells #[.int .u8 0] 25 ++ Builtin.zeroCells #[.int .u8 0] (G - 45))) 5)).drew = w5 at *
  generalize w4.heap.size = q5 at *
  have k5 := getHead_ (some ⟨q5, 0, none⟩) 45 G want45 w5 YG.out hGn hG63
  rw [ex_get.1, ex_get.2.1, ex_get.2.2.1, ex_get.2.2.2.1, ex_get.2.2.2.2] at k5
  clear RG B5 YG M4 B4 R4 HOLD HRZ
  refine k5.mono ?_
  rintro e w6 ⟨rfl, g6⟩
  have m6 := M5.out.kept g6
  have b6 := bel_bel B6.out B6.out.size g6
  have M7 := hid (m6.alloc (.cells #[.int .i64 3, .int .i64 7, .int .i64 1, .int .u64 258] 24))
  have B7 := hid (b6.alloc b6.size (.cells #[.int .i64 3, .int .i64 7, .int .i64 1, .int .u64 258] 24))
  have N7 : Hid (Hm (w6.alloc (.cells #[.int .i64 3, .int .i64 7, .int .i64 1, .int .u64 258] 24)) w6.heap.size 3 7 1 258) := Hm.new w6 3 7 1 258
  have d0 := M7.out.c0
  have d1 := M7.out.c1
  have d2 := M7.out.c2
  have d3 := M7.out.c3
  clear k5 g6 m6 b6 M5 B6
  go_wp2_with fail
  clear d0 d1 d2 d3
  refine (sameHead_ 3 7 1 258 _).mono ?_
  rintro e w7 ⟨rfl, g7⟩
  have b7 := bel_bel B7.out B7.out.size g7
  clear g7 M7 N7 B7
  go_wp2_with (go_at_call 14; refine (num_ 0 _).mono ?_; rintro e wn ⟨rfl, hw⟩; obtain rfl := hw.symm; clear hw)
  go_ret
  exact ⟨rfl, b7⟩
end Go.Proofs.Ytgcbfamlediafaa
namespace Go.Proofs.Ytgcbfamlediafaa
set_option maxRecDepth 100000
open Go.RowKit
set_option linter.unusedVariables false

set_option maxHeartbeats 2000000 in
theorem packetHeads_ (T K G C S : Int) (w : World) (hC : InU C) :
    Calls Try.prog 3 #[.agg #[.int .i64 T, .int .i64 K, .int .i64 G, .int .u64 C], .int .i64 S] w fun e w' => e = .returned (.bool true) ∧ Below w.heap.size w w' := by
  have B0 := hnew w T K G C
  have m0 := Hm.new w T K G C
  have k1 := fun w => putHead_ T K G C w hC
  have k2 := fun w => refPutHead_ T K G C w hC
  have k3 := fun w => nonce_ S G C w hC
  have k4 := fun w => refNonce_ S G C w hC
  have HY := hid (hB_byte T K G C)
  have HZ := hid (nB_byte S G C)
  have l1 : (hB T K G C).length ≤ 20 := by rw [hB_length]; split <;> omega
  have l2 : (nB S G C).length ≤ 12 := by rw [nB_length]; split <;> omega
  generalize hB T K G C = X at *
  generalize nB S G C = Z at *
  generalize hE T K G C = E at *
  have HB := hid B0
  have HM := hid m0
  clear B0 m0
  go_enter Try.func3, Try.ntmps3
  go_wp2_with fail
  refine (k1 _).mono ?_
  rintro e w1 ⟨v1, rfl, o1, g1⟩
  obtain ⟨a1, c1, rfl, y1, _⟩ := own_form o1 HY.out
  have m1 := HM.out.kept g1
  have b1 := bel_bel HB.out HB.out.size g1
  have d0 := m1.c0
  have d1 := m1.c1
  have d2 := m1.c2
  have d3 := m1.c3
  clear o1 g1 k1 HB HM
  go_wp2_with fail
  refine (k2 _).mono ?_
  rintro e w2 ⟨v2, rfl, o2, g2⟩
  obtain ⟨a2, c2, rfl, y2, _⟩ := own_form o2 HY.out
  replace y1 := y1.below g2
  replace m1 := m1.kept g2
  replace b1 := bel_bel b1 b1.size g2
  clear d0 d1 d2 d3 o2 g2 k2
  go_wp2_with fail
  refine (same_yes a1 a2 X.length c1 X.length c2 X w2 y1 y2 (by omega) (by omega)).mono ?_
  rintro e w3 ⟨rfl, d3⟩
  replace m1 := m1.kept d3.below
  replace b1 := bel_bel b1 b1.size d3.below
  have d2 := m1.c2
  have d4 := m1.c3
  clear y1 y2 d3
  go_wp2_with fail
  refine (k3 _).mono ?_
  rintro e w4 ⟨v4, rfl, o4, g4⟩
  obtain ⟨a4, c4, rfl, y4, _⟩ := own_form o4 HZ.out
  replace m1 := m1.kept g4
  replace b1 := bel_bel b1 b1.size g4
  clear d2 d4 o4 g4 k3
  have d2 := m1.c2
  have d4 := m1.c3
  go_wp2_with fail
  refine (k4 _).mono ?_
  rintro e w5 ⟨v5, rfl, o5, g5⟩
  obtain ⟨a5, c5, rfl, y5, _⟩ := own_form o5 HZ.out
  replace y4 := y4.below g5
  replace b1 := bel_bel b1 b1.size g5
  clear d2 d4 o5 g5 k4 m1
  go_wp2_with fail
  refine (same_yes a4 a5 Z.length c4 Z.length c5 Z w5 y4 y5 (by omega) (by omega)).mono ?_
  rintro e w6 ⟨rfl, d6⟩
  replace b1 := bel_bel b1 b1.size d6.below
  clear y4 y5 d6
  go_wp2_with (first | (go_at_call 14; refine (num_ E _).mono ?_; rintro e wn ⟨rfl, hw⟩; obtain rfl := hw.symm; clear hw) | (go_at_call 15; refine (first_ _).mono ?_; rintro e wf ⟨rfl, gf⟩; have bf := bel_bel b1 b1.size gf))
  go_ret
  exact ⟨rfl, bf⟩
set_option maxHeartbeats 2000000 in
theorem packetReads_ (a : Option Addr) (n c : Nat) (zs : List Int) (w : World) (hb : Bs w a n zs) (hnc : n ≤ c) (hc : c ≤ maxLen) (hn : n ≤ 140737488351232) :
    Calls Try.prog 4 #[.slice a n c] w fun e w' => e = .returned (.bool true) ∧ Below w.heap.size w w' := by
  have k1 := refBytes a n c zs w hb hn
  have HBY := hid hb.2.1
  have HBS := hid hb
  have k2 := fun a1 c1 w h1 h2 h3 => getHead_ a1 n c1 zs w h1 h2 h3
  have k3 := fun w h1 => refGetHead_ a n c zs w h1 hnc hc
  obtain ⟨T, HT⟩ : ∃ x, Hid (gZ zs (gT zs) = x) := ⟨_, rfl⟩
  obtain ⟨K, HK⟩ : ∃ x, Hid (gZ zs (gK zs) = x) := ⟨_, rfl⟩
  obtain ⟨G, HG⟩ : ∃ x, Hid (gZ zs (gG zs) = x) := ⟨_, rfl⟩
  obtain ⟨C, HC⟩ : ∃ x, Hid (gZ zs (gC zs) = x) := ⟨_, rfl⟩
  obtain ⟨E, HE⟩ : ∃ x, Hid (gE zs = x) := ⟨_, rfl⟩
  simp only [HT.out, HK.out, HG.out, HC.out, HE.out] at k2 k3
  have hmx : n ≤ maxLen := by unfold maxLen; omega
  clear hb
  go_enter Try.func4, Try.ntmps4
  go_wp2_with fail
  refine k1.mono ?_
  rintro e w1 ⟨v1, rfl, o1, g1⟩
  obtain ⟨a1, c1, rfl, y1, i1, i2, _⟩ := own_form o1 HBY.out
  go_wp2_with fail
  refine (k2 a1 c1 w1 y1 i1 i2).mono ?_
  rintro e w2 ⟨rfl, g2⟩
  have b2 := bel_bel g1 g1.size g2
  have y2 := y1.below g2
  have m2 := Hm.new w2 T K G C
  have BA := (Below.refl w2.heap.size w2).alloc (Nat.le_refl _) (.cells #[.int .i64 T, .int .i64 K, .int .i64 G, .int .u64 C] 24)
  have M2 := hid m2
  have Y3 := hid (y2.below BA)
  have B3 := hid (bel_bel b2 b2.size BA)
  clear o1 g1 y1 k1 k2 g2 y2 b2 m2 BA
  go_wp2_with fail
  refine (k3 _ (HBS.out.below B3.out)).mono ?_
  rintro e w3 ⟨rfl, g3⟩
  have m3 := M2.out.kept g3
  have b3 := bel_bel B3.out B3.out.size g3
  have y3 := Y3.out.below g3
  have BA := (Below.refl w3.heap.size w3).alloc (Nat.le_refl _) (.cells #[.int .i64 T, .int .i64 K, .int .i64 G, .int .u64 C] 24)
  have N4 : Hid (Hm (w3.alloc (.cells #[.int .i64 T, .int .i64 K, .int .i64 G, .int .u64 C] 24)) w3.heap.size T K G C) := Hm.new w3 T K G C
  have M4 := hid (m3.kept BA)
  have Y4 := hid (y3.below BA)
  have B4 := hid (bel_bel b3 b3.size BA)
  clear g3 m3 b3 y3 BA k3 M2 Y3 B3
  have d0 := M4.out.c0
  have d1 := M4.out.c1
  have d2 := M4.out.c2
  have d3 := M4.out.c3
  go_wp2_with fail
  clear d0 d1 d2 d3
  refine (sameHead_ T K G C _).mono ?_
  rintro e w5 ⟨rfl, g5⟩
  have y5 := Y4.out.below g5
  have b5 := bel_bel B4.out B4.out.size g5
  clear g5 M4 N4 Y4 B4
  go_wp2_with fail
  refine (same_d a1 a n c1 n c zs zs w5 y5 (HBS.out.below b5) hmx hmx).mono ?_
  rintro e w6 ⟨rfl, d6⟩
  have b6 := bel_bel b5 b5.size d6.below
  rw [sameB_self]
  clear y5 b5 d6
  go_wp2_with (first | (go_at_call 14; refine (num_ E _).mono ?_; rintro e wn ⟨rfl, hw⟩; obtain rfl := hw.symm; clear hw) | (go_at_call 15; refine (first_ _).mono ?_; rintro e wf ⟨rfl, gf⟩; have bf := bel_bel b6 b6.size gf))
  go_ret
  exact ⟨rfl, bf⟩
end Go.Proofs.Ytgcbfamlediafaa
namespace Go.Proofs.Ytgcbfamlediafaa
set_option maxRecDepth 100000
open Go.ChangeShapes Go.WideShapes Go.ChangeAt Go.RowKit
set_option linter.unusedVariables false

/-- A slice of integers that came in: nil, or a row of 'cap' numbers. -/
def IsRow (k : IntKind) (w : World) (a : Option Addr) (len cap : Nat) (zs : List Int) : Prop :=
  (a = none ∧ len = 0 ∧ cap = 0 ∧ zs = []) ∨
  ∃ x, a = some x ∧ len ≤ cap ∧ cap ≤ maxLen ∧ zs.length = cap ∧ (∀ i, i < zs.length → w.cell? (x.add i) = some (.int k (zs.getD i 0))) ∧ ∀ n ∈ zs, (Lit.int k n).wf = true

theorem IsRow.fits {k : IntKind} {w : World} {a : Option Addr} {len cap : Nat} {zs : List Int} (h : IsRow k w a len cap zs) : len ≤ cap ∧ cap ≤ maxLen ∧ (a = none → cap = 0) ∧ zs.length = cap := by
  rcases h with ⟨rfl, rfl, rfl, rfl⟩ | ⟨x, rfl, hl, hm, hz, _⟩
  · exact ⟨Nat.le_refl _, by unfold maxLen; omega, fun _ => rfl, rfl⟩
  · exact ⟨hl, hm, (fun e => by cases e), hz⟩

theorem IsRow.at {k : IntKind} {w : World} {a : Option Addr} {len cap : Nat} {zs : List Int} (h : IsRow k w a len cap zs) :
    len = 0 ∨ ∃ b off, a = some ⟨b, off, none⟩ ∧ ∀ i, i < len → w.cell? ⟨b, off + i, none⟩ = some (.int k (zs.getD i 0)) := by
  rcases h with ⟨rfl, rfl, rfl, rfl⟩ | ⟨x, rfl, hl, hm, hz, hcell, hwz⟩
  · exact .inl rfl
  · by_cases h0 : len = 0
    · exact .inl h0
    · obtain ⟨b, off, spot⟩ := x
      have hc := hcell 0 (by omega)
      have hspot : spot = none := by simpa [Addr.add] using World.cell?_spot hc
      subst hspot
      refine .inr ⟨b, off, rfl, fun i hi => ?_⟩
      have := hcell i (by omega)
      rwa [Addr.add_lit] at this

theorem IsRow.bs {w : World} {a : Option Addr} {len cap : Nat} {zs : List Int} (h : IsRow .u8 w a len cap zs) : Bs w a len (zs.take len) := by
  obtain ⟨f1, f2, _, f3⟩ := h.fits
  have hat := h.at
  refine ⟨by simp; omega, fun z hz => ?_, ?_⟩
  · rcases h with ⟨rfl, rfl, rfl, rfl⟩ | ⟨x, rfl, hl, hm, hz', hcell, hwz⟩
    · simp at hz
    · exact bounds_u8 (hwz z (List.mem_of_mem_take hz))
  · rcases hat with h0 | ⟨b, off, rfl, hc⟩
    · exact .inl h0
    · refine .inr ⟨b, off, rfl, fun i hi => ?_⟩
      rw [hc i hi]
      simp only [List.getD, List.getElem?_take, if_pos hi]
theorem underAd : ∃ f0 f1 f2, Try.prog.underlying 52 = some (.struct #[f0, f1, f2]) ∧ f0.type = 3 ∧ f1.type = 22 ∧ f2.type = 22 ∧ f0.offset = 0 ∧ f1.offset = 1 ∧ f2.offset = 2 := ⟨_, _, _, Try.underlying52, rfl, rfl, rfl, rfl, rfl, rfl⟩
theorem underPx : ∃ f0 f1, Try.prog.underlying 112 = some (.struct #[f0, f1]) ∧ f0.type = 52 ∧ f1.type = 3 ∧ f0.offset = 0 ∧ f1.offset = 3 := ⟨_, _, Try.underlying112, rfl, rfl, rfl, rfl⟩
theorem cells3 : Try.prog.cellsOf 3 = 1 := by kernel_rfl
theorem cellsU : Try.prog.cellsOf 22 = 1 := by kernel_rfl
theorem cellsAd : Try.prog.cellsOf 52 = 3 := by kernel_rfl
theorem cellsPx : Try.prog.cellsOf 112 = 4 := by kernel_rfl
theorem inU_of {n : Int} (h : (Lit.int .u64 n).wf = true) : InU n := by
  have := bounds_u64 h
  unfold InU
  omega
/-- Three cells that read as an address. -/
theorem open_three {H : Type} {enc : TypeId × Value → H} {W : World} {b0 fuel : Nat} {spare : Nat → Bool} {held : Bool} {cs : List Value} {x : DataW H × List MemPlace} (h : DataW.trod enc Try.prog W b0 spare held fuel 52 cs = some x) :
    ∃ F H L, InI F ∧ InU H ∧ InU L ∧ cs = [.int .i64 F, .int .u64 H, .int .u64 L] := by
  obtain ⟨f0, f1, f2, hu, t0, t1, t2, o0, o1, o2⟩ := underAd
  obtain ⟨y0, y1, y2, q, _, hl, h0, h1, h2⟩ := Go.Deep.trod_struct3 hu h
  rw [t0, o0, cells3] at h0
  rw [t1, o1, cellsU] at h1
  rw [t2, o2, cellsU] at h2
  rw [cellsAd] at hl
  obtain ⟨F, e0, _, w0⟩ := DataW.trod_int Try.underlying3 h0
  obtain ⟨H', e1, _, w1⟩ := DataW.trod_int Try.underlying22 h1
  obtain ⟨L, e2, _, w2⟩ := DataW.trod_int Try.underlying22 h2
  refine ⟨F, H', L, bounds_i64 w0, inU_of w1, inU_of w2, ?_⟩
  match cs, hl with
  | [a, b, c], _ =>
    simp at e0 e1 e2
    rw [e0, e1, e2]
/-- Four that read as a prefix. -/
theorem open_four {H : Type} {enc : TypeId × Value → H} {W : World} {b0 fuel : Nat} {spare : Nat → Bool} {held : Bool} {cs : List Value} {x : DataW H × List MemPlace} (h : DataW.trod enc Try.prog W b0 spare held fuel 112 cs = some x) :
    ∃ F H L B, (InI F ∧ InU H ∧ InU L ∧ InI B) ∧ cs = [.int .i64 F, .int .u64 H, .int .u64 L, .int .i64 B] := by
  obtain ⟨f0, f1, hu, t0, t1, o0, o1⟩ := underPx
  obtain ⟨y0, y1, q, _, hl, h0, h1⟩ := trod_struct2 hu h
  rw [t0, o0, cellsAd] at h0
  rw [t1, o1, cells3] at h1
  rw [cellsPx] at hl
  obtain ⟨F, H', L, a1, a2, a3, e0⟩ := open_three h0
  obtain ⟨B, e1, _, w1⟩ := DataW.trod_int Try.underlying3 h1
  refine ⟨F, H', L, B, ⟨a1, a2, a3, bounds_i64 w1⟩, ?_⟩
  match cs, hl with
  | [a, b, c, d], _ =>
    simp at e0 e1
    rw [e0.1, e0.2.1, e0.2.2, e1]
theorem open_ad {H : Type} {enc : TypeId × Value → H} {W : World} {base b0 : Nat} {spare : Nat → Bool} {held : Bool} {v : Value} {d : DataW H} {p : List MemPlace} (hv : Value.okWide Try.prog W .any base 52 v) (h : DataW.Trod enc Try.prog W b0 spare held 52 v d p) :
    ∃ F H L, (InI F ∧ InU H ∧ InU L) ∧ v = .agg #[.int .i64 F, .int .u64 H, .int .u64 L] := by
  obtain ⟨cs, rfl, hsz, _⟩ : ∃ cs, v = .agg cs ∧ cs.size = Try.prog.cellsOf 52 ∧ Row.okWide Try.prog W .any base 52 cs := by
    simpa [Value.okWide, Try.underlying52] using hv
  obtain ⟨fuel, hf⟩ := h
  obtain ⟨F, H', L, a1, a2, a3, e⟩ := open_three hf
  refine ⟨F, H', L, ⟨a1, a2, a3⟩, ?_⟩
  have : cs.toList = [.int .i64 F, .int .u64 H', .int .u64 L] := e
  congr 1
  apply Array.ext'
  exact this
theorem open_px {H : Type} {enc : TypeId × Value → H} {W : World} {base b0 : Nat} {spare : Nat → Bool} {held : Bool} {v : Value} {d : DataW H} {p : List MemPlace} (hv : Value.okWide Try.prog W .any base 112 v) (h : DataW.Trod enc Try.prog W b0 spare held 112 v d p) :
    ∃ F H L B, (InI F ∧ InU H ∧ InU L ∧ InI B) ∧ v = .agg #[.int .i64 F, .int .u64 H, .int .u64 L, .int .i64 B] := by
  obtain ⟨cs, rfl, hsz, _⟩ : ∃ cs, v = .agg cs ∧ cs.size = Try.prog.cellsOf 112 ∧ Row.okWide Try.prog W .any base 112 cs := by
    simpa [Value.okWide, Try.underlying112] using hv
  obtain ⟨fuel, hf⟩ := h
  obtain ⟨F, H', L, B, a1, e⟩ := open_four hf
  refine ⟨F, H', L, B, a1, ?_⟩
  have : cs.toList = [.int .i64 F, .int .u64 H', .int .u64 L, .int .i64 B] := e
  congr 1
  apply Array.ext'
  exact this
end Go.Proofs.Ytgcbfamlediafaa
