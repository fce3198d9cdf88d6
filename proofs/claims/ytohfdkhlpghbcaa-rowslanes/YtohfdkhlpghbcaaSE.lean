import Derived.Test.YtohfdkhlpghbcaaSB
namespace Go.Proofs.Ytohfdkhlpghbcaa
set_option maxRecDepth 100000
open Go.RowKit
set_option linter.unusedVariables false

theorem Lm.cells {w : World} {g : Nat} {a : Option Addr} {m c : Nat} {S C N D E s n : Int} (h : Lm w g a m c S C N D E s n) : w.cell? ⟨g, 0, none⟩ = some (.slice a m c) ∧ w.cell? ⟨g, 1, none⟩ = some (.int .i64 S) ∧ w.cell? ⟨g, 2, none⟩ = some (.int .i64 C) ∧ w.cell? ⟨g, 3, none⟩ = some (.int .i64 N) ∧ w.cell? ⟨g, 4, none⟩ = some (.int .u64 D) ∧ w.cell? ⟨g, 5, none⟩ = some (.int .u64 E) ∧ w.cell? ⟨g, 6, none⟩ = some (.int .i64 s) ∧ w.cell? ⟨g, 7, none⟩ = some (.int .i64 n) := ⟨h.c0, h.c1, h.c2, h.c3, h.c4, h.c5, h.c6, h.c7⟩
def k9 : List Int := List.replicate 32 9
theorem lok9 : lok k9.length 1 1 0 5 6 = true := by decide
set_option maxHeartbeats 4000000 in
/-- The laws' first(). -/
theorem lfirst_ (w : World) : Calls Try.prog 16 #[] w fun e w' => e = .returned (.bool true) ∧ Below w.heap.size w w' := by
  have kb := putBoots_ 258 w (by omega)
  have f1 : bK 258 = [66] := rfl
  have f2 : bV 258 = [0, 0, 0, 0, 0, 0, 1, 2] := by decide
  have f3 : bE 258 = 0 := rfl
  rw [f1, f2, f3] at kb
  clear f1 f2 f3
  go_enter Try.func16, Try.ntmps16
  go_wp2_with fail
  refine kb.mono ?_
  rintro e w1 ⟨pa, pc, qa, qc, rfl, vk, vv, g1⟩
  clear kb
  obtain ⟨W2, HW2⟩ : ∃ W, Hid ((((w1.alloc (.cells #[.slice pa 1 pc, .slice qa 8 qc] 27)).alloc (.cells #[.int .u8 66] 5)).alloc (.cells #[.int .u8 0, .int .u8 0, .int .u8 0, .int .u8 0, .int .u8 0, .int .u8 0, .int .u8 1, .int .u8 2] 5)).alloc (.cells #[.slice (some ⟨w1.heap.size + 1, 0, none⟩) 1 1, .slice (some ⟨w1.heap.size + 1 + 1, 0, none⟩) 8 8] 27) = W) := ⟨_, rfl⟩
  have B2 : Below w1.heap.size w1 W2 := by
    rw [← HW2.out]
    exact ((((bel_al w1 _).alloc (by simp) _).alloc (by simp; omega) _).alloc (by simp; omega) _)
  have b66 : Bs W2 (some ⟨w1.heap.size + 1, 0, none⟩) 1 [66] := by
    have h := bs_lit (w1.alloc (.cells #[.slice pa 1 pc, .slice qa 8 qc] 27)) [66] (0, 0) (Okb1 66 (by omega))
    rw [World.size_alloc] at h
    have h2 := (h.below (bel_al _ (.cells #[.int .u8 0, .int .u8 0, .int .u8 0, .int .u8 0, .int .u8 0, .int .u8 0, .int .u8 1, .int .u8 2] 5))).below (bel_al _ (.cells #[.slice (some ⟨w1.heap.size + 1, 0, none⟩) 1 1, .slice (some ⟨w1.heap.size + 1 + 1, 0, none⟩) 8 8] 27))
    rw [← HW2.out]
    exact h2
  have b8 : Bs W2 (some ⟨w1.heap.size + 1 + 1, 0, none⟩) 8 [0, 0, 0, 0, 0, 0, 1, 2] := by
    have h := bs_lit ((w1.alloc (.cells #[.slice pa 1 pc, .slice qa 8 qc] 27)).alloc (.cells #[.int .u8 66] 5)) [0, 0, 0, 0, 0, 0, 1, 2] (0, 0) (by intro z hz; simp at hz; omega)
    rw [World.size_alloc, World.size_alloc] at h
    have h2 := h.below (bel_al _ (.cells #[.slice (some ⟨w1.heap.size + 1, 0, none⟩) 1 1, .slice (some ⟨w1.heap.size + 1 + 1, 0, none⟩) 8 8] 27))
    rw [← HW2.out]
    exact h2
  have ks := sameRow_ pa qa (some ⟨w1.heap.size + 1, 0, none⟩) (some ⟨w1.heap.size + 1 + 1, 0, none⟩) 1 pc 8 qc 1 1 8 8 [66] [0, 0, 0, 0, 0, 0, 1, 2] [66] [0, 0, 0, 0, 0, 0, 1, 2] W2 (vk.bs.below B2) (vv.bs.below B2) b66 b8 (by unfold maxLen; omega) (by unfold maxLen; omega) (by unfold maxLen; omega) (by unfold maxLen; omega)
  rw [sameB_self, sameB_self] at ks
  have HB2 := hid (bel_bel g1 g1.size B2)
  clear g1 B2 vk vv b66 b8
  go_wp2_with fail
  rw [HW2.out]
  clear HW2
  refine ks.mono ?_
  rintro e w3 ⟨rfl, g3⟩
  have HB3 := hid (bel_bel HB2.out HB2.out.size g3)
  clear ks g3 HB2
  have kk := lkey_ 9 w3 (by omega)
  rw [show List.replicate 32 (9 : Int) = k9 from rfl] at kk
  go_wp2_with fail
  refine kk.mono ?_
  rintro e w4 ⟨v4, rfl, o4, g4⟩
  have hk9 : k9.length = 32 := rfl
  obtain ⟨a4, c4, rfl, vs4⟩ := Vs.ofOwn o4 (show Okb k9 from by intro z hz; have := List.eq_of_mem_replicate hz; omega)
  have HB4 := hid (bel_bel HB3.out HB3.out.size g4)
  clear kk o4 g4 HB3
  have L5 := Lm.new w4 a4 32 c4 1 1 0 0 1000 5 6
  have B5 := lnew w4 a4 32 c4 1 1 0 0 1000 5 6
  have HB5 := hid (bel_bel HB4.out HB4.out.size B5)
  have kp := putLane_ a4 32 c4 k9 1 1 0 0 1000 5 6 _ (vs4.bs.below B5) (by unfold maxLen; omega) (by unfold i64r; omega) (by unfold i64r; omega) (by unfold i64r; omega) (by unfold u64r; omega) (by unfold u64r; omega) (by unfold i64r; omega) (by unfold i64r; omega)
  have e1 : lRK k9 1 1 0 5 6 = lK k9 := by unfold lRK; rw [lok9]; rfl
  have e2 : lRV k9 1 1 0 0 1000 5 6 = lV 1 1 0 0 1000 5 6 := by unfold lRV; rw [lok9]; rfl
  have e3 : lRE k9 1 1 0 5 6 = 0 := by unfold lRE; rw [lok9]; rfl
  rw [e1, e2, e3] at kp
  have HY : Hid (yok (lK k9) (lV 1 1 0 0 1000 5 6) = true) := yok_put lok9 (by unfold u64r; omega) (by unfold u64r; omega) (by unfold i64r; omega)
  have HP := hid (lV_parts (S := 1) (C := 1) (N := 0) (D := 0) (E := 1000) (s := 5) (n := 6) (by omega) (by omega) (by unfold u64r; omega) (by unfold u64r; omega) (by unfold i64r; omega) (by decide))
  have hl1 : (lK k9).length = 33 := rfl
  have hl2 : (lV 1 1 0 0 1000 5 6).length = 37 := lV_length (by decide)
  have HOV : Hid (Okb (lV 1 1 0 0 1000 5 6)) := by
    intro z hz
    unfold lV at hz
    simp only [List.mem_append, List.mem_singleton] at hz
    rcases hz with ((((h | h) | h) | h) | h) | h
    · rw [h]; omega
    · exact be_byte _ _ z h
    · exact be_byte _ _ z h
    · exact be_byte _ _ z h
    · exact be_byte _ _ z h
    · exact pt_byte _ _ z h
  generalize lV 1 1 0 0 1000 5 6 = V at *
  obtain ⟨K, HK⟩ : ∃ K, Hid (lK k9 = K) := ⟨_, rfl⟩
  rw [HK.out] at kp HY hl1
  have HVS := hid (vs4.bs.below B5)
  have HL5 := hid L5
  obtain ⟨d0, d1, d2, d3, d4, d5, d6, d7⟩ := L5.cells
  clear vs4 L5 B5 HB4 e1 e2 e3
  unfold Rp at kp
  rw [hl1, hl2] at kp
  go_wp2_with fail
  clear d0 d1 d2 d3 d4 d5 d6 d7
  refine kp.mono ?_
  rintro e w6 ⟨ra, rc, sa, sc, rfl, vk, vv, g6⟩
  have B7 := bel_al w6 (.cells #[.slice ra 33 rc, .slice sa 37 sc] 27)
  have m7 := heap_alloc_new w6 (.cells #[.slice ra 33 rc, .slice sa 37 sc] 27)
  have HB7 := hid (bel_bel (bel_bel HB5.out HB5.out.size g6) (bel_bel HB5.out HB5.out.size g6).size B7)
  have HL7 := hid ((HL5.out.kept g6).kept B7)
  have HVS7 := hid ((HVS.out.below g6).below B7)
  have kg := getLane_ ra sa 33 rc 37 sc K V _ (vk.bs.below B7) (vv.bs.below B7) vk.nil vv.nil vk.nc vv.nc (by omega) (by omega)
  have z0 := (two_cell m7).1
  have z1 := (two_cell m7).2
  have HM7 := hid m7
  have HW6 : Hid (w6.heap.size < (w6.alloc (.cells #[.slice ra 33 rc, .slice sa 37 sc] 27)).heap.size) := by show _ < _; simp
  clear HB5 HL5 HVS kp vk vv g6 B7 m7
  go_wp2_with fail
  clear z0 z1
  refine kg.mono ?_
  rintro e w8 ⟨ta, tc, rfl, vs8, g8⟩
  have hzK : zK K V = k9 := by unfold zK; rw [HY.out, ← HK.out]; rfl
  have hz : zS K V = 1 ∧ zC K V = 1 ∧ zN K V = 0 ∧ zD K V = 0 ∧ zE K V = 1000 ∧ zs K V = 5 ∧ zn K V = 6 ∧ zO K V = 0 := by
    obtain ⟨p1, p2, p3, p4, p5, p6, p7, p8, -⟩ := HP.out
    unfold zS zC zN zD zE zs zn zO
    rw [HY.out]
    simp only [if_true]
    exact ⟨p1, p2, p3, p4, p5, by rw [p6, p7], by rw [p6, p8], trivial⟩
  rw [hz.1, hz.2.1, hz.2.2.1, hz.2.2.2.1, hz.2.2.2.2.1, hz.2.2.2.2.2.1, hz.2.2.2.2.2.2.1, hz.2.2.2.2.2.2.2, hzK, hk9]
  rw [hzK, hk9] at vs8
  have B9 := lnew w8 ta 32 tc 1 1 0 0 1000 5 6
  have L9 := Lm.new w8 ta 32 tc 1 1 0 0 1000 5 6
  have HB9 := hid (bel_bel (bel_bel HB7.out HB7.out.size g8) (bel_bel HB7.out HB7.out.size g8).size B9)
  have L0 := (HL7.out.kept g8).kept B9
  have kl := sameLane_ a4 ta 32 c4 32 tc k9 k9 1 1 0 0 1000 5 6 1 1 0 0 1000 5 6 _ ((HVS7.out.below g8).below B9) (vs8.bs.below B9) (by unfold maxLen; omega) (by unfold maxLen; omega)
  have ht : slE k9 k9 1 1 0 0 1000 5 6 1 1 0 0 1000 5 6 = true := decide_eq_true ⟨rfl, rfl, rfl, rfl, rfl, rfl, rfl, rfl⟩
  rw [ht] at kl
  have HM9 := hid ((B9.block w6.heap.size (Nat.lt_of_lt_of_le HW6.out g8.size)).trans ((g8.block w6.heap.size HW6.out).trans HM7.out))
  obtain ⟨d0, d1, d2, d3, d4, d5, d6, d7⟩ := L0.cells
  obtain ⟨e0, e1, e2, e3, e4, e5, e6, e7⟩ := L9.cells
  clear kg vs8 g8 B9 L9 L0 HB7 HL7 HVS7 HM7 hz hzK ht HP HY HOV HK hl1 hl2 hk9
  go_wp2_with fail
  clear d0 d1 d2 d3 d4 d5 d6 d7 e0 e1 e2 e3 e4 e5 e6 e7
  refine kl.mono ?_
  rintro e w10 ⟨rfl, g10⟩
  have HB10 := hid (bel_bel HB9.out HB9.out.size g10)
  have z1 := (two_cell ((g10.block w6.heap.size (Array.getElem?_eq_some_iff.1 HM9.out).1).trans HM9.out)).2
  clear kl g10 HB9 HM9 HW6
  go_wp2_with (go_at_call 15; refine (lnum_ _ _).mono ?_; rintro e w' ⟨rfl, hw⟩; obtain rfl := hw.symm; clear hw)
  go_ret
  exact ⟨rfl, HB10.out⟩
end Go.Proofs.Ytohfdkhlpghbcaa
