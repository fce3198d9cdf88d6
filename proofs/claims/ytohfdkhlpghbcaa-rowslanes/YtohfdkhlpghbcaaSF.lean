import Derived.Test.YtohfdkhlpghbcaaSE
namespace Go.Proofs.Ytohfdkhlpghbcaa
set_option maxRecDepth 100000
open Go.RowKit
set_option linter.unusedVariables false

theorem Vs.len {w : World} {V : Nat → Prop} {a : Option Addr} {n c : Nat} {zs : List Int} (h : Vs w V a n c zs) : n ≤ maxLen := Nat.le_trans h.nc h.cm
set_option maxHeartbeats 4000000 in
/-- RowsBoots. -/
theorem rowsBoots_ (n : Int) (ka va : Option Addr) (kn kc vn vc : Nat) (k v : List Int) (w : World) (hn : i64r n) (hk : Bs w ka kn k) (hv : Bs w va vn v) (h1 : kn ≤ 140737488351232) (h2 : vn ≤ 140737488351232) :
    Calls Try.prog 5 #[.int .i64 n, .agg #[.slice ka kn kc, .slice va vn vc]] w fun e w' => e = .returned (.bool true) ∧ Below w.heap.size w w' := by
  unfold i64r at hn
  have BA := bel_al w (.cells #[.slice ka kn kc, .slice va vn vc] 27)
  have m1 := heap_alloc_new w (.cells #[.slice ka kn kc, .slice va vn vc] 27)
  have HK := hid hk
  have HV := hid hv
  have HBA := hid BA
  have HM := hid m1
  have hlt : w.heap.size < (w.alloc (.cells #[.slice ka kn kc, .slice va vn vc] 27)).heap.size := by simp
  have HLT := hid hlt
  clear BA m1 hk hv hlt
  have kp := fun wx => putBoots_ n wx hn
  have kq := fun wx => rputBoots_ n wx hn
  unfold Rp at kp kq
  generalize bK n = K at *
  generalize bV n = V at *
  generalize bE n = E at *
  obtain ⟨kl, HKL⟩ : ∃ x : Nat, Hid (K.length = x) := ⟨_, rfl⟩
  obtain ⟨vl, HVL⟩ : ∃ x : Nat, Hid (V.length = x) := ⟨_, rfl⟩
  simp only [HKL.out, HVL.out] at kp kq
  go_enter Try.func5, Try.ntmps5
  go_wp2_with fail
  refine (kp _).mono ?_
  rintro e w1 ⟨pa, pc, qa, qc, rfl, vk, vv, g1⟩
  have B1 := bel_al w1 (.cells #[.slice pa kl pc, .slice qa vl qc] 27)
  have G1 := bel_bel g1 g1.size B1
  have m2 := heap_alloc_new w1 (.cells #[.slice pa kl pc, .slice qa vl qc] 27)
  have HB1 := hid (bel_bel HBA.out HBA.out.size G1)
  have HM1 := hid ((G1.block w.heap.size HLT.out).trans HM.out)
  have HM2 := hid m2
  have HVK := hid (vk.bs.below B1)
  have HVV := hid (vv.bs.below B1)
  have HLK := hid vk.len
  have HLV := hid vv.len
  have hlt2 : w1.heap.size < (w1.alloc (.cells #[.slice pa kl pc, .slice qa vl qc] 27)).heap.size := by simp
  have HLT2 := hid hlt2
  have HLT1 := hid (Nat.lt_of_lt_of_le HLT.out G1.size)
  clear kp vk vv g1 B1 G1 m2 hlt2 HBA HM HLT
  go_wp2_with fail
  generalize (w1.alloc (.cells #[.slice pa kl pc, .slice qa vl qc] 27)) = W1 at *
  obtain ⟨b1, Hb1⟩ : ∃ x, Hid (w1.heap.size = x) := ⟨_, rfl⟩
  rw [Hb1.out] at HM2 HLT2 ⊢
  refine (kq _).mono ?_
  rintro e w3 ⟨ra, rc, sa, sc, rfl, vk, vv, g1⟩
  have B1 := bel_al w3 (.cells #[.slice ra kl rc, .slice sa vl sc] 27)
  have G1 := bel_bel g1 g1.size B1
  have m2 := heap_alloc_new w3 (.cells #[.slice ra kl rc, .slice sa vl sc] 27)
  have ks := sameRow_ pa qa ra sa kl pc vl qc kl rc vl sc K V K V _ (HVK.out.below G1) (HVV.out.below G1) (vk.bs.below B1) (vv.bs.below B1) HLK.out HLV.out vk.len vv.len
  rw [sameB_self, sameB_self] at ks
  have HB3 := hid (bel_bel HB1.out HB1.out.size G1)
  have HM3 := hid ((G1.block w.heap.size HLT1.out).trans HM1.out)
  have m3 := (G1.block b1 HLT2.out).trans HM2.out
  have x0 := (two_cell m2).1
  have x1 := (two_cell m2).2
  have z0 := (two_cell m3).1
  have z1 := (two_cell m3).2
  have HLT3 := hid (Nat.lt_of_lt_of_le HLT1.out G1.size)
  clear kq vk vv g1 B1 G1 m2 m3 HB1 HM1 HM2 HVK HVV HLK HLV
  go_wp2_with fail
  clear x0 x1 z0 z1
  refine ks.mono ?_
  rintro e w4 ⟨rfl, g4⟩
  have HB4 := hid (bel_bel HB3.out HB3.out.size g4)
  have HM4 := hid ((g4.block w.heap.size HLT3.out).trans HM3.out)
  have HLT4 := hid (Nat.lt_of_lt_of_le HLT3.out g4.size)
  clear ks g4 HB3 HM3 HLT3 HLT2 HLT1
  have y0 := (two_cell HM4.out).1
  have y1 := (two_cell HM4.out).2
  go_wp2_with fail
  refine (lrow_ ka va kn kc vn vc k v w4 (HK.out.below HB4.out) (HV.out.below HB4.out) h1 h2).mono ?_
  rintro e w5 ⟨pa5, pc5, qa5, qc5, rfl, vk, vv, g5⟩
  have HB5 := hid (bel_bel HB4.out HB4.out.size g5)
  have HM5 := hid ((g5.block w.heap.size HLT4.out).trans HM4.out)
  have HLT5 := hid (Nat.lt_of_lt_of_le HLT4.out g5.size)
  have kg := getBoots_ pa5 qa5 kn pc5 vn qc5 k v w5 vk.bs vv.bs vk.nil vv.nil vk.nc vv.nc h1 h2
  have kr := fun wx (h : Below w.heap.size w wx) => rgetBoots_ ka va kn kc vn vc k v wx (HK.out.below h) (HV.out.below h) (by unfold maxLen; omega) (by unfold maxLen; omega)
  obtain ⟨gN, HgN⟩ : ∃ x, Hid (gbN k v = x) := ⟨_, rfl⟩
  obtain ⟨gE, HgE⟩ : ∃ x, Hid (gbE k v = x) := ⟨_, rfl⟩
  rw [HgN.out, HgE.out] at kg kr
  clear vk vv g5 HB4 HM4 HLT4 y0 y1
  go_wp2_with fail
  refine kg.mono ?_
  rintro e w6 ⟨rfl, g6⟩
  have HB6 := hid (bel_bel HB5.out HB5.out.size g6)
  have HM6 := hid ((g6.block w.heap.size HLT5.out).trans HM5.out)
  clear kg g6 HB5 HM5 HLT5
  have y0 := (two_cell HM6.out).1
  have y1 := (two_cell HM6.out).2
  go_wp2_with fail
  refine (kr _ HB6.out).mono ?_
  rintro e w7 ⟨rfl, g7⟩
  have HB7 := hid (bel_bel HB6.out HB6.out.size g7)
  clear kr g7 HB6 HM6 y0 y1
  go_wp2_with (go_at_call 15; refine (lnum_ _ _).mono ?_; rintro e w' ⟨rfl, hw⟩; obtain rfl := hw.symm; clear hw)
  refine (lfirst_ _).mono ?_
  rintro e w8 ⟨rfl, g8⟩
  have HB8 := hid (bel_bel HB7.out HB7.out.size g8)
  clear g8 HB7
  go_wp2_with fail
  go_ret
  exact ⟨rfl, HB8.out⟩
end Go.Proofs.Ytohfdkhlpghbcaa
