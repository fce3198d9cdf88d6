import Derived.Test.YtohfdkhlpghbcaaRR
namespace Go.Proofs.Ytohfdkhlpghbcaa
set_option maxRecDepth 100000
open Go.RowKit
set_option linter.unusedVariables false

theorem bE_or (n : Int) : bE n = 0 ∨ bE n = 114 := by unfold bE; split <;> simp
theorem only_cell {q : Nat} {w w' : World} (h : Only q w w') {p : Addr} (hp : p.block ≠ q) : w'.cell? p = w.cell? p := World.cell?_of_block (h.block p.block hp)
set_option maxHeartbeats 1000000 in
/-- The landed get, of the boots. -/
theorem getI_ (ka va : Option Addr) (kn kc vn vc : Nat) (k v : List Int) (w : World) (hk : Bs w ka kn k) (hv : Bs w va vn v) (hka : ka = none → kc = 0) (hva : va = none → vc = 0) (hkc : kn ≤ kc) (hvc : vn ≤ vc) (h1 : kn ≤ 140737488351232) (h2 : vn ≤ 140737488351232) :
    Calls Try.prog 54 #[.agg #[.slice ka kn kc, .slice va vn vc], .func (.func 55) #[] #[], .func (.func 23) #[] #[]] w fun e w' => e = .returned (.tuple #[.int .i64 (gbN k v), .int .i64 (gbE k v)]) ∧ Below w.heap.size w w' := by
  have HG := hid (gtB_eq k v hv.2.1)
  have BA : Below w.heap.size w (w.alloc (.cells #[.slice ka kn kc, .slice va vn vc] 27)) := (Below.refl _ _).alloc (Nat.le_refl _) _
  have m1 := heap_alloc_new w (.cells #[.slice ka kn kc, .slice va vn vc] 27)
  have HBA := hid BA
  have HM1 := hid m1
  have HK := hid hk
  have HV := hid hv
  have HWS : Hid ((w.alloc (.cells #[.slice ka kn kc, .slice va vn vc] 27)).heap.size = w.heap.size + 1) := by show _ = _; simp
  clear BA m1 hk hv
  have y0 := (two_cell HM1.out).1
  have y1 := (two_cell HM1.out).2
  generalize HW : (w.alloc (.cells #[.slice ka kn kc, .slice va vn vc] 27)) = W at *
  have k1 := fun wx (h : Bw W wx) => newReader15 ka kn kc k wx ((HK.out.below HBA.out).below h) hka h1 hkc (by have := Below.size h; have := HWS.out; omega)
  have k2 := fun wx (h : Bw W wx) => newReader15 va vn vc v wx ((HV.out.below HBA.out).below h) hva h2 hvc (by have := Below.size h; have := HWS.out; omega)
  have BW0 : Bw W { W with drawn := W.drawn + 1 } := Bw.drew W
  have k3 := fun rk rv g wx h => readBoots_ rk rv g v wx h (by rw [HV.out.1]; exact h2) HV.out.2.1
  obtain ⟨x, HX⟩ : ∃ x, Hid (brd v = x) := ⟨_, rfl⟩
  have hx := brd_in v
  rw [HX.out] at hx k3
  clear hka hva hkc hvc
  go_enter Try.func54, Try.ntmps54
  go_wp2_with fail
  clear HW
  go_region_held (fun wx => wx.cell? ⟨w.heap.size, 0, none⟩ = some (.slice ka kn kc) ∧ wx.cell? ⟨w.heap.size, 1, none⟩ = some (.slice va vn vc)) (go_keep) (first | (go_at_call 55; refine (k3 _ _ _ _ (by exact R2.out)).mono ?_; rintro en w4 ⟨rfl, o4⟩; have HNE : w.heap.size ≠ r2 := (by have := HI2.out; have := Below.size G2; have := HWS.out; omega); have u4 := (only_cell o4 (p := ⟨w.heap.size, 0, none⟩) HNE).trans u2; have u5 := (only_cell o4 (p := ⟨w.heap.size, 1, none⟩) HNE).trans u3; have HO4 := hid o4; clear o4) | (have hh := G2; clear hh; go_at_call 65; refine (k2 _ (by exact G2)).mono ?_; rintro en w3 ⟨r2, g2, rfl, s2, i2, j2, -, b3⟩; have G3 := Bw.on G2 b3; have u2 := Bw.cell G3 y0; have u3 := Bw.cell G3 y1; have R2 := hid s2; have HI2 := hid i2; clear s2 i2 j2 b3) | (go_at_call 65; refine (k1 _ (by exact BW0)).mono ?_; rintro en w2 ⟨r1, g1, rfl, s1, i1, j1, -, b2⟩; have G2 := Bw.on BW0 b2; have u0 := Bw.cell G2 y0; have u1 := Bw.cell G2 y1; clear s1 i1 j1 b2))
  have HB4 : Hid (Below w.heap.size w w4) := bel_only (bel_bel HBA.out HBA.out.size G3) HO4.out (by have := HI2.out; have := Below.size G2; have := HWS.out; omega)
  have HM4 : Hid (w4.heap[w.heap.size]? = some (.cells #[.slice ka kn kc, .slice va vn vc] 27 (0, 0))) := by
    show _ = _
    rw [HO4.out.block _ (by have := HI2.out; have := Below.size G2; have := HWS.out; omega), Below.block G3 _ (by have := HWS.out; omega)]
    exact HM1.out
  clear HNE u0 u1 u2 u3 u4 u5 G2 G3 BW0 y0 y1 k1 k2 k3 R2 HI2 HO4 HM1 HBA
  go_wp2_with fail
  refine (putBoots_ x w4 hx).mono ?_
  rintro e w5 ⟨pa, pc, qa, qc, rfl, vk, vv, g5⟩
  have HG2 : Hid (gbOk k v = (decide (bE x = 0) && sameB (bK x) k && sameB (bV x) v) ∧ (gbOk k v = true → x = val v)) := by
    have h := HG.out
    unfold gtB at h
    rw [HX.out] at h
    exact ⟨h.1.symm, h.2⟩
  have hE := bE_or x
  clear HG
  generalize bE x = E at *
  generalize bK x = K at *
  generalize bV x = V at *
  have HB5 := hid (bel_bel HB4.out HB4.out.size g5)
  have HM5 := hid ((g5.block w.heap.size (Array.getElem?_eq_some_iff.1 HM4.out).1).trans HM4.out)
  have B6 : Below w5.heap.size w5 (w5.alloc (.cells #[.slice pa K.length pc, .slice qa V.length qc] 27)) := (Below.refl _ _).alloc (Nat.le_refl _) _
  have m6 := heap_alloc_new w5 (.cells #[.slice pa K.length pc, .slice qa V.length qc] 27)
  have m7 := (B6.block w.heap.size (Array.getElem?_eq_some_iff.1 HM5.out).1).trans HM5.out
  have HB6 := hid (bel_bel HB5.out HB5.out.size B6)
  have HK6 := hid ((HK.out.below HB5.out).below B6)
  have HV6 := hid ((HV.out.below HB5.out).below B6)
  have HP6 := hid (vk.bs.below B6)
  have HQ6 := hid (vv.bs.below B6)
  have y0 := (two_cell m6).1
  have y1 := (two_cell m6).2
  have z0 := (two_cell m7).1
  have z1 := (two_cell m7).2
  obtain ⟨kl, HKL⟩ : ∃ n : Nat, Hid (K.length = n) := ⟨_, rfl⟩
  obtain ⟨vl, HVL⟩ : ∃ n : Nat, Hid (V.length = n) := ⟨_, rfl⟩
  simp only [HKL.out, HVL.out] at y0 y1 z0 z1 HB6 HK6 HV6 HP6 HQ6 ⊢
  clear HB4 HM4 HB5 HM5 B6 m6 m7 vk vv g5 HK HV
  rcases hE with hE | hE
  · subst hE
    have ke := fun wx (hx : wx = (w5.alloc (.cells #[.slice pa kl pc, .slice qa vl qc] 27))) => beq_ pa ka kl pc kn kc K k wx (by rw [hx]; exact HP6.out) (by rw [hx]; exact HK6.out)
    have kf := fun wx (hx : wx = (w5.alloc (.cells #[.slice pa kl pc, .slice qa vl qc] 27))) => beq_ qa va vl qc vn vc V v wx (by rw [hx]; exact HQ6.out) (by rw [hx]; exact HV6.out)
    generalize sameB K k = q1 at *
    generalize sameB V v = q2 at *
    cases q1
    · have HR : Hid (gbN k v = 0 ∧ gbE k v = 114) := by
        have h : gbOk k v = false := by rw [HG2.out.1]; rfl
        unfold gbN gbE
        rw [h]
        exact ⟨rfl, rfl⟩
      clear HG2
      go_wp2_with fail
      refine (ke _ rfl).mono ?_
      rintro e w7 ⟨rfl, rfl⟩
      clear ke kf
      go_wp2_with fail
      go_ret2
      exact ⟨by rw [HR.out.1, HR.out.2]; rfl, HB6.out⟩
    · cases q2
      · have HR : Hid (gbN k v = 0 ∧ gbE k v = 114) := by
          have h : gbOk k v = false := by rw [HG2.out.1]; rfl
          unfold gbN gbE
          rw [h]
          exact ⟨rfl, rfl⟩
        clear HG2
        go_wp2_with fail
        refine (ke _ rfl).mono ?_
        rintro e w7 ⟨rfl, rfl⟩
        go_wp2_with fail
        refine (kf _ rfl).mono ?_
        rintro e w7 ⟨rfl, rfl⟩
        clear ke kf
        go_wp2_with fail
        go_ret2
        exact ⟨by rw [HR.out.1, HR.out.2]; rfl, HB6.out⟩
      · have HR : Hid (gbN k v = x ∧ gbE k v = 0) := by
          have h : gbOk k v = true := by rw [HG2.out.1]; rfl
          have e := HG2.out.2 h
          unfold gbN gbE
          rw [h, e]
          exact ⟨rfl, rfl⟩
        clear HG2
        go_wp2_with fail
        refine (ke _ rfl).mono ?_
        rintro e w7 ⟨rfl, rfl⟩
        go_wp2_with fail
        refine (kf _ rfl).mono ?_
        rintro e w7 ⟨rfl, rfl⟩
        clear ke kf
        go_wp2_with fail
        go_ret2
        exact ⟨by rw [HR.out.1, HR.out.2]; rfl, HB6.out⟩
  · subst hE
    have HR : Hid (gbN k v = 0 ∧ gbE k v = 114) := by
      have h : gbOk k v = false := by rw [HG2.out.1]; rfl
      unfold gbN gbE
      rw [h]
      exact ⟨rfl, rfl⟩
    clear HG2
    go_wp2_with fail
    go_ret2
    exact ⟨by rw [HR.out.1, HR.out.2]; rfl, HB6.out⟩
set_option maxHeartbeats 400000 in
/-- The landed GetBoots. -/
theorem getBoots_ (ka va : Option Addr) (kn kc vn vc : Nat) (k v : List Int) (w : World) (hk : Bs w ka kn k) (hv : Bs w va vn v) (hka : ka = none → kc = 0) (hva : va = none → vc = 0) (hkc : kn ≤ kc) (hvc : vn ≤ vc) (h1 : kn ≤ 140737488351232) (h2 : vn ≤ 140737488351232) :
    Calls Try.prog 25 #[.agg #[.slice ka kn kc, .slice va vn vc]] w fun e w' => e = .returned (.tuple #[.int .i64 (gbN k v), .int .i64 (gbE k v)]) ∧ Below w.heap.size w w' := by
  have kk := fun wx (h : Below w.heap.size w wx) => getI_ ka va kn kc vn vc k v wx (hk.below h) (hv.below h) hka hva hkc hvc h1 h2
  clear hk hv
  generalize gbN k v = N at *
  generalize gbE k v = E at *
  go_enter Try.func25, Try.ntmps25
  have B0 : Below w.heap.size w (w.alloc (.cells #[.slice ka kn kc, .slice va vn vc] 27)) := (Below.refl _ _).alloc (Nat.le_refl _) _
  go_wp2_with fail
  refine (kk _ B0).mono ?_
  rintro e w1 ⟨rfl, g1⟩
  have HB := hid (bel_bel B0 B0.size g1)
  clear kk B0 g1
  go_wp2_with fail
  go_ret2
  exact ⟨rfl, HB.out⟩
end Go.Proofs.Ytohfdkhlpghbcaa
