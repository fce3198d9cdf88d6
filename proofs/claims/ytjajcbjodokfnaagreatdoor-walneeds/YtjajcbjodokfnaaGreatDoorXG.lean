import Derived.Test.YtjajcbjodokfnaaGreatDoorXF
namespace Go.Proofs.YtjajcbjodokfnaaGreatDoor
set_option maxRecDepth 100000
open Go.RowKit Go.Shelf
set_option linter.unusedVariables false
set_option linter.unusedSimpArgs false

theorem layA_sec {n : Nat} : ∀ (P : List (Nat × List Int)) (S : Nat → List Int), (∀ i, i < n → Sc5 (S i)) → (∀ p ∈ P, p.1 < n ∧ Sc5 p.2) → ∀ i, i < n → Sc5 (layA S P i)
  | [], S, hs, _, i, hi => hs i hi
  | p :: P, S, hs, hp, i, hi => by
    show Sc5 (layA (lay1 S p) P i)
    refine layA_sec P (lay1 S p) (fun j hj => ?_) (fun q hq => hp q (List.mem_cons_of_mem _ hq)) i hi
    unfold lay1
    split
    · exact (hp p List.mem_cons_self).2
    · exact hs j hj
theorem Dev.cur {w : World} {d : Nat} {s : St} {Q : Nat → Prop} (h : Dev w d s Q) (i : Nat) (hi : i < s.n) : Sc5 (layA s.S s.P i) := layA_sec s.P s.S h.sec h.pen i hi
/-- A read of a sector that is there. -/
theorem wread_ (d i : Nat) (s : St) (Q : Nat → Prop) (w : World) (h : Dev w d s Q) (hi : i < s.n) (hc : s.c ≤ 100000) (hp : s.P.length ≤ 100000) :
    Calls Tryz.prog 97 #[.pointer (some ⟨d, 0, none⟩), .int .i64 i] w fun e w' => ∃ a n c, e = .returned (.tuple #[.slice a n c, .int .i64 (opE s)]) ∧ n ≤ c ∧ c ≤ maxLen ∧ (opE s = 0 → Bs w' a n (layA s.S s.P i) ∧ n = 512) ∧ (∀ ad, a = some ad → w.heap.size ≤ ad.block) ∧ Dev w' d (opS s) Q ∧ Fr Q w w' := by
  have e1 : rdE s i = opE s := by unfold rdE; rw [if_pos ⟨by omega, by omega⟩]
  have e2 : rdS s i = opS s := by unfold rdS; rw [if_pos ⟨by omega, by omega⟩]
  have hs := h.cur i hi
  have := dread_ d i s Q w h (by omega) (by omega)
  rw [e1, e2] at this
  refine this.mono ?_
  rintro e w' ⟨v, rfl, o, D, F⟩
  obtain ⟨a, c, rfl, h1, h2, h3⟩ := own_slice o
  refine ⟨a, _, c, rfl, h1, h2, fun h0 => ?_, fun ad ha => (h3 ad ha).2, D, F⟩
  have e3 : rdB s i = layA s.S s.P i := by unfold rdB; rw [e1, if_pos h0, Int.toNat_natCast]
  rw [e3] at o ⊢
  obtain ⟨a', c', e', zb, _⟩ := own_form o hs.2
  obtain ⟨rfl, -, -⟩ : a = a' ∧ True ∧ c = c' := by simpa using e'
  exact ⟨zb, hs.1⟩
/-- A Format: what it answers, and how the device stands. -/
def fmA : Nat → Nat → St → Int × St
  | 0, _, s => wfl s [(1, ps ⟨t1, 1, 1, 1, sup s.n []⟩)]
  | f + 1, i, s => if opE s = 0 then (if layA s.S s.P i = zer then fmA f (i + 1) (opS s) else (116, opS s)) else (opE s, opS s)
theorem zer_by : By zer := zer_sec.2
set_option maxHeartbeats 4000000 in
theorem format_ (d : Nat) (s : St) (Q : Nat → Prop) (w : World) (h : Dev w d s Q) (hT : Tab w) (h0 : ¬ Q 0) (hsc : s.c ≤ 30000) (hP : s.P.length ≤ 30000) :
    Calls Tryz.prog 47 #[.pointer (some ⟨d, 0, none⟩)] w fun en w' => en = .returned (.int .i64 (fmA s.n 0 s).1) ∧ Dev w' d (fmA s.n 0 s).2 (Qn Q w w') ∧ Fr Q w w' := by
  obtain ⟨i5, hi5, hz0, hz1, hz2⟩ := info_parts info5
  have hN := h.n
  have ks := sectorsD h
  have HD := hid h
  have HT := hid hT
  have H0 := hid h0
  have hlt := h.lt
  obtain ⟨n, HN⟩ : ∃ n, Hid (s.n = n) := ⟨_, rfl⟩
  rw [HN.out] at ks hN ⊢
  clear h hT h0
  have QW : ∀ w', Fr Q w w' → ∀ s', Dev w' d s' Q → Dev w' d s' (Qn Q w w') := fun w' F s' D => D.weak (fun b q => .inl q) (fun b q => by
    rcases q with q | q
    · exact D.lt b q
    · exact q.2)
  go_enter Tryz.func47, Tryz.ntmps47
  go_wp2_with fail
  refine ks.mono ?_
  rintro en w1 ⟨rfl, hw⟩
  obtain rfl := hw.symm
  clear hw ks
  go_wp2_with fail
  go_loopw [3, 4, 5, 8] (fun _ _ _ i wr => ∃ j si, j ≤ n ∧ i = .int .i64 (j : Nat) ∧ Hid (fmA (n - j) j si = fmA n 0 s) ∧ Hid (si.n = n ∧ si.c ≤ s.c + j ∧ si.P.length = s.P.length) ∧ Dev wr d si Q ∧ Fr Q w wr) (fun _ _ _ i _ => n - (intOf i).toNat)
  case atStart => exact ⟨0, s, Nat.zero_le _, rfl, rfl, ⟨HN.out, Nat.le_refl _, rfl⟩, HD.out, .refl _ _⟩
  case round =>
    obtain ⟨j, si, hj, rfl, HF, HS, D1, F1⟩ := hrel
    obtain ⟨sn, sc, sp⟩ := HS.out
    by_cases hlt2 : j < n
    · have hjI : (j : Int) < (n : Int) := by omega
      have kr := wread_ d j si Q wr D1 (by omega) (by omega) (by omega)
      have hcur := D1.cur j (by omega)
      have HFS : Hid (fmA (n - j) j si = if opE si = 0 then (if layA si.S si.P j = zer then fmA (n - (j + 1)) (j + 1) (opS si) else (116, opS si)) else (opE si, opS si)) := by
        show _ = _
        rw [show n - j = (n - (j + 1)) + 1 from by omega]
        rfl
      have HF1 := hid F1
      obtain ⟨E, HE⟩ : ∃ E, Hid (opE si = E) := ⟨_, rfl⟩
      rw [HE.out] at HFS kr
      clear D1 F1
      go_wp2_with fail
      refine kr.mono ?_
      rintro en w2 ⟨a, nb, c, rfl, hnc, hcm, hbs, _, D2, F2⟩
      have HF2 := hid (HF1.out.trans F2)
      have HD2 := hid D2
      clear kr D2 F2
      by_cases hE : E = 0
      · subst hE
        rw [if_pos rfl] at HFS
        obtain ⟨b2, rfl⟩ := hbs rfl
        have HB2 := hid b2
        clear hbs b2
        unfold maxLen at hcm
        go_wp2_with (at_make; refine wpList_make_full _ rfl _ _ 33 rfl 0 5 i5 (.int .u8 0) 1 Tryz.underlying33 hi5 hz0 hz1 .i64 .i64 _ _ 512 rfl rfl (by omega) (by omega) (by rw [hz2]; omega) (by unfold maxLen; omega) (by omega) ?_; intro w3 hown hg3; have r0 := row_of_own ((made_zeros 512) ▸ hown); clear hown)
        have bz : Bs w3 (some ⟨w2.heap.size, 0, none⟩) 512 zer := r0.bs12 (by simp) zer_by
        have BL := below_of_grown hg3
        have ke := equal_ a (some ⟨w2.heap.size, 0, none⟩) 512 c 512 512 (layA si.S si.P j) zer w3 (HB2.out.below BL) bz
        have HD3 := hid (HD2.out.below BL)
        have HF3 := hid (HF2.out.below BL)
        clear bz BL hg3 r0
        by_cases hz : layA si.S si.P j = zer
        · rw [show sameB (layA si.S si.P j) zer = true from decide_eq_true hz] at ke
          rw [if_pos hz] at HFS
          have HFN := hid (HFS.out.symm.trans HF.out)
          have o1 := opS_c si
          have o2 := opS_n si
          have o3 := opS_P si
          have HS2 : Hid ((opS si).n = n ∧ (opS si).c ≤ s.c + (j + 1) ∧ (opS si).P.length = s.P.length) := ⟨o2.trans sn, by omega, by rw [o3]; exact sp⟩
          clear hz o1 o2 o3
          refine ke.mono ?_
          rintro en w4 ⟨rfl, hw⟩
          obtain rfl := hw.symm
          clear hw ke
          go_wp2_with fail
          go_roundw
          case rel => exact ⟨j + 1, opS si, by omega, by go_num, HFN.out, HS2.out, HD3.out, HF3.out⟩
          case measure => simp [intOf]; omega
        · rw [show sameB (layA si.S si.P j) zer = false from decide_eq_false hz] at ke
          rw [if_neg hz] at HFS
          have HFIN := hid (HF.out.symm.trans HFS.out)
          clear hz
          refine ke.mono ?_
          rintro en w4 ⟨rfl, hw⟩
          obtain rfl := hw.symm
          clear hw ke
          go_wp2_with fail
          go_ret
          rw [HFIN.out]
          exact ⟨rfl, QW _ HF3.out _ HD3.out, HF3.out⟩
      · have hEb : (E != 0) = true := by rw [bne_iff_ne]; exact hE
        rw [if_neg hE] at HFS
        have hfin := HF.out.symm.trans HFS.out
        have HFIN := hid hfin
        clear hfin hE
        go_wp2_with fail
        go_ret
        rw [HFIN.out]
        exact ⟨rfl, QW _ HF2.out _ HD2.out, HF2.out⟩
    · obtain rfl : j = n := by omega
      have hjI : ¬ (j : Int) < (j : Int) := by omega
      rw [Nat.sub_self] at HF
      have HFIN : Hid (fmA j 0 s = wfl si [(1, ps ⟨t1, 1, 1, 1, sup si.n []⟩)]) := HF.out.symm
      have T1 := HT.out.fr F1 H0.out
      have k1 := superOf_ 1 1 none 0 0 [] wr T1 (bs_nil wr none) (by unfold maxLen; omega)
      have hsu := updc_lt (by omega : (0 : Nat) < 4294967296) (show By [] from fun z hz => by cases hz)
      obtain ⟨S, HSm⟩ : ∃ S, Hid (updc 0 [] = S) := ⟨_, rfl⟩
      rw [HSm.out] at k1 hsu
      have HD1 := hid D1
      have HF1 := hid F1
      have HT1 := hid T1
      clear D1 F1 T1
      go_wp2_with fail
      refine k1.mono ?_
      rintro en w2 ⟨rfl, B2⟩
      have k2 := on_ 1 1 0 S d si Q w2 (HD1.out.below B2) (by omega) (by omega) hsu
      have HB2 := hid B2
      clear k1 B2
      go_wp2_with fail
      refine k2.mono ?_
      rintro en w3 ⟨g5, rfl, hg5, r5, B3⟩
      have HB3 := hid (bel_bel HB2.out HB2.out.size B3)
      have hs2 := HB2.out.size
      have r6 : Row w3 g5 (sup si.n []) := by rw [← HSm.out] at r5; exact r5
      have D3 := HD1.out.below HB3.out
      have T3 := HT1.out.bel HB3.out
      have B4 := snew w3 t1 1 1 1 (.slice (some ⟨g5, 0, none⟩) 16 16)
      have k3 := wlay_ d si Q (some ⟨w3.heap.size, 0, none⟩) 1 1 [⟨⟨t1, 1, 1, 1, sup si.n []⟩, some ⟨g5, 0, none⟩, 16, 16⟩] _ (D3.below B4) (T3.bel B4) H0.out (Sl.one w3 t1 1 1 1 (some ⟨g5, 0, none⟩) 16 16 (sup si.n [])) (Sb.one ((r6.bs12 (sup_length _ _) (sup_by _ _)).below B4) ⟨.inl rfl, ⟨by omega, by omega⟩, ⟨by omega, by omega⟩, ⟨by omega, by omega⟩, by omega⟩) (fun ad ha _ q => by
        obtain rfl := Option.some.inj ha
        have := D3.lt _ q
        simp only at this
        omega) (fun y hy ad ha _ q => by
        obtain rfl := List.mem_singleton.1 hy
        obtain rfl := Option.some.inj ha
        have := HD1.out.lt _ q
        simp only at this
        omega) (fun y hy => by
        obtain rfl := List.mem_singleton.1 hy
        show hom si.n ⟨t1, 1, 1, 1, sup si.n []⟩ < si.n
        unfold hom
        rw [if_pos rfl]
        show (1 : Int).toNat < si.n
        have e1 : (1 : Int).toNat = 1 := rfl
        omega) (Nat.le_refl _) (by unfold maxLen; omega) (by omega) (by omega) (by omega)
      have e1 : wrl si.n [⟨⟨t1, 1, 1, 1, sup si.n []⟩, some ⟨g5, 0, none⟩, 16, 16⟩] = [(1, ps ⟨t1, 1, 1, 1, sup si.n []⟩)] := by
        unfold wrl hom
        simp
      rw [e1, ← HFIN.out] at k3
      have HB5 : Hid (Below wr.heap.size wr (w3.alloc (.cells #[.string t1, .int .i64 1, .int .i64 1, .int .i64 1, .slice (some ⟨g5, 0, none⟩) 16 16] 40))) := bel_bel HB3.out HB3.out.size B4
      obtain ⟨⟨E, s'⟩, HR⟩ : ∃ r, Hid (fmA j 0 s = r) := ⟨_, rfl⟩
      rw [HR.out] at k3
      clear k2 r5 r6 D3 T3 B4 B3 e1
      go_wp2_with fail
      refine k3.mono ?_
      rintro en w4 ⟨rfl, D4, F4⟩
      have F5 : Fr Q w w4 := (HF1.out.below HB5.out).trans F4
      have s5 := HB5.out.size
      have s1 := HF1.out.size
      have HD6 := hid (D4.weak (R := Qn Q w w4) (fun b q => by
        rcases q with q | q
        · exact .inl q
        · exact .inr ⟨by omega, q.2⟩) (fun b q => by
        rcases q with q | q
        · have := hlt b q
          have := F5.size
          omega
        · exact q.2))
      have HF5 := hid F5
      clear k3 D4 F4 F5
      go_wp2_with fail
      go_ret
      rw [HR.out]
      exact ⟨rfl, HD6.out, HF5.out⟩
end Go.Proofs.YtjajcbjodokfnaaGreatDoor
