import Derived.Test.YthflghjmpellpaaLTe
import Derived.Deep.RegionHeldLaw
import Derived.Deep.CutRange
import Derived.BigQuiet
namespace Go.Proofs.Ythflghjmpellpaa
open Go.RowKit
set_option linter.unusedVariables false
set_option maxRecDepth 100000

set_option maxHeartbeats 8000000 in
theorem netFates_ (a : Option Addr) (n cp : Nat) (l : List Wop) (w : World) (hl : Opl w a n l) :
    Calls Try.prog 3 #[.slice a n cp] w fun e w' => e = .returned (.bool true) ∧ Below w.heap.size w w' := by
  have HL := hid hl
  clear hl
  go_enter Try.func3, Try.ntmps3
  go_wp2_with fail
  refine (known_ w).mono ?_
  rintro e w1 ⟨rfl, g1⟩
  have k1 := newK (w0 := w) (K := fun _ => False) g1 (fun _ e => e.elim)
  clear g1
  go_wp2_with fail
  refine k1.mono ?_
  rintro e w2 ⟨p, rfl, h, -⟩
  have H2 : Hid (Fa w w2 p (.slice none 0 0) (.slice none 0 0) 0 (fun _ => False) [] []) := ⟨h, Fs.nil _ _, fun k e => e.elim, Nat.le_refl _⟩
  clear k1 h
  go_wp2_with fail
  go_loopw [4, 5, 6] (fun bv hv i wr => ∃ j : Nat, ∃ K ds H, j ≤ n ∧ (j : Int) ≤ 1000 ∧ i = .int .i64 j ∧ Hid (Fa w wr p bv hv j K ds H)) (fun bv hv i _ => n - (intOf i).toNat)
  case atStart => exact ⟨0, _, _, _, by omega, by omega, rfl, H2⟩
  case round =>
    clear H2
    obtain ⟨j, K, ds, H, hj, hj2, rfl, HT⟩ := hrel
    obtain ⟨ba, bc, rfl, hbf⟩ := HT.out.fs.fls
    obtain ⟨ea, ec, rfl, hrs⟩ := HT.out.fs.hrs
    obtain ⟨m, HM⟩ : ∃ z, Hid (ds.length = z) := ⟨_, rfl⟩
    rw [HM.out] at HT hbf hrs ⊢
    have HBF := hid hbf
    have HRS := hid hrs
    have HMJ : Hid (m ≤ j) := by show _ ≤ _; rw [← HM.out]; exact HT.out.len
    clear hbf hrs
    by_cases hlt : j < n ∧ (j : Int) < 1000
    case neg =>
      have hor : (j : Int) < n ∧ ¬ (j : Int) < 1000 ∨ ¬ (j : Int) < n := by omega
      clear hlt
      have k1 := counted_ (c := bc) (hc := ec) HT.out.hk HBF.out (fun k e => e) HRS.out (by have := HMJ.out; omega) (fun f hf => by
        obtain ⟨d, hd, rfl⟩ := List.mem_map.1 hf
        have := (HT.out.fs.byt d hd).2
        omega)
      rcases hor with ⟨hjI, h20⟩ | hjI
      all_goals
        go_wp2_with fail
        refine k1.mono ?_
        rintro e w4 ⟨rfl, g4⟩
        have HB4 := hid g4
        clear k1 g4
        go_wp2_with fail
        go_ret
        exact ⟨rfl, HB4.out⟩
    case pos =>
      obtain ⟨hlt, h20⟩ := hlt
      have hjI : (j : Int) < n := by omega
      obtain ⟨b, off, y, rfl, hok, hat⟩ := HL.out.get hlt
      obtain ⟨kd, sc, tt, no, x, at', da, dn, dc, d⟩ := y
      obtain ⟨y1, y2, y3, y4, y5⟩ := hok
      simp only at y1 y2 y3 y4 y5
      have hx := hat wr HT.out.hk.bel
      have o0 := hx.1.o0
      have o1 := hx.1.o1
      have o2 := hx.1.o2
      have o3 := hx.1.o3
      have o4 := hx.1.o4
      have o5 := hx.1.o5
      have o6 := hx.1.o6
      simp only at o0 o1 o2 o3 o4 o5 o6
      have HVS := hid hx.2
      have HV0 := hid (hat w (Below.refl _ _)).2
      have HY := hid (And.intro y2 (And.intro y3 (And.intro y4 y5)))
      have HM2 : Hid (m ≤ 1000) := by show _ ≤ _; have := HMJ.out; omega
      have HLB : Hid ((ds.map (·.f)).length = m ∧ (ds.map (·.f)).length = H.length ∧ Nos 0 (ds.map (·.f))) := ⟨by rw [List.length_map, HM.out], by rw [List.length_map]; exact HT.out.fs.len, HT.out.fs.nos⟩
      obtain ⟨th, atv, hwrap, hthr, hcs⟩ := thr_dec HLB.out.1 HLB.out.2.1 HLB.out.2.2 y3 HM2.out
      have HTHR := hid hthr
      have HBX := hid (op_box wr kd sc tt no x at' da dn dc)
      have HOM := hid (om_new wr kd sc tt no x at' da dn dc)
      have q3 := HOM.out.c3
      clear hat hx hthr y1 y2 y3 y4 y5
      go_upto_region 13 with fail
      go_cut [9] from 38 to 51 (fun v9 wx => v9 = .bool th ∧ wx = wr.alloc (.cells #[.int .i64 kd, .bool sc, .int .i64 tt, .int .i64 no, .int .i64 x, .int .i64 at', .slice da dn dc] 30))
      case first =>
        rcases hcs with ⟨i, hi, hai, hgi⟩ | ⟨rfl, hai⟩ | ⟨rfl, hai, hai2⟩
        · have hiI : (0 : Int) ≤ (i : Int) := by omega
          have hiM : (i : Int) < m := by omega
          obtain ⟨eb, eo, rfl, hce⟩ := HRS.out.2.resolve_left (by omega)
          have h1 := (HBX.out.cell (World.block_lt_of_cell? wr _ (hce i hi))).trans (hce i hi)
          rw [hgi] at h1
          clear hce hgi hwrap
          obtain rfl : (i : Int) = atv := hai.symm
          go_wp2_with fail
          go_meet
          exact ⟨rfl, rfl⟩
        · clear hwrap
          go_wp2_with fail
          go_meet
          exact ⟨rfl, rfl⟩
        · clear hwrap
          go_wp2_with fail
          go_meet
          exact ⟨rfl, rfl⟩
      obtain ⟨rfl, rfl⟩ := hcut
      have HKB := hid (bytesK (HVS.out.step fun k hk _ _ => HBX.out.block k hk) (n := dn) (c := dc))
      obtain ⟨K1, HF, HKV⟩ : ∃ K1, Hid (Fa w (wr.alloc (.cells #[.int .i64 kd, .bool sc, .int .i64 tt, .int .i64 no, .int .i64 x, .int .i64 at', .slice da dn dc] 30)) p (.slice ba m bc) (.slice ea m ec) j K1 ds H) ∧ Hid (K1 wr.heap.size) := ⟨_, HT.out.on HBX.out, .inr ⟨Nat.le_refl _, by simp⟩⟩
      have HDK : Hid (Okb d ∧ d.length = dn) := ⟨HVS.out.bs.2.1, HVS.out.bs.1⟩
      obtain ⟨wa, HWA⟩ : ∃ z, Hid (wr.alloc (.cells #[.int .i64 kd, .bool sc, .int .i64 tt, .int .i64 no, .int .i64 x, .int .i64 at', .slice da dn dc] 30) = z) := ⟨_, rfl⟩
      obtain ⟨vb, HVBE⟩ : ∃ z, Hid (wr.heap.size = z) := ⟨_, rfl⟩
      rw [HWA.out] at HF HOM HKB ⊢
      rw [HVBE.out] at HOM HKV ⊢
      clear o0 o1 o2 o3 o4 o5 o6 q3 HT HVS HBF HRS HBX hcs hwrap HWA HVBE HL
      by_cases e1 : kd = 1
      · as_aux_lemma =>
          obtain rfl : kd = 1 := e1
          have HVN : Hid ((Value.slice ba m bc).ownBlock ≠ some vb) := fun e => by
            obtain ⟨_, t1⟩ := row_type HF.out.fs.bown e
            have t2 := HOM.out
            unfold Om at t2
            rw [t1] at t2
            simp at t2
          have c0 := HOM.out.c0
          have c2 := HOM.out.c2
          have c6 := HOM.out.c6
          by_cases hd4 : (4096 : Int) < dn
          · go_wp2_with fail
            go_roundw
            case rel => exact ⟨j + 1, K1, ds, H, by omega, by omega, by go_num, HF.out.more⟩
            case measure => simp [intOf]; omega
          · have HD4 : Hid (dn ≤ 4096) := by show _ ≤ _; omega
            have HKS := hid (HF.out.sendK HM.out HM2.out HY.out.1 HDK.out.1 HD4.out)
            have HKB1 := hid (HKB.out HD4.out)
            have HCC : Hid (∀ w4, Below wa.heap.size wa w4 → w4.cell? ⟨vb, 2, none⟩ = some (.int .i64 tt) ∧ w4.cell? ⟨vb, 6, none⟩ = some (.slice da dn dc)) := fun w4 hb => ⟨(hb.cell (World.block_lt_of_cell? wa _ c2)).trans c2, (hb.cell (World.block_lt_of_cell? wa _ c6)).trans c6⟩
            have HSC : Hid (∀ w5, Kx K1 wa w5 → w5.cell? ⟨vb, 2, none⟩ = some (.int .i64 tt) ∧ w5.cell? ⟨vb, 6, none⟩ = some (.slice da dn dc)) := fun w5 hk => ⟨(World.cell?_of_block (w := wa) (w' := w5) (a := ⟨vb, 2, none⟩) (hk vb HKV.out)).trans c2, (World.cell?_of_block (w := wa) (w' := w5) (a := ⟨vb, 6, none⟩) (hk vb HKV.out)).trans c6⟩
            go_upto_region 17 with fail
            go_cut [10] from 60 to 66 (fun v10 wx => v10 = .int .i64 ((m : Int) + 1) ∧ Hid (Sq w wa wx p K1 ds H ⟨(m : Int) + 1, tt, d⟩))
            case first =>
              have r2 := (HCC.out _ (below_drew wa)).1
              have r6 := (HCC.out _ (below_drew wa)).2
              go_region_held3 (fun wx => wx.cell? ⟨vb, 2, none⟩ = some (.int .i64 tt) ∧ wx.cell? ⟨vb, 6, none⟩ = some (.slice da dn dc)) (go_keep) (first
                | (have hh := HB4; go_at_call 6; refine (HKS.out _ _ _ HB4.out).mono ?_; rintro en w5 ⟨rfl, HS5⟩; have t2 := (HSC.out _ HS5.out.2).1; have t6 := (HSC.out _ HS5.out.2).2)
                | (go_at_call 7; refine (HKB1.out _ (below_drew wa)).mono ?_; rintro en w4 ⟨a1, c1, rfl, HB4⟩; have s2 := (HCC.out _ HB4.out.1).1; have s6 := (HCC.out _ HB4.out.1).2))
              all_goals
                go_wp2_with fail
                go_meet
                exact ⟨rfl, HS5.out⟩
            obtain ⟨rfl, HS5⟩ := hcut
            obtain ⟨w5, hw5⟩ : ∃ z, z = wc := ⟨_, rfl⟩
            subst hw5
            have c2' := (HSC.out _ HS5.out.2).1
            have c6' := (HSC.out _ HS5.out.2).2
            have HFS5 := hid (HF.out.fs.kx HS5.out.2)
            have HKB5 := hid (bytesK (wa := w5) (HV0.out.step fun k hk _ _ => HS5.out.1.bel.block k hk) HD4.out)
            have hm1 : (m : Int) ≤ 1000 := by have := HM2.out; omega
            have hne : (((m : Int) + 1) != ((m : Int) + 1)) = false := by simp
            have HCE : Hid (∀ w4, Below w5.heap.size w5 w4 → w4.cell? ⟨vb, 2, none⟩ = some (.int .i64 tt) ∧ w4.cell? ⟨vb, 6, none⟩ = some (.slice da dn dc)) := fun w4 hb => ⟨(hb.cell (World.block_lt_of_cell? w5 _ c2')).trans c2', (hb.cell (World.block_lt_of_cell? w5 _ c6')).trans c6'⟩
            obtain ⟨n', HN'⟩ : ∃ z, Hid (ds.length + 1 = z) := ⟨_, rfl⟩
            have HOB : Hid (∀ wx, Below w5.heap.size w5 wx → wx.ownsRow 0 34 3 (.slice ba m bc) ds.length (fds ds)) := fun wx hb => own_bel HFS5.out.bown hb
            clear c0 c2 c6 HCC HKS HKB1
            go_upto_region 20 with fail
            go_cut [4] from 72 to 81 (fun v4 wx => ∃ g7 c7, v4 = .slice (some ⟨g7, 0, none⟩) n' c7 ∧ Hid (Aq w5 wx (.slice ba m bc) (.slice (some ⟨g7, 0, none⟩) n' c7) ds ((m : Int) + 1) tt d dn))
            case first =>
              have r2 := (HCE.out _ (below_drew w5)).1
              have r6 := (HCE.out _ (below_drew w5)).2
              go_region_held_law (fun wx => wx.cell? ⟨vb, 2, none⟩ = some (.int .i64 tt) ∧ wx.cell? ⟨vb, 6, none⟩ = some (.slice da dn dc)) (go_keep) (first
                | (have hh := HB6; refine step_appF (by rfl) (.tmp 72) (.tmp 80) (by rfl) 0 (.slice ba m bc) ds (by rfl) (by exact HOA.out) w6.heap.size ⟨⟨(m : Int) + 1, tt, d⟩, a2, c2⟩ (by rfl) (by exact HCL.out) (by have := HM.out; have := HM2.out; omega) (Nat.zero_le _) n' HN' ?_; intro g7 cap7 w7 HO7 HG7 HL7; obtain ⟨t2, t6⟩ := HKC.out w7 HG7.out)
                | (go_at_call 7; refine (HKB5.out _ (below_drew w5)).mono ?_; rintro en w6 ⟨a2, c2, rfl, HB6⟩; have s2 := (HCE.out _ HB6.out.1).1; have s6 := (HCE.out _ HB6.out.1).2; have HBA : Hid (Below w5.heap.size w5 (w6.alloc (.cells #[.int .i64 ((m : Int) + 1), .int .i64 tt, .slice a2 dn c2] 34))) := bel_bel HB6.out.1 HB6.out.1.size ((Below.refl _ _).alloc (Nat.le_refl _) _); have HOA := hid (HOB.out _ HBA.out); have HCL := hid (fl_cells (w6 := w6) (no := (m : Int) + 1) (tq := tt) (a2 := a2) (c2 := c2) HDK.out.2); have s2' := (HCE.out _ HBA.out).1; have s6' := (HCE.out _ HBA.out).2; have HKC : Hid (∀ w7, (w6.alloc (.cells #[.int .i64 ((m : Int) + 1), .int .i64 tt, .slice a2 dn c2] 34)).grownBy w7 (Value.slice ba m bc).ownBlock → w7.cell? ⟨vb, 2, none⟩ = some (.int .i64 tt) ∧ w7.cell? ⟨vb, 6, none⟩ = some (.slice da dn dc)) := fun w7 hg => ⟨(World.cell?_of_block (a := ⟨vb, 2, none⟩) (hg.block vb (World.block_lt_of_cell? _ _ s2') (fun q => HVN.out q.symm))).trans s2', (World.cell?_of_block (a := ⟨vb, 6, none⟩) (hg.block vb (World.block_lt_of_cell? _ _ s6') (fun q => HVN.out q.symm))).trans s6'⟩))
              go_wp2_with fail
              rename_i hq
              obtain rfl := Option.some.inj hq
              go_meet
              obtain ⟨b6, hb6, ho6⟩ := HB6.out.2
              exact ⟨g7, cap7, rfl, a2, c2, b6, w6, _, HB6.out.1, ho6, hb6, (Below.refl _ _).alloc (Nat.le_refl _) _, by have := HO7.out; rwa [show n' = (ds ++ [(⟨⟨(m : Int) + 1, tt, d⟩, a2, c2⟩ : FD)]).length by rw [List.length_append, List.length_singleton]; exact HN'.out.symm] at this, HG7.out, HL7.out.imp (fun e => e.symm) (fun e => by rw [e]; rfl)⟩
            obtain ⟨g7, c7, rfl, HA⟩ := hcut
            obtain ⟨w7, hw7⟩ : ∃ z, z = wc := ⟨_, rfl⟩
            subst hw7
            have HOW := hid (HA.out.hown HFS5.out)
            have HLH : Hid (H.length = m) := by show _ = _; rw [← HF.out.fs.len]; exact HM.out
            rw [HLH.out] at HOW
            have HBB : Hid (Below w7.heap.size w7 (w7.alloc (.cells #[.bool true] 4))) := (Below.refl _ _).alloc (Nat.le_refl _) _
            have HOW2 := hid (own_bel HOW.out HBB.out)
            have HTC : Hid ((w7.alloc (.cells #[.bool true] 4)).cell? ⟨w7.heap.size, 0, none⟩ = some (.bool true)) := (cell_of_row (w7.alloc _) w7.heap.size 0 _ 4 (0, 0) (heap_alloc_new w7 _)).trans rfl
            clear HCE HOB c2' c6' HKB5
            go_wp2_with (first | (at_builtin; refine wpList_appH rfl _ _ rfl 0 (.slice ea m ec) H rfl (by rw [HLH.out]; exact HOW2.out) w7.heap.size rfl HTC.out (by have := HLH.out; have := HM2.out; omega) (Nat.zero_le _) ?_; intro v8 w8 o8 g8 l8; have HX8 := hid (HF.out.addA HS5.out (by rw [HM.out]) ⟨HDK.out.1, by rw [HDK.out.2]; exact HD4.out⟩ HDK.out.2 HA.out HBB.out o8 g8 l8); clear o8 g8 l8) | fail)
            obtain ⟨K9, ds9, h9⟩ := HX8.out
            have H9 := hid h9
            clear h9 HX8
            go_roundw
            case rel => exact ⟨j + 1, K9, ds9, H ++ [true], by omega, by omega, by go_num, H9.out⟩
            case measure => simp [intOf]; omega
      have HVN : Hid ((Value.slice ba m bc).ownBlock ≠ some vb) := fun e => by
        obtain ⟨_, t1⟩ := row_type HF.out.fs.bown e
        have t2 := HOM.out
        unfold Om at t2
        rw [t1] at t2
        simp at t2
      have hm1 : (m : Int) ≤ 1000 := by have := HM2.out; omega
      by_cases e4 : kd = 4
      · obtain rfl : kd = 4 := e4
        have c0 := HOM.out.c0
        have c3 := HOM.out.c3
        rcases HTHR.out with ⟨rfl, i, hi, rfl, rfl, hgi⟩ | ⟨rfl, hfn⟩
        · have HI := hid hi
          have HGI := hid hgi
          obtain ⟨f, HFE⟩ : ∃ z, Hid ((ds.map (·.f)).getD i fl0 = z) := ⟨_, rfl⟩
          obtain ⟨fno, ft, fd⟩ := f
          have k1 := HF.out.copyK HM.out HM2.out hi hgi HFE.out
          clear hi hgi
          go_wp2_with fail
          refine k1.mono ?_
          rintro e w5 ⟨rfl, HS5⟩
          have kn := num_ 0 w5
          have hne : (((m : Int) + 1) != ((m : Int) + 1)) = false := by simp
          have HFS5 := hid (HF.out.fs.kx HS5.out.2)
          have hiM : (i : Int) < m := by have := HI.out; omega
          obtain ⟨ba2, bc2, eb2, hfls⟩ := HFS5.out.fls
          rw [HM.out] at eb2 hfls
          obtain ⟨rfl, rfl⟩ : ba = ba2 ∧ bc = bc2 := by simpa using eb2
          obtain ⟨bb, off2, da2, dc2, dn2, rfl, hdn, z0, z1, z2, hzv⟩ := hfls.at HI.out
          rw [HFE.out] at hdn z0 z1 hzv
          simp only at hdn z0 z1 hzv
          have HDN := hid hdn
          have HD4 : Hid (dn2 ≤ 4096 ∧ Okb fd) := by
            obtain ⟨dd, hdd, e⟩ : ∃ dd ∈ ds, dd.f = ⟨fno, ft, fd⟩ := by
              have h1 : (ds.map (·.f)).getD i fl0 ∈ ds.map (·.f) := by
                have h9 : i < (ds.map (·.f)).length := by rw [List.length_map, HM.out]; exact HI.out
                simp only [List.getD, List.getElem?_eq_getElem h9]
                exact List.getElem_mem h9
              rw [HFE.out] at h1
              obtain ⟨dd, h2, h3⟩ := List.mem_map.1 h1
              exact ⟨dd, h2, h3⟩
            have := HF.out.fs.byt dd hdd
            rw [e] at this
            have h2 := HDN.out
            have h3 : fd.length ≤ 4096 := this.2
            exact ⟨by omega, this.1⟩
          have HKB5 := hid (bytesK (wa := w5) hzv HD4.out.1)
          have HCE : Hid (∀ w4, Below w5.heap.size w5 w4 → w4.cell? ⟨bb, off2 + i * 3 + 1, none⟩ = some (.int .i64 ft) ∧ w4.cell? ⟨bb, off2 + i * 3 + 2, none⟩ = some (.slice da2 dn2 dc2)) := fun w4 hb => ⟨(hb.cell (World.block_lt_of_cell? w5 _ z1)).trans z1, (hb.cell (World.block_lt_of_cell? w5 _ z2)).trans z2⟩
          obtain ⟨n', HN'⟩ : ∃ z, Hid (ds.length + 1 = z) := ⟨_, rfl⟩
          have HOB : Hid (∀ wx, Below w5.heap.size w5 wx → wx.ownsRow 0 34 3 (.slice (some ⟨bb, off2, none⟩) m bc) ds.length (fds ds)) := fun wx hb => own_bel HFS5.out.bown hb
          clear c0 c3 z0 z1 z2 hzv hdn hfls eb2 k1
          go_upto_region 27 with (go_at_call 9; refine kn.mono ?_; rintro e wz ⟨rfl, hwz⟩; subst hwz)
          go_cut [4] from 118 to 133 (fun v4 wx => ∃ g7 c7, v4 = .slice (some ⟨g7, 0, none⟩) n' c7 ∧ Hid (Aq wz wx (.slice (some ⟨bb, off2, none⟩) m bc) (.slice (some ⟨g7, 0, none⟩) n' c7) ds ((m : Int) + 1) ft fd dn2))
          case first =>
            have r1 := (HCE.out _ (below_drew wz)).1
            have r2 := (HCE.out _ (below_drew wz)).2
            go_region_law (first
              | (go_simp; go_at_call 7; refine (HKB5.out _ (by first | exact below_drew wz | exact (drawnN wz _).below)).mono ?_; rintro en w6 ⟨a2, c2, rfl, HB6⟩; have s1 := (HCE.out _ HB6.out.1).1; have s2 := (HCE.out _ HB6.out.1).2; have HBA : Hid (Below wz.heap.size wz (w6.alloc (.cells #[.int .i64 ((m : Int) + 1), .int .i64 ft, .slice a2 dn2 c2] 34))) := bel_bel HB6.out.1 HB6.out.1.size ((Below.refl _ _).alloc (Nat.le_refl _) _); have HOA := hid (HOB.out _ HBA.out); have HCL := hid (fl_cells (w6 := w6) (no := (m : Int) + 1) (tq := ft) (a2 := a2) (c2 := c2) HDN.out.symm))
              | (refine step_appF (by rfl) (.tmp 118) (.tmp 132) (by rfl) 0 (.slice (some ⟨bb, off2, none⟩) m bc) ds (by rfl) (by exact HOA.out) w6.heap.size ⟨⟨(m : Int) + 1, ft, fd⟩, a2, c2⟩ (by rfl) (by exact HCL.out) (by have := HM.out; have := HM2.out; omega) (Nat.zero_le _) n' HN' ?_; intro g7 cap7 w7 HO7 HG7 HL7))
            all_goals
              go_wp2_with fail
              go_meet
              obtain ⟨b6, hb6, ho6⟩ := HB6.out.2
              exact ⟨g7, cap7, rfl, a2, c2, b6, w6, _, HB6.out.1, ho6, hb6, (Below.refl _ _).alloc (Nat.le_refl _) _, by have := HO7.out; rwa [show n' = (ds ++ [(⟨⟨(m : Int) + 1, ft, fd⟩, a2, c2⟩ : FD)]).length by rw [List.length_append, List.length_singleton]; exact HN'.out.symm] at this, HG7.out, HL7.out.imp (fun e => e.symm) (fun e => by rw [e]; rfl)⟩
          obtain ⟨g7, c7, rfl, HA⟩ := hcut
          obtain ⟨w7, hw7⟩ : ∃ z, z = wc := ⟨_, rfl⟩
          subst hw7
          have HOW := hid (HA.out.hown HFS5.out)
          have HLH : Hid (H.length = m) := by show _ = _; rw [← HF.out.fs.len]; exact HM.out
          rw [HLH.out] at HOW
          have HBB : Hid (Below w7.heap.size w7 (w7.alloc (.cells #[.bool true] 4))) := (Below.refl _ _).alloc (Nat.le_refl _) _
          have HOW2 := hid (own_bel HOW.out HBB.out)
          have HTC : Hid ((w7.alloc (.cells #[.bool true] 4)).cell? ⟨w7.heap.size, 0, none⟩ = some (.bool true)) := (cell_of_row (w7.alloc _) w7.heap.size 0 _ 4 (0, 0) (heap_alloc_new w7 _)).trans rfl
          clear HCE HOB HKB5
          go_wp2_with (first | (at_builtin; refine wpList_appH rfl _ _ rfl 0 (.slice ea m ec) H rfl (by rw [HLH.out]; exact HOW2.out) w7.heap.size rfl HTC.out (by have := HLH.out; have := HM2.out; omega) (Nat.zero_le _) ?_; intro v8 w8 o8 g8 l8; have HX8 := hid (HF.out.addA HS5.out (by rw [HM.out]) ⟨HD4.out.2, by have h2 := HDN.out; have h3 := HD4.out.1; omega⟩ HDN.out.symm HA.out HBB.out o8 g8 l8); clear o8 g8 l8) | fail)
          obtain ⟨K9, ds9, h9⟩ := HX8.out
          have H9 := hid h9
          clear h9 HX8
          go_roundw
          case rel => exact ⟨j + 1, K9, ds9, H ++ [true], by omega, by omega, by go_num, H9.out⟩
          case measure => simp [intOf]; omega
        · have k1 := HF.out.copyN HY.out.2.1 (by rw [HM.out]; exact HM2.out) hfn
          clear hfn
          go_wp2_with fail
          refine k1.mono ?_
          rintro e w5 ⟨rfl, H5⟩
          have kn := num_ 218 w5
          clear k1 c0 c3
          go_wp2_with (go_at_call 9; refine kn.mono ?_; rintro e wz ⟨rfl, hwz⟩; subst hwz)
          go_roundw
          case rel => exact ⟨j + 1, K1, ds, H, by omega, by omega, by go_num, H5.out.more⟩
          case measure => simp [intOf]; omega

      by_cases e3 : kd = 3 ∨ kd = 2
      · as_aux_lemma =>
          have c0 := HOM.out.c0
          have c1 : wa.cell? ⟨vb, 1, none⟩ = some (.bool sc) := (cell_of_row _ _ 1 _ _ (0, 0) HOM.out).trans rfl
          have c2 := HOM.out.c2
          have c3 := HOM.out.c3
          have c4 := HOM.out.c4
          have c5 := HOM.out.c5
          have c6 := HOM.out.c6
          have k1 := HF.out.leaves HM.out HTHR.out HY.out.2.1 HLB.out.2.1 kd e3 sc tt x at' da dn dc
          rcases e3 with rfl | rfl
          all_goals
            go_wp2_with fail
            refine k1.mono ?_
            rintro e w5 ⟨rfl, HS5⟩
            clear k1 c0 c1 c2 c3 c4 c5 c6
            rcases HTHR.out with ⟨rfl, i, hi, rfl, rfl, hgi⟩ | ⟨rfl, hfn⟩
            · have hiI : (i : Int) < m := by omega
              have HFS5 := hid (HF.out.fs.kx HS5.out.2)
              have HLH : Hid (H.length = m) := by show _ = _; rw [← HF.out.fs.len]; exact HM.out
              have HOW := hid HFS5.out.hown
              rw [HLH.out] at HOW
              obtain ⟨ea2, ec2, ee, _, _, _, h4⟩ := own_addr HOW.out
              obtain ⟨rfl, rfl⟩ : ea = ea2 ∧ ec = ec2 := by simpa using ee
              rcases h4 with ⟨_, h0⟩ | ⟨g, rfl, _, _, _⟩
              · omega
              have hcl := (HOW.out.cellAt i (by omega)).trans (by simp [HLH.out, hi] : _ = some (Value.bool (H[i]'(by rw [HLH.out]; exact hi))))
              have hfz := HOW.out.frozenAt i
              have HRS5 := hid (row_set HOW.out hi (.bool false))
              have HFX : Hid (Fx (fun k => (Value.slice (some ⟨g, 0, none⟩) m ec).ownBlock = some k) w5 (w5.setCell ⟨g, i, none⟩ (.bool false))) := (Fx.refl (fun k => (Value.slice (some ⟨g, 0, none⟩) m ec).ownBlock = some k) w5).set (g := g) (i := i) (show (Value.slice (some ⟨g, 0, none⟩) m ec).ownBlock = some g from rfl) (.bool false)
              have HX9 : Hid (Fa w (w5.setCell ⟨g, i, none⟩ (.bool false)) p (.slice ba m bc) (.slice (some ⟨g, 0, none⟩) m ec) (j + 1) (fun k => K1 k ∨ (w5.heap.size ≤ k ∧ k < (w5.setCell ⟨g, i, none⟩ (.bool false)).heap.size)) ds (H.set i false)) :=
                HF.out.gone (by rw [HM.out]; exact hi) HS5.out.1 HS5.out.2 rfl HFX.out (by
                  have := HRS5.out
                  rw [List.length_set, HLH.out, List.map_set]
                  exact this)
              clear hgi
              go_wp2_with fail
              go_roundw
              case rel => exact ⟨j + 1, _, ds, H.set i false, by omega, by omega, by go_num, HX9.out⟩
              case measure => simp [intOf]; omega
            · have HX9 : Hid (Fa w w5 p (.slice ba m bc) (.slice ea m ec) j K1 ds H) := HF.out.net HS5.out.1 HS5.out.2 (outL_none hfn) rfl
              clear hfn
              go_wp2_with fail
              go_roundw
              case rel => exact ⟨j + 1, K1, ds, H, by omega, by omega, by go_num, HX9.out.more⟩
              case measure => simp [intOf]; omega
      have n3 : kd ≠ 3 := fun e => e3 (.inl e)
      have n2 : kd ≠ 2 := fun e => e3 (.inr e)

      by_cases e5 : kd = 5
      · as_aux_lemma =>
          obtain rfl : kd = 5 := e5
          have c0 := HOM.out.c0
          have c3 := HOM.out.c3
          have c4 := HOM.out.c4
          have c5 := HOM.out.c5
          obtain ⟨y2, y3, y4, y5⟩ := HY.out
          rcases HTHR.out with ⟨rfl, i, hi, rfl, rfl, hgi⟩ | ⟨rfl, hfn⟩
          · have hft := Thr.fnd HLB.out.1 HLB.out.2.1 HLB.out.2.2 hi hgi
            have hfl := HF.out.fnd_len HM.out hi
            obtain ⟨f, HFE⟩ : ∃ z, Hid ((ds.map (·.f)).getD i fl0 = z) := ⟨_, rfl⟩
            rw [HFE.out] at hft hfl
            have hiM : (i : Int) < m := by omega
            by_cases hok : 0 ≤ at' ∧ at' < (f.d.length : Int) ∧ 1 ≤ x ∧ x ≤ 255
            · obtain ⟨g1, g2, g3, g4⟩ := hok
              obtain ⟨t, rfl⟩ : ∃ t : Nat, at' = (t : Int) := ⟨at'.toNat, by omega⟩
              have k1 := HF.out.flipOk y3 y4 hft (t := t) (by omega) y5.2 ⟨g3, g4⟩
              obtain ⟨bb, g, dn2, dc2, fd, hfa⟩ := HF.out.fs.fat HM.out hi (by rw [HFE.out]; omega)
              have HFA := hid hfa
              have HI := hid hi
              have hdn2 : f.d.length = dn2 := by
                have e := HFA.out.get
                rw [HFE.out] at e
                rw [e, HFA.out.hd, HFA.out.len]
              rw [hdn2] at g2
              have HT2 : Hid (t < dn2) := by show _ < _; omega
              obtain rfl := HFA.out.ba
              clear hfa hft hfl y2 y3 y4 y5 hi hgi hdn2
              go_wp2_with fail
              refine k1.mono ?_
              rintro e w5 ⟨rfl, HS5⟩
              have HKL : Hid (K1 bb ∧ K1 g ∧ vb ≠ g) := by
                refine ⟨HF.out.fs.kb bb rfl, HF.out.fs.kd _ (List.getElem_mem HFA.out.hi) g (by rw [HFA.out.hfv]; rfl), fun e => ?_⟩
                obtain ⟨_, t1⟩ := row_type HFA.out.row (k := g) rfl
                have t2 := HOM.out
                unfold Om at t2
                rw [e, t1] at t2
                simp at t2
              have HF5 : Hid (Fat w5 (some ⟨bb, 0, none⟩) ds i bb g dn2 dc2 fd) := ⟨rfl, HFA.out.hi, HFA.out.get, HFA.out.hd, HFA.out.hfv, HFA.out.len, (World.cell?_of_block (w := wa) (w' := w5) (a := ⟨bb, i * 3 + 2, none⟩) (HS5.out.2 bb HKL.out.1)).trans HFA.out.cell, row_same HFA.out.row (fun k e => HS5.out.2 k (by cases e; exact HKL.out.2.1)), HFA.out.ok⟩
              have HO5 := hid (HOM.out.at (HS5.out.2 vb HKV.out))
              have d4 := HO5.out.c4
              have d5 := HO5.out.c5
              have z2 := HF5.out.cell
              clear k1 c0 c3 c4 c5
              go_upto_region 31 with fail
              go_cut [14] from 147 to 173 (fun v14 wx => v14 = .bool true ∧ Hid (Drawn w5 wx))
              case first =>
                go_quiet (fail)
                go_wp2_with fail
                go_meet
                exact ⟨rfl, drawnN w5 _⟩
              obtain ⟨rfl, HD5⟩ := hcut
              obtain ⟨w6, hw6⟩ : ∃ z, z = wc := ⟨_, rfl⟩
              subst hw6
              have HS6 : Hid (Hk w w6 (fun k => K1 k ∨ (w5.heap.size ≤ k ∧ k < w6.heap.size)) p (flipL (her (ds.map (·.f)) H) ((i : Int) + 1) t x) (ds.length : Int) ∧ Kx K1 wa w6) := ⟨HS5.out.1.on HD5.out.below, HS5.out.2.trans fun k e => HD5.out.at k⟩
              have HF6 : Hid (Fat w6 (some ⟨bb, 0, none⟩) ds i bb g dn2 dc2 fd) := ⟨rfl, HFA.out.hi, HFA.out.get, HFA.out.hd, HFA.out.hfv, HFA.out.len, (World.cell?_of_block (w := w5) (w' := w6) (a := ⟨bb, i * 3 + 2, none⟩) (HD5.out.at bb)).trans HF5.out.cell, row_same HF5.out.row (fun k e => HD5.out.at k), HFA.out.ok⟩
              have HO6 := hid (HO5.out.at (HD5.out.at vb))
              have kn := num_ 0 w6
              have e4 := HO6.out.c4
              have e5 := HO6.out.c5
              have x2 := HF6.out.cell
              have xt := HF6.out.at HT2.out
              have xf := HF6.out.row.frozenAt t
              have hwx : IntKind.u8.wrap x = x := by rw [IntKind.wrap_u8]; omega
              clear d4 d5 z2
              go_upto_region 35 with (go_at_call 9; refine kn.mono ?_; rintro e wz ⟨rfl, hwz⟩; subst hwz)
              have HFIN : Hid (∀ wx, Drawn (wz.setCell ⟨g, t, none⟩ (.int .u8 (bits .xor .u8 (fd.getD t 0) x))) wx → Fa w wx p (.slice (some ⟨bb, 0, none⟩) m bc) (.slice ea m ec) (j + 1) (fun k => K1 k ∨ (wz.heap.size ≤ k ∧ k < wx.heap.size)) (ds.set i (flD (ds[i]'HFA.out.hi) t x)) H) := by
                intro wx hd
                have hf : Fx (fun k => (fv (ds[i]'HFA.out.hi)).ownBlock = some k) wz (wz.setCell ⟨g, t, none⟩ (.int .u8 (bits .xor .u8 (fd.getD t 0) x))) := (Fx.refl (fun k => (fv (ds[i]'HFA.out.hi)).ownBlock = some k) wz).set (g := g) (i := t) (by show (fv (ds[i]'HFA.out.hi)).ownBlock = some g; rw [HFA.out.hfv]; rfl) _
                exact HF.out.flips HFA.out.hi (HS6.out.1.less fun k e => .inl e) HS6.out.2 rfl (hf.drawn hd) (row_same (HF6.out.set HT2.out x) fun k e => hd.at k)
              go_region
              all_goals
                go_wp2_with fail
                go_roundw
                case rel => exact ⟨j + 1, _, _, H, by omega, by omega, by go_num, HFIN.out _ ⟨rfl, rfl, rfl, rfl⟩⟩
                case measure => simp [intOf]; omega
            · have k1 := HF.out.flipBad y3 y5 y4 hft (t := at') (x := x) (by omega)
              obtain ⟨dn2, HDN⟩ : ∃ z, Hid (f.d.length = z) := ⟨_, rfl⟩
              rw [HDN.out] at hok
              have HI := hid hi
              have hor : ¬ (0 : Int) ≤ at' ∨ ((0 : Int) ≤ at' ∧ ¬ at' < (dn2 : Int)) ∨ ((0 : Int) ≤ at' ∧ at' < (dn2 : Int) ∧ ¬ (1 : Int) ≤ x) ∨ ((0 : Int) ≤ at' ∧ at' < (dn2 : Int) ∧ (1 : Int) ≤ x ∧ ¬ x ≤ (255 : Int)) := by omega
              clear hft hfl y2 y3 y4 y5 hi hgi hok
              go_wp2_with fail
              refine k1.mono ?_
              rintro e w5 ⟨rfl, H5⟩
              have HO5 := hid (HOM.out.at (H5.out.2 vb HKV.out))
              have d4 := HO5.out.c4
              have d5 := HO5.out.c5
              obtain ⟨ba2, bc2, eb2, hfls⟩ := H5.out.1.fs.fls
              rw [HM.out] at eb2 hfls
              obtain ⟨rfl, rfl⟩ : ba = ba2 ∧ bc = bc2 := by simpa using eb2
              obtain ⟨bb, off2, da2, dc2, dn3, rfl, hdn, z0, z1, z2, hzv⟩ := hfls.at HI.out
              rw [HFE.out] at hdn
              obtain rfl : dn2 = dn3 := HDN.out.symm.trans hdn.symm
              clear k1 c0 c3 c4 c5 z0 z1 hzv hdn hfls eb2
              go_upto_region 31 with fail
              go_cut [14] from 147 to 173 (fun v14 wx => v14 = .bool false ∧ Hid (Drawn w5 wx))
              case first =>
                rcases hor with q1 | ⟨q1, q2⟩ | ⟨q1, q2, q3⟩ | ⟨q1, q2, q3, q4⟩
                · have b1 : decide ((0 : Int) ≤ at') = false := decide_eq_false (by omega)
                  clear q1
                  go_quiet (fail)
                  go_wp2_with fail
                  go_meet
                  exact ⟨rfl, drawnN w5 _⟩
                · have b1 : decide ((0 : Int) ≤ at') = true := decide_eq_true (by omega)
                  have b2 : decide (at' < (dn2 : Int)) = false := decide_eq_false (by omega)
                  clear q1 q2
                  go_quiet (fail)
                  go_wp2_with fail
                  go_meet
                  exact ⟨rfl, drawnN w5 _⟩
                · have b1 : decide ((0 : Int) ≤ at') = true := decide_eq_true (by omega)
                  have b2 : decide (at' < (dn2 : Int)) = true := decide_eq_true (by omega)
                  have b3 : decide ((1 : Int) ≤ x) = false := decide_eq_false (by omega)
                  clear q1 q2 q3
                  go_quiet (fail)
                  go_wp2_with fail
                  go_meet
                  exact ⟨rfl, drawnN w5 _⟩
                · have b1 : decide ((0 : Int) ≤ at') = true := decide_eq_true (by omega)
                  have b2 : decide (at' < (dn2 : Int)) = true := decide_eq_true (by omega)
                  have b3 : decide ((1 : Int) ≤ x) = true := decide_eq_true (by omega)
                  have b4 : decide (x ≤ (255 : Int)) = false := decide_eq_false (by omega)
                  clear q1 q2 q3 q4
                  go_quiet (fail)
                  go_wp2_with fail
                  go_meet
                  exact ⟨rfl, drawnN w5 _⟩
              obtain ⟨rfl, HD5⟩ := hcut
              have H6 := hid (H5.out.1.on HD5.out.below)
              have kn := num_ 2 wc
              clear d4 d5 z2
              go_wp2_with (go_at_call 9; refine kn.mono ?_; rintro e wz ⟨rfl, hwz⟩; subst hwz)
              go_roundw
              case rel => exact ⟨j + 1, _, ds, H, by omega, by omega, by go_num, H6.out.more⟩
              case measure => simp [intOf]; omega
          · have k1 := HF.out.flipNo y3 y5 y4 hfn
            have HYS := hid y2
            clear hfn y2 y3 y4 y5
            go_wp2_with fail
            refine k1.mono ?_
            rintro e w5 ⟨rfl, H5⟩
            clear k1 c0 c3 c4 c5
            go_upto_region 31 with fail
            go_cut [14] from 147 to 173 (fun v14 wx => v14 = .bool false ∧ Hid (Drawn w5 wx))
            case first =>
              go_quiet (fail)
              go_wp2_with fail
              go_meet
              exact ⟨rfl, drawnN w5 _⟩
            obtain ⟨rfl, HD5⟩ := hcut
            have H6 := hid (H5.out.on HD5.out.below)
            have kn := num_ 218 wc
            go_wp2_with (go_at_call 9; refine kn.mono ?_; rintro e wz ⟨rfl, hwz⟩; subst hwz)
            go_roundw
            case rel => exact ⟨j + 1, _, ds, H, by omega, by omega, by go_num, H6.out.more⟩
            case measure => simp [intOf]; omega

      have c0 := HOM.out.c0
      go_wp2_with fail
      go_roundw
      case rel => exact ⟨j + 1, K1, ds, H, by omega, by omega, by go_num, HF.out.more⟩
      case measure => simp [intOf]; omega
end Go.Proofs.Ythflghjmpellpaa
