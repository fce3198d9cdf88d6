import Derived.Test.YtblcpdffiafgnaaGreatDoorZR
namespace Go.Proofs.YtblcpdffiafgnaaGreatDoor
set_option linter.unusedSimpArgs false
set_option maxRecDepth 100000
open Go.RowKit Go.Shelf
set_option linter.unusedVariables false
set_option linter.unusedSimpArgs false

set_option maxHeartbeats 8000000 in
theorem walKept_ (n : Int) (w : World) (hT : Tab w) (oa : Option Addr) (on oc : Nat) (O : Nat → Ow) (ho : IsOps12 w oa on O) (hon : on ≤ 140737488355328) : Calls Tryz.prog 4 #[.int .i64 n, .slice oa on oc] w fun en w' => en = .returned (.bool true) ∧ Below w.heap.size w w' := by
  have k1 := first_ w hT
  have HT := hid hT
  have HO := hid ho
  clear hT ho
  go_enter Tryz.func4, Tryz.ntmps4
  go_wp2_with fail
  refine k1.mono ?_
  rintro en w1 ⟨rfl, B1⟩
  simp only
  have kb := begins_ n w1 (HT.out.bel B1)
  have HB1 := hid B1
  clear k1 B1
  go_wp2_with fail
  refine kb.mono ?_
  rintro en w2 ⟨t, rfl, T2⟩
  simp only
  obtain ⟨tv0, cm0⟩ := tv_begin (tnN n) (tnN_bd n).1 (tnN_bd n).2
  have ko := opens_ w1 w2 t _ 1 T2 tv0 (by omega)
  have KO := hid (kp_open tv0 cm0 rfl)
  clear kb T2 tv0 cm0
  go_wp2_with fail
  refine ko.mono ?_
  rintro en w3 ⟨rfl, h3⟩
  simp only
  have ks := safes_ w1 w3 t _ 2 h3 KO.out.1 (by omega)
  clear ko h3
  go_wp2_with fail
  refine ks.mono ?_
  rintro en w4 ⟨rfl, h4⟩
  simp only
  have H4 := hid h4
  clear ks h4
  go_wp2_with fail
  go_loopw [5, 7] (fun okv i wr => ∃ (j : Nat) (T : Tp), j ≤ 40 ∧ i = .int .i64 j ∧ okv = .bool true ∧ Kp T (2 * j + 3) ∧ Tw w1 wr t T) (fun _ i _ => 40 - (intOf i).toNat)
  case atStart => exact ⟨0, _, by omega, rfl, rfl, KO.out.2.2.2.2.2.2.2.1, H4.out⟩
  case round =>
    clear KO H4
    obtain ⟨j, T, hj, rfl, rfl, hk, htw⟩ := hrel
    have sz1 := HB1.out.size
    by_cases hlt : j < on ∧ j < 40
    · obtain ⟨h1, h2⟩ := hlt
      have h1I : (j : Int) < (on : Int) := by omega
      have h2I : (j : Int) < 40 := by omega
      obtain ⟨b, off, rfl, hel⟩ : ∃ b off, oa = some ⟨b, off, none⟩ ∧ _ := HO.out.resolve_left (by omega)
      obtain ⟨hrg, hoo⟩ := hel j h1
      have bW : Below w.heap.size w wr := bel_bel HB1.out sz1 htw.bel
      have hrw : wr.rangeAt b (off + j * 11) (O j).cs.toList := fun i v hi => by
        have := hrg i v hi
        exact (bW.cell (p := ⟨b, off + j * 11 + i, none⟩) (World.block_lt_of_cell? _ _ this)).trans this
      obtain ⟨y, hy⟩ : ∃ y, O j = y := ⟨_, rfl⟩
      rw [hy] at hrw hoo
      obtain ⟨BV, GV⟩ := op_var wr y
      have hz : (wr.alloc (.cells opZ 33)).heap[wr.heap.size]? = some (.cells opZ 33 (0, 0)) := World.alloc_heap_new wr _
      obtain ⟨W3, HW3⟩ : ∃ W3, Hid (((wr.alloc (.cells opZ 33)).setRow wr.heap.size y.cs) = W3) := ⟨_, rfl⟩
      rw [HW3.out] at BV GV
      have htw3 := htw.below BV
      have hoo3 := hoo.to (bel_bel bW bW.size BV) sz1
      have hrv := range_of GV
      have c0 : W3.cell? ⟨wr.heap.size, 0, none⟩ = some (.int .i64 y.K) := (cell_of_row _ _ 0 _ _ (0, 0) GV).trans rfl
      have c5 : W3.cell? ⟨wr.heap.size, 5, none⟩ = some (.slice y.ka y.kn y.kc) := (cell_of_row _ _ 5 _ _ (0, 0) GV).trans rfl
      have hsz : (Tryz.prog.info? 33).map (·.size) = some y.cs.toList.length := sizeOp
      have hsz2 : (Tryz.prog.info? 33).map (·.size) = some y.cs.size := sizeOp
      have hsz3 : opZ.size = y.cs.size := rfl
      have hall : y.cs.all (·.oneCell') = true := by simp [Value.oneCell']
      obtain ⟨K, HK⟩ : ∃ K, y.K = K := ⟨_, rfl⟩
      rw [HK] at c0
      obtain ⟨CS, HCS⟩ : ∃ CS, Hid (y.cs = CS) := ⟨_, rfl⟩
      rw [HCS.out] at hrw HW3 hsz hsz2 hsz3 hall hrv
      have hCS : CS.toList.toArray = CS := by simp
      have HRW := hid hrw
      have HRV := hid hrv
      have HTW := hid htw3
      have HKP := hid hk
      have HOO := hid hoo3
      clear hrg hoo hel htw bW hrw hk hrv htw3 hoo3 GV BV
      by_cases k2 : K = 2
      · subst k2
        have ko := opens_ w1 W3 t T (2 * j + 3) HTW.out HKP.out.v (by omega)
        have KO := hid (kp_open HKP.out.v HKP.out.c HKP.out.o)
        clear HRV HTW HKP HOO
        go_wp2_with (first | (with_reducible show wpList _ _ _ (_ :: _) _ _; refine wpList_load_mid rfl 33 _ rfl b (off + j * 11) rfl CS.toList _ HRW.out Tryz.underlying33 rfl hsz ?_; rw [hCS]) | (with_reducible show wpList _ _ _ (_ :: _) _ _; refine wpList_store_row rfl _ _ _ rfl wr.heap.size CS rfl rfl _ _ hz hsz2 hsz3 hall ?_; rw [HW3.out]))
        refine ko.mono ?_
        rintro en w4 ⟨rfl, h4⟩
        simp only
        obtain ⟨v1, v2, v3, v4, z3, z4, z8, z9, kS⟩ := h4.ts
        have C3 := hid z3
        have C4 := hid z4
        have C8 := hid z8
        have C9 := hid z9
        rw [decide_eq_true KO.out.2.2.2.2.2.1] at kS
        have KS := hid kS
        have H4 := hid h4
        clear ko h4 z3 z4 z8 z9 kS
        go_wp2_with fail
        refine wp_quietC (Bw w4) (by kernel_rfl) (by kernel_rfl) (Bw.drew w4) ?_
        repeat (first | go_big_quiet_skip | (go_big_quiet_want; go_big_quiet_op; first | go_big_quiet_on | (apply Exists.intro; refine ⟨fun wq hq => ?_, ?_⟩; (· first | (with_reducible rfl) | (go_at_call 14; exact KS.out _ hq) | (have q3 := hq.cell C3.out; have q4 := hq.cell C4.out; have q8 := hq.cell C8.out; have q9 := hq.cell C9.out; go_simp; rfl) | rfl); go_big_quiet_on)))
        refine wpQuiet_nil ?_
        intro w5 s5
        have h5 := H4.out.below s5
        obtain ⟨g5, d1⟩ := h5.c1 KO.out.1 KO.out.2.2.1
        have ks := safes_ w1 w5 t _ _ h5 KO.out.1 (by omega)
        clear C3 C4 C8 C9 KS H4 h5 s5
        go_wp2_with fail
        refine ks.mono ?_
        rintro en w6 ⟨rfl, h6⟩
        simp only
        have H6 := hid h6
        clear ks h6
        go_wp2_with fail
        go_roundw
        case rel => exact ⟨j + 1, _, by omega, by go_num, rfl, KO.out.2.2.2.2.2.2.2.1.up (by omega), H6.out⟩
        case measure => simp [intOf]; omega
      by_cases k10 : K = 10
      · subst k10
        have kc := tcrash_ w1 W3 t T (2 * j + 3) HTW.out HKP.out.v (by omega) y.ka y.kn y.kc y.ks HOO.out.hk HOO.out.hkq HOO.out.hkn
        have v1 := HKP.out.v.crash y.ks
        have KO := hid (kp_open v1 (calm_crash T y.ks) HKP.out.o)
        clear HRV HTW HKP HOO
        go_wp2_with (first | (with_reducible show wpList _ _ _ (_ :: _) _ _; refine wpList_load_mid rfl 33 _ rfl b (off + j * 11) rfl CS.toList _ HRW.out Tryz.underlying33 rfl hsz ?_; rw [hCS]) | (with_reducible show wpList _ _ _ (_ :: _) _ _; refine wpList_store_row rfl _ _ _ rfl wr.heap.size CS rfl rfl _ _ hz hsz2 hsz3 hall ?_; rw [HW3.out]))
        refine kc.mono ?_
        rintro en w3 ⟨rfl, h3⟩
        simp only
        have ko := opens_ w1 w3 t _ (2 * j + 3) h3 v1 (by omega)
        clear kc h3
        go_wp2_with fail
        refine ko.mono ?_
        rintro en w4 ⟨rfl, h4⟩
        simp only
        obtain ⟨v1, v2, v3, v4, z3, z4, z8, z9, kS⟩ := h4.ts
        have C3 := hid z3
        have C4 := hid z4
        have C8 := hid z8
        have C9 := hid z9
        rw [decide_eq_true KO.out.2.2.2.2.2.1] at kS
        have KS := hid kS
        have H4 := hid h4
        clear ko h4 z3 z4 z8 z9 kS
        go_wp2_with fail
        refine wp_quietC (Bw w4) (by kernel_rfl) (by kernel_rfl) (Bw.drew w4) ?_
        repeat (first | go_big_quiet_skip | (go_big_quiet_want; go_big_quiet_op; first | go_big_quiet_on | (apply Exists.intro; refine ⟨fun wq hq => ?_, ?_⟩; (· first | (with_reducible rfl) | (go_at_call 14; exact KS.out _ hq) | (have q3 := hq.cell C3.out; have q4 := hq.cell C4.out; have q8 := hq.cell C8.out; have q9 := hq.cell C9.out; go_simp; rfl) | rfl); go_big_quiet_on)))
        refine wpQuiet_nil ?_
        intro w5 s5
        have h5 := H4.out.below s5
        obtain ⟨g5, d1⟩ := h5.c1 KO.out.1 KO.out.2.2.1
        have ks := safes_ w1 w5 t _ _ h5 KO.out.1 (by omega)
        clear C3 C4 C8 C9 KS H4 h5 s5
        go_wp2_with fail
        refine ks.mono ?_
        rintro en w6 ⟨rfl, h6⟩
        simp only
        have H6 := hid h6
        clear ks h6
        go_wp2_with fail
        go_roundw
        case rel => exact ⟨j + 1, _, by omega, by go_num, rfl, KO.out.2.2.2.2.2.2.2.1.up (by omega), H6.out⟩
        case measure => simp [intOf]; omega
      by_cases k3 : K = 9 ∨ K = 3
      · have HF := hid (And.intro (HKP.out.up (show 2 * j + 3 ≤ 2 * (j + 1) + 3 by omega)) HTW.out)
        clear HRV HTW HKP HOO
        rcases k3 with rfl | rfl
        · go_wp2_with (first | (with_reducible show wpList _ _ _ (_ :: _) _ _; refine wpList_load_mid rfl 33 _ rfl b (off + j * 11) rfl CS.toList _ HRW.out Tryz.underlying33 rfl hsz ?_; rw [hCS]) | (with_reducible show wpList _ _ _ (_ :: _) _ _; refine wpList_store_row rfl _ _ _ rfl wr.heap.size CS rfl rfl _ _ hz hsz2 hsz3 hall ?_; rw [HW3.out]))
          go_roundw
          case rel => exact ⟨j + 1, _, by omega, by go_num, rfl, HF.out.1, HF.out.2⟩
          case measure => simp [intOf]; omega
        · go_wp2_with (first | (with_reducible show wpList _ _ _ (_ :: _) _ _; refine wpList_load_mid rfl 33 _ rfl b (off + j * 11) rfl CS.toList _ HRW.out Tryz.underlying33 rfl hsz ?_; rw [hCS]) | (with_reducible show wpList _ _ _ (_ :: _) _ _; refine wpList_store_row rfl _ _ _ rfl wr.heap.size CS rfl rfl _ _ hz hsz2 hsz3 hall ?_; rw [HW3.out]))
          go_roundw
          case rel => exact ⟨j + 1, _, by omega, by go_num, rfl, HF.out.1, HF.out.2⟩
          case measure => simp [intOf]; omega
      · have g2 : (K == 2) = false := by simp; omega
        have g3 : (K == 3) = false := by simp; omega
        have g9 : (K == 9) = false := by simp; omega
        have g10 : (K == 10) = false := by simp; omega
        have ks := step_ w1 W3 t T (2 * j + 3) y HTW.out HKP.out.v (by omega) HOO.out
        rw [HCS.out] at ks
        have hnx : Hid (∀ T', Ts y.K y.dat y.fs y.ks T T' → Kp T' (2 * (j + 1) + 3)) := fun T' hts => by
          rw [HK] at hts
          exact (HKP.out.step (by omega) hts k2 (by omega) (by omega) k10).up (by omega)
        clear HTW HKP HOO k2 k10 k3
        go_wp2_with (first | (with_reducible show wpList _ _ _ (_ :: _) _ _; refine wpList_load_mid rfl 33 _ rfl b (off + j * 11) rfl CS.toList _ HRW.out Tryz.underlying33 rfl hsz ?_; rw [hCS]) | (with_reducible show wpList _ _ _ (_ :: _) _ _; refine wpList_store_row rfl _ _ _ rfl wr.heap.size CS rfl rfl _ _ hz hsz2 hsz3 hall ?_; rw [HW3.out]) | (with_reducible show wpList _ _ _ (_ :: _) _ _; refine wpList_load_mid rfl 33 _ rfl wr.heap.size 0 rfl CS.toList _ HRV.out Tryz.underlying33 rfl hsz ?_; rw [hCS]))
        refine ks.mono ?_
        rintro en w4 ⟨rfl, T', hts, htw'⟩
        simp only
        have hk' := hnx.out T' hts
        have d5 := htw'.c5
        rw [hk'.o] at d5
        have HN := hid (And.intro hk' htw')
        clear ks hts htw' hk' hnx
        go_wp2_with fail
        go_roundw
        case rel => exact ⟨j + 1, T', by omega, by go_num, rfl, HN.out.1, HN.out.2⟩
        case measure => simp [intOf]; omega
    · by_cases h1 : j < on
      · have h1I : (j : Int) < (on : Int) := by omega
        have h2I : ¬ (j : Int) < 40 := fun q => hlt ⟨h1, by omega⟩
        have kc := crash0_ w1 wr t T (2 * j + 3) htw hk.v (by omega)
        have v1 := hk.v.crash ([] : List Bool)
        have KO := hid (kp_open v1 (calm_crash T []) hk.o)
        clear htw hk
        go_wp2_with fail
        refine kc.mono ?_
        rintro en w3 ⟨rfl, h3⟩
        simp only
        have ko := opens_ w1 w3 t _ (2 * j + 3) h3 v1 (by omega)
        clear kc h3
        go_wp2_with fail
        refine ko.mono ?_
        rintro en w4 ⟨rfl, h4⟩
        simp only
        obtain ⟨v1, v2, v3, v4, z3, z4, z8, z9, kS⟩ := h4.ts
        have C3 := hid z3
        have C4 := hid z4
        have C8 := hid z8
        have C9 := hid z9
        rw [decide_eq_true KO.out.2.2.2.2.2.1] at kS
        have KS := hid kS
        have H4 := hid h4
        clear ko h4 z3 z4 z8 z9 kS
        go_wp2_with fail
        refine wp_quietC (Bw w4) (by kernel_rfl) (by kernel_rfl) (Bw.drew w4) ?_
        repeat (first | go_big_quiet_skip | (go_big_quiet_want; go_big_quiet_op; first | go_big_quiet_on | (apply Exists.intro; refine ⟨fun wq hq => ?_, ?_⟩; (· first | (with_reducible rfl) | (go_at_call 14; exact KS.out _ hq) | (have q3 := hq.cell C3.out; have q4 := hq.cell C4.out; have q8 := hq.cell C8.out; have q9 := hq.cell C9.out; go_simp; rfl) | rfl); go_big_quiet_on)))
        refine wpQuiet_nil ?_
        intro w5 s5
        have HF := hid (bel_bel HB1.out sz1 (H4.out.below s5).bel)
        clear C3 C4 C8 C9 KS H4 s5
        go_wp2_with fail
        go_ret
        exact ⟨rfl, HF.out⟩
      · have h1I : ¬ (j : Int) < (on : Int) := by omega
        have kc := crash0_ w1 wr t T (2 * j + 3) htw hk.v (by omega)
        have v1 := hk.v.crash ([] : List Bool)
        have KO := hid (kp_open v1 (calm_crash T []) hk.o)
        clear htw hk
        go_wp2_with fail
        refine kc.mono ?_
        rintro en w3 ⟨rfl, h3⟩
        simp only
        have ko := opens_ w1 w3 t _ (2 * j + 3) h3 v1 (by omega)
        clear kc h3
        go_wp2_with fail
        refine ko.mono ?_
        rintro en w4 ⟨rfl, h4⟩
        simp only
        obtain ⟨v1, v2, v3, v4, z3, z4, z8, z9, kS⟩ := h4.ts
        have C3 := hid z3
        have C4 := hid z4
        have C8 := hid z8
        have C9 := hid z9
        rw [decide_eq_true KO.out.2.2.2.2.2.1] at kS
        have KS := hid kS
        have H4 := hid h4
        clear ko h4 z3 z4 z8 z9 kS
        go_wp2_with fail
        refine wp_quietC (Bw w4) (by kernel_rfl) (by kernel_rfl) (Bw.drew w4) ?_
        repeat (first | go_big_quiet_skip | (go_big_quiet_want; go_big_quiet_op; first | go_big_quiet_on | (apply Exists.intro; refine ⟨fun wq hq => ?_, ?_⟩; (· first | (with_reducible rfl) | (go_at_call 14; exact KS.out _ hq) | (have q3 := hq.cell C3.out; have q4 := hq.cell C4.out; have q8 := hq.cell C8.out; have q9 := hq.cell C9.out; go_simp; rfl) | rfl); go_big_quiet_on)))
        refine wpQuiet_nil ?_
        intro w5 s5
        have HF := hid (bel_bel HB1.out sz1 (H4.out.below s5).bel)
        clear C3 C4 C8 C9 KS H4 s5
        go_wp2_with fail
        go_ret
        exact ⟨rfl, HF.out⟩
end Go.Proofs.YtblcpdffiafgnaaGreatDoor
