import Derived.Test.YtblcpdffiafgnaaGreatDoorZK
namespace Go.Proofs.YtblcpdffiafgnaaGreatDoor
set_option linter.unusedSimpArgs false
set_option maxRecDepth 100000
open Go.RowKit Go.Shelf
set_option linter.unusedVariables false
set_option linter.unusedSimpArgs false

set_option maxHeartbeats 8000000 in
theorem walWhole_ (n : Int) (w : World) (hT : Tab w) (oa : Option Addr) (on oc : Nat) (O : Nat → Ow) (ho : IsOps12 w oa on O) (hon : on ≤ 140737488355328) : Calls Tryz.prog 3 #[.int .i64 n, .slice oa on oc] w fun en w' => en = .returned (.bool true) ∧ Below w.heap.size w w' := by
  have k1 := first_ w hT
  have HT := hid hT
  have HO := hid ho
  clear hT ho
  go_enter Tryz.func3, Tryz.ntmps3
  go_wp2_with fail
  refine k1.mono ?_
  rintro en w1 ⟨rfl, B1⟩
  simp only
  have kb := begins_ n w1 (HT.out.bel B1)
  have HB1 := hid B1
  clear k1 B1
  go_wp2_with fail
  refine kb.mono ?_
  rintro en w2 ⟨t, rfl, T2⟩
  simp only
  have HT2 := hid T2
  have tv0 := hid (tv_begin (tnN n) (tnN_bd n).1 (tnN_bd n).2).1
  clear kb T2
  go_wp2_with fail
  go_loopw [5, 7] (fun okv i wr => ∃ (j : Nat) (T : Tp), j ≤ 60 ∧ i = .int .i64 j ∧ okv = .bool true ∧ Tv T (j + 1) ∧ Tw w1 wr t T) (fun _ i _ => 60 - (intOf i).toNat)
  case atStart => exact ⟨0, _, by omega, rfl, rfl, tv0.out, HT2.out⟩
  case round =>
    obtain ⟨j, T, hj, rfl, rfl, hv, htw⟩ := hrel
    have sz1 := HB1.out.size
    by_cases hlt : j < on ∧ j < 60
    · obtain ⟨h1, h2⟩ := hlt
      have h1I : (j : Int) < (on : Int) := by omega
      have h2I : (j : Int) < 60 := by omega
      obtain ⟨b, off, rfl, hel⟩ : ∃ b off, oa = some ⟨b, off, none⟩ ∧ _ := HO.out.resolve_left (by omega)
      obtain ⟨hrg, hoo⟩ := hel j h1
      have bW : Below w.heap.size w wr := bel_bel HB1.out sz1 htw.bel
      have hrw : wr.rangeAt b (off + j * 11) (O j).cs.toList := fun i v hi => by
        have := hrg i v hi
        exact (bW.cell (p := ⟨b, off + j * 11 + i, none⟩) (World.block_lt_of_cell? _ _ this)).trans this
      have ks := step_ w1 wr t T (j + 1) (O j) htw hv (by omega) (hoo.to bW sz1)
      have HRW := hid hrw
      have HV := hid hv
      clear hrg hoo hel htw bW hv hrw
      obtain ⟨CS, HCS⟩ : ∃ CS, Hid ((O j).cs = CS) := ⟨_, rfl⟩
      rw [HCS.out] at ks HRW
      have hCS : CS.toList.toArray = CS := by simp
      have hsz : (Tryz.prog.info? 33).map (·.size) = some CS.toList.length := by rw [sizeOp, ← HCS.out]; rfl
      go_wp2_with (with_reducible show wpList _ _ _ (_ :: _) _ _; refine wpList_load_mid rfl 33 _ rfl b (off + j * 11) rfl CS.toList _ HRW.out Tryz.underlying33 rfl hsz ?_; rw [hCS])
      refine ks.mono ?_
      rintro en w3 ⟨rfl, T', hts, htw'⟩
      simp only
      have HN := hid (And.intro (hts.tv HV.out (by omega)) htw')
      clear ks hts htw' HRW
      go_wp2_with fail
      go_roundw
      case rel => exact ⟨j + 1, T', by omega, by go_num, rfl, HN.out.1, HN.out.2⟩
      case measure => simp [intOf]; omega
    · have kc := crash0_ w1 wr t T (j + 1) htw hv (by omega)
      have HV := hid hv
      clear htw hv
      have fin : Hid (∀ wz, Tw w1 wz t (sfT (opT (crT T []))) → (∃ g, wz.cell? ⟨t, 1, none⟩ = some (.pointer (some ⟨g, 0, none⟩))) ∧ wz.cell? ⟨t, 2, none⟩ = some (.bool true)) := fun wz hz => by
        have v1 := HV.out.crash ([] : List Bool)
        have v2 := v1.opens
        obtain ⟨c1, ep, nx, pl, e1⟩ := calm_opens v1 (calm_crash T [])
        obtain ⟨e2, c2⟩ := calm_safes c1 (by rw [e1]; simp) (opT_s _).2.1
        have v3 := v2.safes
        rw [e2] at hz v3
        obtain ⟨d, g, l, Q, R, s1, x1, s2, x2, s3, x3, H⟩ := hz
        obtain ⟨p1, p2, _⟩ := v3.pl (ep := ep) (nx := nx) (pl := pl) e1
        obtain ⟨q1, _⟩ := H.wq (ep := ep) (nx := nx) (pl := pl) e1 p2
        subst q1
        exact ⟨⟨g, H.tn.cell 1⟩, H.tn.cell 2⟩
      by_cases h1 : j < on
      · have h1I : (j : Int) < (on : Int) := by omega
        have h2I : ¬ (j : Int) < 60 := fun q => hlt ⟨h1, by omega⟩
        go_wp2_with fail
        refine kc.mono ?_
        rintro en w3 ⟨rfl, h3⟩
        simp only
        have ko := opens_ w1 w3 t _ (j + 1) h3 (HV.out.crash _) (by omega)
        clear kc h3
        go_wp2_with fail
        refine ko.mono ?_
        rintro en w4 ⟨rfl, h4⟩
        simp only
        have ks := safes_ w1 w4 t _ (j + 2) h4 (HV.out.crash _).opens (by omega)
        clear ko h4
        go_wp2_with fail
        refine ks.mono ?_
        rintro en w5 ⟨rfl, h5⟩
        simp only
        obtain ⟨⟨g, c1⟩, c2⟩ := fin.out w5 h5
        have HF := hid (bel_bel HB1.out sz1 h5.bel)
        clear ks h5 fin
        go_wp2_with fail
        go_ret
        exact ⟨rfl, HF.out⟩
      · have h1I : ¬ (j : Int) < (on : Int) := by omega
        go_wp2_with fail
        refine kc.mono ?_
        rintro en w3 ⟨rfl, h3⟩
        simp only
        have ko := opens_ w1 w3 t _ (j + 1) h3 (HV.out.crash _) (by omega)
        clear kc h3
        go_wp2_with fail
        refine ko.mono ?_
        rintro en w4 ⟨rfl, h4⟩
        simp only
        have ks := safes_ w1 w4 t _ (j + 2) h4 (HV.out.crash _).opens (by omega)
        clear ko h4
        go_wp2_with fail
        refine ks.mono ?_
        rintro en w5 ⟨rfl, h5⟩
        simp only
        obtain ⟨⟨g, c1⟩, c2⟩ := fin.out w5 h5
        have HF := hid (bel_bel HB1.out sz1 h5.bel)
        clear ks h5 fin
        go_wp2_with fail
        go_ret
        exact ⟨rfl, HF.out⟩
end Go.Proofs.YtblcpdffiafgnaaGreatDoor
