import Derived.Test.YtgcbfamlediafaaN3
import Derived.Deep.Cut
import Derived.Laws.Tables
namespace Go.Proofs.Ytgcbfamlediafaa
set_option maxRecDepth 100000
open Go.RowKit
set_option linter.unusedVariables false

theorem sizeh : (Try.prog.info? 24).map (·.size) = some 4 := by kernel_rfl
theorem Hm.row {w : World} {g : Nat} {T K G C : Int} (h : Hm w g T K G C) (T' K' G' C' : Int) : Hm (w.setRow g #[.int .i64 T', .int .i64 K', .int .i64 G', .int .u64 C']) g T' K' G' C' := setRow_heap w g _ _ _ _ h
theorem Hm.drew {w : World} {g : Nat} {T K G C : Int} (h : Hm w g T K G C) : Hm w.drew g T K G C := h
theorem wpList_sh {ops : Array Oper} {rest : List Oper} {o : Oper} {a : Act} {w : World} {Q : Exit → Act → World → Prop} (hgd : o.guard = none) (hdst : o.dst = none) (x y : Operand) (ho : o.op = .store 24 x y)
    (g : Nat) (T K G C : Int) (hx : a.eval x = .pointer (some ⟨g, 0, none⟩)) (hy : a.eval y = .agg #[.int .i64 T, .int .i64 K, .int .i64 G, .int .u64 C]) (T0 K0 G0 C0 : Int) (hg : Hm w g T0 K0 G0 C0)
    (h : wpList Try.prog ops Q rest a (w.setRow g #[.int .i64 T, .int .i64 K, .int .i64 G, .int .u64 C])) : wpList Try.prog ops Q (o :: rest) a w := by
  refine wpList_store_row hgd _ x y ho g #[.int .i64 T, .int .i64 K, .int .i64 G, .int .u64 C] hx hy _ _ hg sizeh rfl (by simp [Value.oneCell']) ?_
  rw [hdst]
  exact h
theorem results_h2 {fn : Func} {p u : Tmp} (h : fn.results = #[.cell p 24, .tmp u]) (tmps : Array Value) (w : World) (g : Nat) (T K G C : Int) (x : Value)
    (hp : tmps.getD p undef = .pointer (some ⟨g, 0, none⟩)) (hu : tmps.getD u undef = x) (hg : Hm w g T K G C) :
    (results fn tmps).run Try.prog w = .ok (.tuple #[.agg #[.int .i64 T, .int .i64 K, .int .i64 G, .int .u64 C], x]) w := by
  have hl := run_loadVar_row (P := Try.prog) w g 24 24 #[.int .i64 T, .int .i64 K, .int .i64 G, .int .u64 C] (0, 0) _ hg Try.underlying24 rfl sizeh
  have hp' : tmps[p]?.getD undef = .pointer (some ⟨g, 0, none⟩) := by simpa using hp
  have hu' : tmps[u]?.getD undef = x := by simpa using hu
  simp [results, h, hp', hu', asAddr, hl]
set_option linter.unusedSimpArgs false in
set_option maxHeartbeats 4000000 in
theorem refGetHead_ (a : Option Addr) (n c : Nat) (zs : List Int) (w : World) (hb : Bs w a n zs) (hnc : n ≤ c) (hc : c ≤ maxLen) :
    Calls Try.prog 18 #[.slice a n c] w fun e w' => e = .returned (.tuple #[.agg #[.int .i64 (gZ zs (gT zs)), .int .i64 (gZ zs (gK zs)), .int .i64 (gZ zs (gG zs)), .int .u64 (gZ zs (gC zs))], .int .i64 (gE zs)]) ∧ Below w.heap.size w w' := by
  have B0 := hnew w 0 0 0 0
  have m0 := Hm.new w 0 0 0 0
  unfold maxLen at hc
  have HBAD : Hid (gOk zs = false → Ending.returned (.tuple #[.agg #[.int .i64 0, .int .i64 0, .int .i64 0, .int .u64 0], .int .i64 90]) = .returned (.tuple #[.agg #[.int .i64 (gZ zs (gT zs)), .int .i64 (gZ zs (gK zs)), .int .i64 (gZ zs (gG zs)), .int .u64 (gZ zs (gC zs))], .int .i64 (gE zs)])) := fun h => by
    unfold gZ gE
    rw [h]
    rfl
  have HGD : Hid (∀ T K G C, gT zs = T → gK zs = K → gG zs = G → gC zs = C → gOk zs = true → Ending.returned (.tuple #[.agg #[.int .i64 T, .int .i64 K, .int .i64 G, .int .u64 C], .int .i64 0]) = .returned (.tuple #[.agg #[.int .i64 (gZ zs (gT zs)), .int .i64 (gZ zs (gK zs)), .int .i64 (gZ zs (gG zs)), .int .u64 (gZ zs (gC zs))], .int .i64 (gE zs)])) := fun T K G C e1 e2 e3 e4 h => by
    unfold gZ gE
    rw [h, e1, e2, e3, e4]
    rfl
  by_cases hn : n < 36
  · have HE : Hid (gOk zs = false) := by
      show _ = _
      unfold gOk
      rw [decide_eq_false (by rw [hb.1]; omega), Bool.false_and]
    have hI : (n : Int) < 36 := by omega
    clear hb
    go_enter Try.func18, Try.ntmps18
    go_wp2_with (refine wpList_sh rfl rfl _ _ rfl w.heap.size 0 0 0 0 rfl rfl 0 0 0 0 (by with_reducible exact m0) ?_)
    refine bodyPost_ret (v := .tuple #[.agg #[.int .i64 0, .int .i64 0, .int .i64 0, .int .u64 0], .int .i64 90]) ?_ rfl ⟨HBAD.out HE.out, bel_row B0 (Nat.le_refl _) _⟩
    exact results_h2 rfl _ _ w.heap.size 0 0 0 0 _ rfl rfl (m0.row 0 0 0 0)
  · have hI : ¬ (n : Int) < 36 := by omega
    obtain ⟨hl, hby, hcs⟩ := hb
    obtain ⟨b, off, rfl, hcq⟩ : ∃ b off, a = some ⟨b, off, none⟩ ∧ ∀ i, i < n → w.cell? ⟨b, off + i, none⟩ = some (.int .u8 (zs.getD i 0)) := by
      rcases hcs with h0 | h
      · omega
      · exact h
    have HC := hid hcq
    have HLB : Hid (b < w.heap.size) := World.block_lt_of_cell? w _ (hcq 0 (by omega))
    have HB := hid hby
    have HC0 := hid (hcq 0 (by omega))
    rw [Nat.add_zero] at HC0
    have HBS : Hid (Bs w (some ⟨b, off, none⟩) 20 (zs.take 20)) := ⟨by rw [List.length_take]; omega, fun z hz => HB.out z (List.mem_of_mem_take hz), .inr ⟨b, off, rfl, fun i hi => by
      rw [HC.out i (by omega)]
      simp only [List.getD, List.getElem?_take, if_pos hi]⟩⟩
    have HG : Hid (gOk zs = (hOk (gT zs) (gK zs) (gG zs) (gC zs) && (sameB (hRow (gT zs) (gK zs) (gG zs) (gC zs)) (zs.take 20) && fit (gT zs) ((zs.length : Int) - 36)))) := by
      show _ = _
      unfold gOk
      rw [decide_eq_true (by omega), Bool.true_and]
      rfl
    have HC4 : Hid (∀ (w' : World), Below w.heap.size w w' → ∀ i, i < 4 → w'.cell? ⟨b, off + 4 + i, none⟩ = some (.int .u8 (((zs.drop 4).take 4).getD i 0))) := fun w' hw i hi => by
      rw [Nat.add_assoc, (hw.cell HLB.out).trans (HC.out (4 + i) (by omega))]
      simp only [List.getD, List.getElem?_take, if_pos hi, List.getElem?_drop]
    have k4 := fun w c hc => read_ b (off + 4) 4 c ((zs.drop 4).take 4) w (by rw [List.length_take, List.length_drop]; omega) (by decide) (fun z hz => HB.out z (List.mem_of_mem_drop (List.mem_of_mem_take hz))) hc
    have v4 := val4 HB.out 4 4 (by omega)
    have HC8 : Hid (∀ (w' : World), Below w.heap.size w w' → ∀ i, i < 4 → w'.cell? ⟨b, off + 8 + i, none⟩ = some (.int .u8 (((zs.drop 8).take 4).getD i 0))) := fun w' hw i hi => by
      rw [Nat.add_assoc, (hw.cell HLB.out).trans (HC.out (8 + i) (by omega))]
      simp only [List.getD, List.getElem?_take, if_pos hi, List.getElem?_drop]
    have k8 := fun w c hc => read_ b (off + 8) 4 c ((zs.drop 8).take 4) w (by rw [List.length_take, List.length_drop]; omega) (by decide) (fun z hz => HB.out z (List.mem_of_mem_drop (List.mem_of_mem_take hz))) hc
    have v8 := val4 HB.out 8 4 (by omega)
    have HC12 : Hid (∀ (w' : World), Below w.heap.size w w' → ∀ i, i < 8 → w'.cell? ⟨b, off + 12 + i, none⟩ = some (.int .u8 (((zs.drop 12).take 8).getD i 0))) := fun w' hw i hi => by
      rw [Nat.add_assoc, (hw.cell HLB.out).trans (HC.out (12 + i) (by omega))]
      simp only [List.getD, List.getElem?_take, if_pos hi, List.getElem?_drop]
    have k12 := fun w c hc => read_ b (off + 12) 8 c ((zs.drop 12).take 8) w (by rw [List.length_take, List.length_drop]; omega) (by decide) (fun z hz => HB.out z (List.mem_of_mem_drop (List.mem_of_mem_take hz))) hc
    have v12 := val4 HB.out 12 8 (by omega)
    obtain ⟨t0, t1⟩ := getD_byte7 hby 0
    clear hcs hcq hby
    rw [hl] at HG
    have hc4 : (8 : Int) ≤ (c : Int) := by omega
    have hc8 : (12 : Int) ≤ (c : Int) := by omega
    have hc12 : (20 : Int) ≤ (c : Int) := by omega
    have hn4 : ¬ c = 4 := by omega
    have hn8 : ¬ c = 8 := by omega
    have hn12 : ¬ c = 12 := by omega
    unfold gT gK gG gC at HG
    obtain ⟨T, HT⟩ : ∃ T, Hid (zs.getD 0 0 = T) := ⟨_, rfl⟩
    obtain ⟨K, HK⟩ : ∃ K, Hid (val ((zs.drop 4).take 4) = K) := ⟨_, rfl⟩
    obtain ⟨G, HGG⟩ : ∃ G, Hid (val ((zs.drop 8).take 4) = G) := ⟨_, rfl⟩
    obtain ⟨C, HCC⟩ : ∃ C, Hid (val ((zs.drop 12).take 8) = C) := ⟨_, rfl⟩
    simp only [HT.out, HK.out, HGG.out, HCC.out] at HG t0 t1 HC0 k4 k8 k12 v4 v8 v12
    rw [show (256 : Int) ^ 4 = 4294967296 from by decide] at v4 v8
    rw [show (256 : Int) ^ 8 = 18446744073709551616 from by decide] at v12
    obtain ⟨v4, v4'⟩ := v4
    obtain ⟨v8, v8'⟩ := v8
    obtain ⟨v12, v12'⟩ := v12
    have kp := fun w => refPutHead_ T K G C w ⟨v12, by omega⟩
    have kf := fun w => fits_ T ((n : Int) - 36) w
    go_enter Try.func18, Try.ntmps18
    go_wp2_with fail
    go_cut [4] from 13 (fun v wx => ∃ gp, v = .pointer (some ⟨gp, 0, none⟩) ∧ w.heap.size < gp ∧ Hm wx w.heap.size 0 0 0 0 ∧ Hm wx gp T K G C ∧ Below w.heap.size w wx)
    case first =>
      refine wp_region_held_drew (S := fun wx => Below w.heap.size w wx) (by kernel_rfl) (bel_drew1P B0) (fun hHeld => ?_)
      replace m0 := m0.drew
      replace B0 := bel_drew1P B0
      generalize (w.alloc (.cells #[.int .i64 0, .int .i64 0, .int .i64 0, .int .u64 0] 24)).drew = wd at *
      refine take_toP 0 13 (.slice (some ⟨b, off, none⟩) n c) rfl rfl (by kernel_rfl) (by kernel_rfl) (by kernel_rfl) (fun _ _ _ h => h) (Or.inl ⟨by kernel_rfl, fun w' h => ?_⟩) hHeld ?_
      · go_simp
      try simp only [List.setIfInBounds_toArray, List.set_cons_zero, List.set_cons_succ]
      refine take_toP 1 14 (.pointer (some ⟨b, off, none⟩)) rfl rfl (by kernel_rfl) (by kernel_rfl) (by kernel_rfl) (fun _ _ _ h => h) (Or.inl ⟨by kernel_rfl, fun w' h => ?_⟩) hHeld ?_
      · go_simp
        try (intro h; omega)
      try simp only [List.setIfInBounds_toArray, List.set_cons_zero, List.set_cons_succ]
      refine take_toP 2 15 (.int .u8 T) rfl rfl (by kernel_rfl) (by kernel_rfl) (by kernel_rfl) (fun _ _ _ h => h) (Or.inl ⟨by kernel_rfl, fun w' h => ?_⟩) hHeld ?_
      · have x1 := (Below.cell h HLB.out).trans HC0.out
        go_simp
      try simp only [List.setIfInBounds_toArray, List.set_cons_zero, List.set_cons_succ]
      refine take_toP 3 16 (.int .i64 T) rfl rfl (by kernel_rfl) (by kernel_rfl) (by kernel_rfl) (fun _ _ _ h => h) (Or.inl ⟨by kernel_rfl, fun w' h => ?_⟩) hHeld ?_
      · go_simp
        try (rw [IntKind.wrap_i64]; omega)
      try simp only [List.setIfInBounds_toArray, List.set_cons_zero, List.set_cons_succ]
      refine take_toP 4 17 (.slice (some ⟨b, off, none⟩) n c) rfl rfl (by kernel_rfl) (by kernel_rfl) (by kernel_rfl) (fun _ _ _ h => h) (Or.inl ⟨by kernel_rfl, fun w' h => ?_⟩) hHeld ?_
      · go_simp
      try simp only [List.setIfInBounds_toArray, List.set_cons_zero, List.set_cons_succ]
      refine take_toP 5 18 (.slice (some ⟨b, off + 4, none⟩) 4 (c - 4)) rfl rfl (by kernel_rfl) (by kernel_rfl) (by kernel_rfl) (fun _ _ _ h => h) (Or.inl ⟨by kernel_rfl, fun w' h => ?_⟩) hHeld ?_
      · go_simp
      try simp only [List.setIfInBounds_toArray, List.set_cons_zero, List.set_cons_succ]
      refine take_toP 8 21 (.slice (some ⟨b, off, none⟩) n c) rfl rfl (by kernel_rfl) (by kernel_rfl) (by kernel_rfl) (fun _ _ _ h => h) (Or.inl ⟨by kernel_rfl, fun w' h => ?_⟩) hHeld ?_
      · go_simp
      try simp only [List.setIfInBounds_toArray, List.set_cons_zero, List.set_cons_succ]
      refine take_toP 9 22 (.slice (some ⟨b, off + 8, none⟩) 4 (c - 8)) rfl rfl (by kernel_rfl) (by kernel_rfl) (by kernel_rfl) (fun _ _ _ h => h) (Or.inl ⟨by kernel_rfl, fun w' h => ?_⟩) hHeld ?_
      · go_simp
      try simp only [List.setIfInBounds_toArray, List.set_cons_zero, List.set_cons_succ]
      refine take_toP 12 25 (.slice (some ⟨b, off, none⟩) n c) rfl rfl (by kernel_rfl) (by kernel_rfl) (by kernel_rfl) (fun _ _ _ h => h) (Or.inl ⟨by kernel_rfl, fun w' h => ?_⟩) hHeld ?_
      · go_simp
      try simp only [List.setIfInBounds_toArray, List.set_cons_zero, List.set_cons_succ]
      refine take_toP 13 26 (.slice (some ⟨b, off + 12, none⟩) 8 (c - 12)) rfl rfl (by kernel_rfl) (by kernel_rfl) (by kernel_rfl) (fun _ _ _ h => h) (Or.inl ⟨by kernel_rfl, fun w' h => ?_⟩) hHeld ?_
      · go_simp
      try simp only [List.setIfInBounds_toArray, List.set_cons_zero, List.set_cons_succ]
      refine wpAnyH_ready (rs := [6, 16]) (by kernel_rfl) (by simp) ?_
      refine AllReadyH.cons rfl (fun K' hK' => ?_) (AllReadyH.cons rfl (fun K' hK' => ?_) AllReadyH.nil)
      · rw [if_pos (by kernel_rfl)]
        go_wp2_with fail
        refine (k4 _ _ (HC4.out _ B0)).mono ?_
        rintro e x1 ⟨rfl, g2⟩
        replace m0 := m0.kept g2
        replace B0 := bel_bel B0 B0.size g2
        clear g2 hHeld
        try go_wp2_with fail
        refine hK'.out _ _ B0 (fun hHeld => ?_)
        clear hK' K'
        try simp only [Act.put, List.setIfInBounds_toArray, List.set_cons_zero, List.set_cons_succ]
        refine take_toP 7 20 (.int .i64 K) rfl rfl (by kernel_rfl) (by kernel_rfl) (by kernel_rfl) (fun _ _ _ h => h) (Or.inl ⟨by kernel_rfl, fun w' h => ?_⟩) hHeld ?_
        · go_simp
          try (rw [IntKind.wrap_i64]; omega)
        try simp only [List.setIfInBounds_toArray, List.set_cons_zero, List.set_cons_succ]
        refine wpAnyH_ready (rs := [10, 16]) (by kernel_rfl) (by simp) ?_
        refine AllReadyH.cons rfl (fun K' hK' => ?_) (AllReadyH.cons rfl (fun K' hK' => ?_) AllReadyH.nil)
        · rw [if_pos (by kernel_rfl)]
          go_wp2_with fail
          refine (k8 _ _ (HC8.out _ B0)).mono ?_
          rintro e x2 ⟨rfl, g2⟩
          replace m0 := m0.kept g2
          replace B0 := bel_bel B0 B0.size g2
          clear g2 hHeld
          try go_wp2_with fail
          refine hK'.out _ _ B0 (fun hHeld => ?_)
          clear hK' K'
          try simp only [Act.put, List.setIfInBounds_toArray, List.set_cons_zero, List.set_cons_succ]
          refine take_toP 11 24 (.int .i64 G) rfl rfl (by kernel_rfl) (by kernel_rfl) (by kernel_rfl) (fun _ _ _ h => h) (Or.inl ⟨by kernel_rfl, fun w' h => ?_⟩) hHeld ?_
          · go_simp
            try (rw [IntKind.wrap_i64]; omega)
          try simp only [List.setIfInBounds_toArray, List.set_cons_zero, List.set_cons_succ]
          refine wpAnyH_ready (rs := [14, 16]) (by kernel_rfl) (by simp) ?_
          refine AllReadyH.cons rfl (fun K' hK' => ?_) (AllReadyH.cons rfl (fun K' hK' => ?_) AllReadyH.nil)
          · rw [if_pos (by kernel_rfl)]
            go_wp2_with fail
            refine (k12 _ _ (HC12.out _ B0)).mono ?_
            rintro e x3 ⟨rfl, g2⟩
            replace m0 := m0.kept g2
            replace B0 := bel_bel B0 B0.size g2
            clear g2 hHeld
            try go_wp2_with fail
            refine hK'.out _ _ B0 (fun hHeld => ?_)
            clear hK' K'
            try simp only [Act.put, List.setIfInBounds_toArray, List.set_cons_zero, List.set_cons_succ]
            refine take_toP 15 28 (.agg #[.int .i64 T, .int .i64 K, .int .i64 G, .int .u64 C]) rfl rfl (by kernel_rfl) (by kernel_rfl) (by kernel_rfl) (fun _ _ _ h => h) (Or.inl ⟨by kernel_rfl, fun w' h => ?_⟩) hHeld ?_
            · go_simp
            try simp only [List.setIfInBounds_toArray, List.set_cons_zero, List.set_cons_succ]
            refine wpAnyH_ready (rs := [16]) (by kernel_rfl) (by simp) ?_
            refine AllReadyH.cons rfl (fun K' hK' => ?_) AllReadyH.nil
            rw [if_pos (by kernel_rfl)]
            go_wp2_with fail
            have hgp := m0.lt
            have m1 := Hm.new x3 0 0 0 0
            replace m0 := m0.alloc (.cells #[.int .i64 0, .int .i64 0, .int .i64 0, .int .u64 0] 24)
            replace B0 := B0.alloc B0.size (.cells #[.int .i64 0, .int .i64 0, .int .i64 0, .int .u64 0] 24)
            generalize x3.alloc (.cells #[.int .i64 0, .int .i64 0, .int .i64 0, .int .u64 0] 24) = x4 at *
            generalize x3.heap.size = gp at *
            clear hHeld
            refine hK'.out _ _ B0 (fun hHeld => ?_)
            clear hK' K'
            try simp only [Act.put, List.setIfInBounds_toArray, List.set_cons_zero, List.set_cons_succ]
            refine wpAnyH_ready (rs := [17]) (by kernel_rfl) (by simp) ?_
            refine AllReadyH.cons rfl (fun K' hK' => ?_) AllReadyH.nil
            rw [if_pos (by kernel_rfl)]
            refine wp_store_row _ _ _ rfl gp #[.int .i64 T, .int .i64 K, .int .i64 G, .int .u64 C] rfl rfl _ _ m1 sizeh rfl (by simp [Value.oneCell']) ?_
            replace m0 := m0.at (setRow_other x4 gp w.heap.size #[.int .i64 T, .int .i64 K, .int .i64 G, .int .u64 C] (by omega))
            replace m1 := m1.row T K G C
            replace B0 := bel_row B0 (g := gp) (by omega) #[.int .i64 T, .int .i64 K, .int .i64 G, .int .u64 C]
            clear hHeld
            refine hK'.out _ _ B0 (fun hHeld => ?_)
            clear hK' K'
            try simp only [Act.put, List.setIfInBounds_toArray, List.set_cons_zero, List.set_cons_succ]
            refine wpAnyH_done (by kernel_rfl) ?_ _
            go_wp2_with fail
            go_meet
            case rel => exact ⟨_, rfl, by omega, m0, m1, B0⟩
          · rw [if_pos (by kernel_rfl)]
            go_wp2_with fail
            have hgp := m0.lt
            have m1 := Hm.new x2 0 0 0 0
            replace m0 := m0.alloc (.cells #[.int .i64 0, .int .i64 0, .int .i64 0, .int .u64 0] 24)
            replace B0 := B0.alloc B0.size (.cells #[.int .i64 0, .int .i64 0, .int .i64 0, .int .u64 0] 24)
            generalize x2.alloc (.cells #[.int .i64 0, .int .i64 0, .int .i64 0, .int .u64 0] 24) = x5 at *
            generalize x2.heap.size = gp at *
            clear hHeld
            refine hK'.out _ _ B0 (fun hHeld => ?_)
            clear hK' K'
            try simp only [Act.put, List.setIfInBounds_toArray, List.set_cons_zero, List.set_cons_succ]
            refine wpAnyH_ready (rs := [14]) (by kernel_rfl) (by simp) ?_
            refine AllReadyH.cons rfl (fun K' hK' => ?_) AllReadyH.nil
            rw [if_pos (by kernel_rfl)]
            go_wp2_with fail
            refine (k12 _ _ (HC12.out _ B0)).mono ?_
            rintro e x6 ⟨rfl, g2⟩
            replace m0 := m0.kept g2
            replace m1 := m1.kept g2
            replace B0 := bel_bel B0 B0.size g2
            clear g2 hHeld
            try go_wp2_with fail
            refine hK'.out _ _ B0 (fun hHeld => ?_)
            clear hK' K'
            try simp only [Act.put, List.setIfInBounds_toArray, List.set_cons_zero, List.set_cons_succ]
            refine take_toP 15 28 (.agg #[.int .i64 T, .int .i64 K, .int .i64 G, .int .u64 C]) rfl rfl (by kernel_rfl) (by kernel_rfl) (by kernel_rfl) (fun _ _ _ h => h) (Or.inl ⟨by kernel_rfl, fun w' h => ?_⟩) hHeld ?_
            · go_simp
            try simp only [List.setIfInBounds_toArray, List.set_cons_zero, List.set_cons_succ]
            refine wpAnyH_ready (rs := [17]) (by kernel_rfl) (by simp) ?_
            refine AllReadyH.cons rfl (fun K' hK' => ?_) AllReadyH.nil
            rw [if_pos (by kernel_rfl)]
            refine wp_store_row _ _ _ rfl gp #[.int .i64 T, .int .i64 K, .int .i64 G, .int .u64 C] rfl rfl _ _ m1 sizeh rfl (by simp [Value.oneCell']) ?_
            replace m0 := m0.at (setRow_other x6 gp w.heap.size #[.int .i64 T, .int .i64 K, .int .i64 G, .int .u64 C] (by omega))
            replace m1 := m1.row T K G C
            replace B0 := bel_row B0 (g := gp) (by omega) #[.int .i64 T, .int .i64 K, .int .i64 G, .int .u64 C]
            clear hHeld
            refine hK'.out _ _ B0 (fun hHeld => ?_)
            clear hK' K'
            try simp only [Act.put, List.setIfInBounds_toArray, List.set_cons_zero, List.set_cons_succ]
            refine wpAnyH_done (by kernel_rfl) ?_ _
            go_wp2_with fail
            go_meet
            case rel => exact ⟨_, rfl, by omega, m0, m1, B0⟩
        · rw [if_pos (by kernel_rfl)]
          go_wp2_with fail
          have hgp := m0.lt
          have m1 := Hm.new x1 0 0 0 0
          replace m0 := m0.alloc (.cells #[.int .i64 0, .int .i64 0, .int .i64 0, .int .u64 0] 24)
          replace B0 := B0.alloc B0.size (.cells #[.int .i64 0, .int .i64 0, .int .i64 0, .int .u64 0] 24)
          generalize x1.alloc (.cells #[.int .i64 0, .int .i64 0, .int .i64 0, .int .u64 0] 24) = x7 at *
          generalize x1.heap.size = gp at *
          clear hHeld
          refine hK'.out _ _ B0 (fun hHeld => ?_)
          clear hK' K'
          try simp only [Act.put, List.setIfInBounds_toArray, List.set_cons_zero, List.set_cons_succ]
          refine wpAnyH_ready (rs := [10]) (by kernel_rfl) (by simp) ?_
          refine AllReadyH.cons rfl (fun K' hK' => ?_) AllReadyH.nil
          rw [if_pos (by kernel_rfl)]
          go_wp2_with fail
          refine (k8 _ _ (HC8.out _ B0)).mono ?_
          rintro e x8 ⟨rfl, g2⟩
          replace m0 := m0.kept g2
          replace m1 := m1.kept g2
          replace B0 := bel_bel B0 B0.size g2
          clear g2 hHeld
          try go_wp2_with fail
          refine hK'.out _ _ B0 (fun hHeld => ?_)
          clear hK' K'
          try simp only [Act.put, List.setIfInBounds_toArray, List.set_cons_zero, List.set_cons_succ]
          refine take_toP 11 24 (.int .i64 G) rfl rfl (by kernel_rfl) (by kernel_rfl) (by kernel_rfl) (fun _ _ _ h => h) (Or.inl ⟨by kernel_rfl, fun w' h => ?_⟩) hHeld ?_
          · go_simp
            try (rw [IntKind.wrap_i64]; omega)
          try simp only [List.setIfInBounds_toArray, List.set_cons_zero, List.set_cons_succ]
          refine wpAnyH_ready (rs := [14]) (by kernel_rfl) (by simp) ?_
          refine AllReadyH.cons rfl (fun K' hK' => ?_) AllReadyH.nil
          rw [if_pos (by kernel_rfl)]
          go_wp2_with fail
          refine (k12 _ _ (HC12.out _ B0)).mono ?_
          rintro e x9 ⟨rfl, g2⟩
          replace m0 := m0.kept g2
          replace m1 := m1.kept g2
          replace B0 := bel_bel B0 B0.size g2
          clear g2 hHeld
          try go_wp2_with fail
          refine hK'.out _ _ B0 (fun hHeld => ?_)
          clear hK' K'
          try simp only [Act.put, List.setIfInBounds_toArray, List.set_cons_zero, List.set_cons_succ]
          refine take_toP 15 28 (.agg #[.int .i64 T, .int .i64 K, .int .i64 G, .int .u64 C]) rfl rfl (by kernel_rfl) (by kernel_rfl) (by kernel_rfl) (fun _ _ _ h => h) (Or.inl ⟨by kernel_rfl, fun w' h => ?_⟩) hHeld ?_
          · go_simp
          try simp only [List.setIfInBounds_toArray, List.set_cons_zero, List.set_cons_succ]
          refine wpAnyH_ready (rs := [17]) (by kernel_rfl) (by simp) ?_
          refine AllReadyH.cons rfl (fun K' hK' => ?_) AllReadyH.nil
          rw [if_pos (by kernel_rfl)]
          refine wp_store_row _ _ _ rfl gp #[.int .i64 T, .int .i64 K, .int .i64 G, .int .u64 C] rfl rfl _ _ m1 sizeh rfl (by simp [Value.oneCell']) ?_
          replace m0 := m0.at (setRow_other x9 gp w.heap.size #[.int .i64 T, .int .i64 K, .int .i64 G, .int .u64 C] (by omega))
          replace m1 := m1.row T K G C
          replace B0 := bel_row B0 (g := gp) (by omega) #[.int .i64 T, .int .i64 K, .int .i64 G, .int .u64 C]
          clear hHeld
          refine hK'.out _ _ B0 (fun hHeld => ?_)
          clear hK' K'
          try simp only [Act.put, List.setIfInBounds_toArray, List.set_cons_zero, List.set_cons_succ]
          refine wpAnyH_done (by kernel_rfl) ?_ _
          go_wp2_with fail
          go_meet
          case rel => exact ⟨_, rfl, by omega, m0, m1, B0⟩
      · rw [if_pos (by kernel_rfl)]
        go_wp2_with fail
        have hgp := m0.lt
        have m1 := Hm.new wd 0 0 0 0
        replace m0 := m0.alloc (.cells #[.int .i64 0, .int .i64 0, .int .i64 0, .int .u64 0] 24)
        replace B0 := B0.alloc B0.size (.cells #[.int .i64 0, .int .i64 0, .int .i64 0, .int .u64 0] 24)
        generalize wd.alloc (.cells #[.int .i64 0, .int .i64 0, .int .i64 0, .int .u64 0] 24) = x10 at *
        generalize wd.heap.size = gp at *
        clear hHeld
        refine hK'.out _ _ B0 (fun hHeld => ?_)
        clear hK' K'
        try simp only [Act.put, List.setIfInBounds_toArray, List.set_cons_zero, List.set_cons_succ]
        refine wpAnyH_ready (rs := [6]) (by kernel_rfl) (by simp) ?_
        refine AllReadyH.cons rfl (fun K' hK' => ?_) AllReadyH.nil
        rw [if_pos (by kernel_rfl)]
        go_wp2_with fail
        refine (k4 _ _ (HC4.out _ B0)).mono ?_
        rintro e x11 ⟨rfl, g2⟩
        replace m0 := m0.kept g2
        replace m1 := m1.kept g2
        replace B0 := bel_bel B0 B0.size g2
        clear g2 hHeld
        try go_wp2_with fail
        refine hK'.out _ _ B0 (fun hHeld => ?_)
        clear hK' K'
        try simp only [Act.put, List.setIfInBounds_toArray, List.set_cons_zero, List.set_cons_succ]
        refine take_toP 7 20 (.int .i64 K) rfl rfl (by kernel_rfl) (by kernel_rfl) (by kernel_rfl) (fun _ _ _ h => h) (Or.inl ⟨by kernel_rfl, fun w' h => ?_⟩) hHeld ?_
        · go_simp
          try (rw [IntKind.wrap_i64]; omega)
        try simp only [List.setIfInBounds_toArray, List.set_cons_zero, List.set_cons_succ]
        refine wpAnyH_ready (rs := [10]) (by kernel_rfl) (by simp) ?_
        refine AllReadyH.cons rfl (fun K' hK' => ?_) AllReadyH.nil
        rw [if_pos (by kernel_rfl)]
        go_wp2_with fail
        refine (k8 _ _ (HC8.out _ B0)).mono ?_
        rintro e x12 ⟨rfl, g2⟩
        replace m0 := m0.kept g2
        replace m1 := m1.kept g2
        replace B0 := bel_bel B0 B0.size g2
        clear g2 hHeld
        try go_wp2_with fail
        refine hK'.out _ _ B0 (fun hHeld => ?_)
        clear hK' K'
        try simp only [Act.put, List.setIfInBounds_toArray, List.set_cons_zero, List.set_cons_succ]
        refine take_toP 11 24 (.int .i64 G) rfl rfl (by kernel_rfl) (by kernel_rfl) (by kernel_rfl) (fun _ _ _ h => h) (Or.inl ⟨by kernel_rfl, fun w' h => ?_⟩) hHeld ?_
        · go_simp
          try (rw [IntKind.wrap_i64]; omega)
        try simp only [List.setIfInBounds_toArray, List.set_cons_zero, List.set_cons_succ]
        refine wpAnyH_ready (rs := [14]) (by kernel_rfl) (by simp) ?_
        refine AllReadyH.cons rfl (fun K' hK' => ?_) AllReadyH.nil
        rw [if_pos (by kernel_rfl)]
        go_wp2_with fail
        refine (k12 _ _ (HC12.out _ B0)).mono ?_
        rintro e x13 ⟨rfl, g2⟩
        replace m0 := m0.kept g2
        replace m1 := m1.kept g2
        replace B0 := bel_bel B0 B0.size g2
        clear g2 hHeld
        try go_wp2_with fail
        refine hK'.out _ _ B0 (fun hHeld => ?_)
        clear hK' K'
        try simp only [Act.put, List.setIfInBounds_toArray, List.set_cons_zero, List.set_cons_succ]
        refine take_toP 15 28 (.agg #[.int .i64 T, .int .i64 K, .int .i64 G, .int .u64 C]) rfl rfl (by kernel_rfl) (by kernel_rfl) (by kernel_rfl) (fun _ _ _ h => h) (Or.inl ⟨by kernel_rfl, fun w' h => ?_⟩) hHeld ?_
        · go_simp
        try simp only [List.setIfInBounds_toArray, List.set_cons_zero, List.set_cons_succ]
        refine wpAnyH_ready (rs := [17]) (by kernel_rfl) (by simp) ?_
        refine AllReadyH.cons rfl (fun K' hK' => ?_) AllReadyH.nil
        rw [if_pos (by kernel_rfl)]
        refine wp_store_row _ _ _ rfl gp #[.int .i64 T, .int .i64 K, .int .i64 G, .int .u64 C] rfl rfl _ _ m1 sizeh rfl (by simp [Value.oneCell']) ?_
        replace m0 := m0.at (setRow_other x13 gp w.heap.size #[.int .i64 T, .int .i64 K, .int .i64 G, .int .u64 C] (by omega))
        replace m1 := m1.row T K G C
        replace B0 := bel_row B0 (g := gp) (by omega) #[.int .i64 T, .int .i64 K, .int .i64 G, .int .u64 C]
        clear hHeld
        refine hK'.out _ _ B0 (fun hHeld => ?_)
        clear hK' K'
        try simp only [Act.put, List.setIfInBounds_toArray, List.set_cons_zero, List.set_cons_succ]
        refine wpAnyH_done (by kernel_rfl) ?_ _
        go_wp2_with fail
        go_meet
        case rel => exact ⟨_, rfl, by omega, m0, m1, B0⟩
    case rest =>
      obtain ⟨gp, rfl, hgp, m0, m1, B0⟩ := hcut
      have c0 := m1.c0
      have c1 := m1.c1
      have c2 := m1.c2
      have c3 := m1.c3
      clear k4 k8 k12
      go_wp2_with fail
      refine (kp _).mono ?_
      rintro e w4 ⟨v, rfl, o4, g2⟩
      replace m0 := m0.kept g2
      replace m1 := m1.kept g2
      replace B0 := bel_bel B0 B0.size g2
      obtain ⟨a4, d4, rfl, y4, e4, e5, _⟩ := own_form o4 (hB_byte T K G C)
      have hl4 : (hB T K G C).length ≤ 20 := by rw [hB_length]; split <;> omega
      have ks := same a4 (some ⟨b, off, none⟩) (hB T K G C).length d4 20 c (hB T K G C) (zs.take 20) w4 y4 (HBS.out.below B0) (by unfold maxLen; omega) (by unfold maxLen; omega)
      clear g2 c0 c1 c2 c3 kp o4 y4
      cases hh : hOk T K G C with
      | false =>
        have e1 : hE T K G C = 90 := by unfold hE; rw [hh]; rfl
        have HE : Hid (gOk zs = false) := by
          show _ = _
          rw [HG.out, hh, Bool.false_and]
        rw [e1]
        clear e1 hh HG
        generalize sameB (hB T K G C) (zs.take 20) = q at *
        generalize fit T ((n : Int) - 36) = r at *
        go_wp2_with fail
        refine ks.mono ?_
        rintro e w5 ⟨rfl, nq, rfl⟩
        replace m0 : Hm (w4.drewN nq) w.heap.size 0 0 0 0 := m0
        replace m1 : Hm (w4.drewN nq) gp T K G C := m1
        replace B0 := bel_drawn B0 nq
        generalize w4.drewN nq = w5 at *
        have c0 := m1.c0
        go_wp2_with fail
        refine (kf _).mono ?_
        rintro e w6 ⟨rfl, rfl⟩
        clear c0
        go_wp2_with (refine wpList_sh rfl rfl _ _ rfl w.heap.size 0 0 0 0 rfl rfl 0 0 0 0 (by with_reducible exact m0) ?_)
        refine bodyPost_ret (v := .tuple #[.agg #[.int .i64 0, .int .i64 0, .int .i64 0, .int .u64 0], .int .i64 90]) ?_ rfl ⟨HBAD.out HE.out, bel_row B0 (Nat.le_refl _) _⟩
        exact results_h2 rfl _ _ w.heap.size 0 0 0 0 _ rfl rfl (m0.row 0 0 0 0)
      | true =>
        have e1 : hE T K G C = 0 := by unfold hE; rw [hh]; rfl
        have e2 : hB T K G C = hRow T K G C := by unfold hB; rw [hh]; rfl
        rw [e1]
        rw [e2] at ks hl4 ⊢
        rw [hh, Bool.true_and] at HG
        clear e1 e2 hh
        generalize sameB (hRow T K G C) (zs.take 20) = q at *
        generalize fit T ((n : Int) - 36) = r at *
        go_wp2_with fail
        refine ks.mono ?_
        rintro e w5 ⟨rfl, nq, rfl⟩
        replace m0 : Hm (w4.drewN nq) w.heap.size 0 0 0 0 := m0
        replace m1 : Hm (w4.drewN nq) gp T K G C := m1
        replace B0 := bel_drawn B0 nq
        generalize w4.drewN nq = w5 at *
        have c0 := m1.c0
        go_wp2_with fail
        refine (kf _).mono ?_
        rintro e w6 ⟨rfl, rfl⟩
        clear c0
        cases q with
        | false =>
          have HE : Hid (gOk zs = false) := HG.out
          go_wp2_with (refine wpList_sh rfl rfl _ _ rfl w.heap.size 0 0 0 0 rfl rfl 0 0 0 0 (by with_reducible exact m0) ?_)
          refine bodyPost_ret (v := .tuple #[.agg #[.int .i64 0, .int .i64 0, .int .i64 0, .int .u64 0], .int .i64 90]) ?_ rfl ⟨HBAD.out HE.out, bel_row B0 (Nat.le_refl _) _⟩
          exact results_h2 rfl _ _ w.heap.size 0 0 0 0 _ rfl rfl (m0.row 0 0 0 0)
        | true =>
          cases r with
          | false =>
            have HE : Hid (gOk zs = false) := HG.out
            go_wp2_with (refine wpList_sh rfl rfl _ _ rfl w.heap.size 0 0 0 0 rfl rfl 0 0 0 0 (by with_reducible exact m0) ?_)
            refine bodyPost_ret (v := .tuple #[.agg #[.int .i64 0, .int .i64 0, .int .i64 0, .int .u64 0], .int .i64 90]) ?_ rfl ⟨HBAD.out HE.out, bel_row B0 (Nat.le_refl _) _⟩
            exact results_h2 rfl _ _ w.heap.size 0 0 0 0 _ rfl rfl (m0.row 0 0 0 0)
          | true =>
            have HE := hid (HGD.out T K G C HT.out HK.out HGG.out HCC.out HG.out)
            have c0 := m1.c0
            have c1 := m1.c1
            have c2 := m1.c2
            have c3 := m1.c3
            go_wp2_with (refine wpList_sh rfl rfl _ _ rfl w.heap.size T K G C rfl rfl 0 0 0 0 (by with_reducible exact m0) ?_)
            refine bodyPost_ret (v := .tuple #[.agg #[.int .i64 T, .int .i64 K, .int .i64 G, .int .u64 C], .int .i64 0]) ?_ rfl ⟨HE.out, bel_row B0 (Nat.le_refl _) _⟩
            exact results_h2 rfl _ _ w.heap.size T K G C _ rfl rfl (m0.row _ _ _ _)
end Go.Proofs.Ytgcbfamlediafaa
