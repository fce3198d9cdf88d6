import Derived.Test.YtknjokmoommdeabGreatDoorP17
namespace Go.Proofs.YtknjokmoommdeabGreatDoor
set_option maxRecDepth 100000
open Go.RowKit
set_option linter.unusedVariables false
set_option linter.unusedSimpArgs false

theorem tp_lt (F H L B : Int) : ∀ x ∈ tp F H L B, x < 256 := by
  intro x hx
  unfold tp at hx
  split at hx
  · rcases List.mem_append.1 hx with h | h
    · exact ta_lt _ _ _ x h
    · rcases List.mem_cons.1 h with rfl | h
      · decide
      · have := dl_digit _ _ x h
        omega
  · cases hx
/-- What Parse answers. -/
def x0 (l : List Nat) : List Nat := (cu 47 l).getD 0 []
def x1 (l : List Nat) : List Nat := (cu 47 l).getD 1 []
def rT (l : List Nat) : List Nat := tp (aF (x0 l)) (aH (x0 l)) (aL (x0 l)) (nm 10 (x1 l))
def pk (l : List Nat) : Bool := decide (l.length ≤ 43 ∧ (cu 47 l).length = 2 ∧ aE (x0 l) = 0 ∧ rT l = l)
def rF (l : List Nat) : Int := if pk l then aF (x0 l) else 0
def rH (l : List Nat) : Int := if pk l then aH (x0 l) else 0
def rL (l : List Nat) : Int := if pk l then aL (x0 l) else 0
def rB (l : List Nat) : Int := if pk l then nm 10 (x1 l) else 0
def rE (l : List Nat) : Int := if pk l then 0 else 70
theorem r_bad {l : List Nat} (h : pk l = false) : 0 = rF l ∧ 0 = rH l ∧ 0 = rL l ∧ 0 = rB l ∧ 70 = rE l := by unfold rF rH rL rB rE; rw [h]; exact ⟨rfl, rfl, rfl, rfl, rfl⟩
theorem r_good {l : List Nat} (h : pk l = true) : aF (x0 l) = rF l ∧ aH (x0 l) = rH l ∧ aL (x0 l) = rL l ∧ nm 10 (x1 l) = rB l ∧ 0 = rE l := by unfold rF rH rL rB rE; rw [h]; exact ⟨rfl, rfl, rfl, rfl, rfl⟩
theorem ret_r {a b c d e a' b' c' d' e' : Int} (h : a = a' ∧ b = b' ∧ c = c' ∧ d = d' ∧ e = e') : Ending.returned (.tuple #[.agg #[.int .i64 a, .int .u64 b, .int .u64 c, .int .i64 d], .int .i64 e]) = .returned (.tuple #[.agg #[.int .i64 a', .int .u64 b', .int .u64 c', .int .i64 d'], .int .i64 e']) := by rw [h.1, h.2.1, h.2.2.1, h.2.2.2.1, h.2.2.2.2]
theorem a_in (l : List Nat) : InU (aH l) ∧ InU (aL l) := by
  have h := g_in l
  have h0 : InU 0 := by unfold InU; omega
  unfold aH aL
  cases ak l
  · exact ⟨h0, h0⟩
  · exact h
theorem results_p2 {fn : Func} {p u : Tmp} (h : fn.results = #[.cell p 31, .tmp u]) (tmps : Array Value) (w : World) (g : Nat) (F H L B : Int) (x : Value)
    (hp : tmps.getD p undef = .pointer (some ⟨g, 0, none⟩)) (hu : tmps.getD u undef = x) (hg : Pm w g F H L B) :
    (results fn tmps).run Tryz.prog w = .ok (.tuple #[.agg #[.int .i64 F, .int .u64 H, .int .u64 L, .int .i64 B], x]) w := by
  have hl := run_loadVar_row (P := Tryz.prog) w g 31 31 #[.int .i64 F, .int .u64 H, .int .u64 L, .int .i64 B] (0, 0) _ hg Tryz.underlying31 rfl sizep
  have hp' : tmps[p]?.getD undef = .pointer (some ⟨g, 0, none⟩) := by simpa using hp
  have hu' : tmps[u]?.getD undef = x := by simpa using hu
  simp [results, h, hp', hu', asAddr, hl]
set_option maxHeartbeats 1000000 in
theorem refParse_ (l : List Nat) (w : World) (hy : ∀ x ∈ l, x < 256) (hlen : l.length ≤ maxLen) (hT : Tb w) :
    Calls Tryz.prog 9 #[.string (sb l)] w fun e w' => e = .returned (.tuple #[.agg #[.int .i64 (rF l), .int .u64 (rH l), .int .u64 (rL l), .int .i64 (rB l)], .int .i64 (rE l)]) ∧ Below w.heap.size w w' := by
  have B0 := pnew w 0 0 0 0
  have m0 := Pm.new w 0 0 0 0
  have hs := sb_size l
  have hmx := hlen
  unfold maxLen at hlen
  by_cases h43 : l.length ≤ 43
  · have k1 := fun w => refParts_ l 47 w hy (by omega) (by decide)
    have k2 := fun w hT => refParseAddr_ (x0 l) w (cu_lt 47 l hy 0) (Nat.le_trans (cu_short 47 l 0) hmx) hT
    have k3 := fun w => refNumber10_ (x1 l) w (cu_lt 47 l hy 1) (Nat.le_trans (cu_short 47 l 1) hmx)
    obtain ⟨g1, g2⟩ := a_in (x0 l)
    have hnm := nm_in 10 (by decide) (by decide) (x1 l)
    have k4 := fun w hT => refPrint_ (aF (x0 l)) (aH (x0 l)) (aL (x0 l)) (nm 10 (x1 l)) w g1 g2 (by unfold InI; omega) hT
    have HI : Hid (sb (rT l) = sb l → rT l = l) := fun h => sb_inj (tp_lt _ _ _ _) hy h
    have HJ : Hid (rT l = l → sb (rT l) = sb l) := fun h => by rw [h]
    have HK : Hid (pk l = decide (l.length ≤ 43 ∧ (cu 47 l).length = 2 ∧ aE (x0 l) = 0 ∧ rT l = l)) := rfl
    have HG := hid (r_good (l := l))
    have HB := hid (r_bad (l := l))
    have hp := cu_pos 47 l
    have hx : ∀ w g, Tx w g (cu 47 l) → (cu 47 l).length = 2 → w.cell? ⟨g, 0, none⟩ = some (.string (sb (x0 l))) ∧ w.cell? ⟨g, 1, none⟩ = some (.string (sb (x1 l))) := fun w g h e => ⟨h.cell 0 (by omega), h.cell 1 (by omega)⟩
    rw [show tp (aF (x0 l)) (aH (x0 l)) (aL (x0 l)) (nm 10 (x1 l)) = rT l from rfl] at k4
    have HE01 : Hid (aE (x0 l) = 0 ∨ aE (x0 l) = 70) := by show _ ∨ _; unfold aE; cases ak (x0 l) <;> simp
    obtain ⟨S, HS⟩ : ∃ S, Hid (sb l = S) := ⟨_, rfl⟩
    rw [HS.out] at HI HJ hs ⊢
    simp only [HS.out] at k1
    obtain ⟨P, HP⟩ : ∃ P, Hid (sb (rT l) = P) := ⟨_, rfl⟩
    rw [HP.out] at HI HJ
    simp only [HP.out] at k4
    obtain ⟨F, HF⟩ : ∃ F, Hid (aF (x0 l) = F) := ⟨_, rfl⟩
    obtain ⟨H, HH⟩ : ∃ H, Hid (aH (x0 l) = H) := ⟨_, rfl⟩
    obtain ⟨L, HL⟩ : ∃ L, Hid (aL (x0 l) = L) := ⟨_, rfl⟩
    obtain ⟨E, HEE⟩ : ∃ E, Hid (aE (x0 l) = E) := ⟨_, rfl⟩
    obtain ⟨B, HBB⟩ : ∃ B, Hid (nm 10 (x1 l) = B) := ⟨_, rfl⟩
    rw [HF.out, HH.out, HL.out, HBB.out] at HG
    rw [HEE.out] at HK HE01
    rw [HBB.out] at hnm
    simp only [HF.out, HH.out, HL.out, HEE.out, HBB.out] at k2 k3 k4
    obtain ⟨T0, HT0⟩ : ∃ T, Hid (sb (x0 l) = T) := ⟨_, rfl⟩
    obtain ⟨T1, HT1⟩ : ∃ T, Hid (sb (x1 l) = T) := ⟨_, rfl⟩
    simp only [HT0.out] at k2 hx
    simp only [HT1.out] at k3 hx
    obtain ⟨n, HN⟩ : ∃ n, Hid (l.length = n) := ⟨_, rfl⟩
    rw [HN.out] at hs hlen
    have dn : decide ((43 : Int) < (n : Int)) = false := by have := HN.out; simp; omega
    clear g1 g2 hy hmx
    go_enter Tryz.func9, Tryz.ntmps9
    go_wp2_with fail
    refine (k1 _).mono ?_
    rintro e w1 ⟨v, rfl, ho, g2⟩
    replace m0 := m0.kept g2
    replace B0 := bel_bel B0 B0.size g2
    obtain ⟨gl, cl, rfl, h1, hcl, hgl, ht⟩ := own_texts ho hp
    unfold maxLen at hcl
    clear ho k1 g2 hgl
    generalize cu 47 l = ls at *
    by_cases h2 : ls.length = 2
    · obtain ⟨t0, t1⟩ := hx _ _ ht h2
      rw [h2] at h1 ⊢
      go_wp2_with fail
      refine (k2 _ (hT.kept B0)).mono ?_
      rintro e w2 ⟨rfl, g2⟩
      replace m0 := m0.kept g2
      replace ht := ht.kept g2
      replace B0 := bel_bel B0 B0.size g2
      clear g2 k2 t0 t1
      have hw0 := B0.size
      have ma := Am.new w2 F H L
      replace m0 := m0.alloc (.cells #[.int .i64 F, .int .u64 H, .int .u64 L] 24)
      replace ht := ht.kept ((Below.refl _ _).alloc (Nat.le_refl _) (.cells #[.int .i64 F, .int .u64 H, .int .u64 L] 24))
      replace B0 := B0.alloc B0.size (.cells #[.int .i64 F, .int .u64 H, .int .u64 L] 24)
      go_wp2_with fail
      go_cut [7] from 26 (fun v wx => ∃ gp, v = .pointer (some ⟨gp, 0, none⟩) ∧ w.heap.size < gp ∧ Pm wx w.heap.size 0 0 0 0 ∧ Pm wx gp F H L B ∧ Below w.heap.size w wx)
      case first =>
        refine wp_region_held_drew (S := fun wx => Am wx w2.heap.size F H L ∧ Tx wx gl ls) (by kernel_rfl) ⟨ma, ht⟩ (fun hHeld => ?_)
        replace m0 := m0.drew
        replace ma : Am (w2.alloc (.cells #[.int .i64 F, .int .u64 H, .int .u64 L] 24)).drew w2.heap.size F H L := ma
        replace ht : Tx (w2.alloc (.cells #[.int .i64 F, .int .u64 H, .int .u64 L] 24)).drew gl ls := ht
        replace B0 := bel_drew1 B0
        generalize (w2.alloc (.cells #[.int .i64 F, .int .u64 H, .int .u64 L] 24)).drew = wd at *
        generalize w2.heap.size = ga at *
        refine take_to 0 26 (.agg #[.int .i64 F, .int .u64 H, .int .u64 L]) rfl rfl (by kernel_rfl) (by kernel_rfl) (by kernel_rfl) (fun _ _ _ h => h) (Or.inl ⟨by rfl, fun w' h => ?_⟩) hHeld ?_
        · have y0 := Am.c0 h.1
          have y1 := Am.c1 h.1
          have y2 := Am.c2 h.1
          go_simp
        try simp only [List.setIfInBounds_toArray, List.set_cons_zero, List.set_cons_succ]
        refine take_to 1 27 (.slice (some ⟨gl, 0, none⟩) 2 cl) rfl rfl (by kernel_rfl) (by kernel_rfl) (by kernel_rfl) (fun _ _ _ h => h) (Or.inl ⟨by rfl, fun w' h => ?_⟩) hHeld ?_
        · go_simp
        try simp only [List.setIfInBounds_toArray, List.set_cons_zero, List.set_cons_succ]
        refine take_to 2 28 (.pointer (some ⟨gl, 1, none⟩)) rfl rfl (by kernel_rfl) (by kernel_rfl) (by kernel_rfl) (fun _ _ _ h => h) (Or.inl ⟨by rfl, fun w' h => ?_⟩) hHeld ?_
        · go_simp
        try simp only [List.setIfInBounds_toArray, List.set_cons_zero, List.set_cons_succ]
        refine take_to 3 29 (.string T1) rfl rfl (by kernel_rfl) (by kernel_rfl) (by kernel_rfl) (fun _ _ _ h => h) (Or.inl ⟨by rfl, fun w' h => ?_⟩) hHeld ?_
        · have y0 := (hx _ _ h.2 h2).2
          go_simp
        try simp only [List.setIfInBounds_toArray, List.set_cons_zero, List.set_cons_succ]
        refine wpAnyH_ready (rs := [4, 6]) (by kernel_rfl) (by simp) ?_
        refine AllReadyH.cons rfl (fun K' hK' => ?_) (AllReadyH.cons rfl (fun K' hK' => ?_) AllReadyH.nil)
        · rw [if_pos (by rfl)]
          go_wp2_with fail
          refine (k3 _).mono ?_
          rintro e wq ⟨rfl, rfl⟩
          try go_wp2_with fail
          refine hK'.out _ _ ⟨ma, ht⟩ (fun hHeld => ?_)
          clear hK' K'
          try simp only [Act.put, List.setIfInBounds_toArray, List.set_cons_zero, List.set_cons_succ]
          refine take_to 5 31 (.agg #[.int .i64 F, .int .u64 H, .int .u64 L, .int .i64 B]) rfl rfl (by kernel_rfl) (by kernel_rfl) (by kernel_rfl) (fun _ _ _ h => h) (Or.inl ⟨by rfl, fun w' h => ?_⟩) hHeld ?_
          · go_simp
          try simp only [List.setIfInBounds_toArray, List.set_cons_zero, List.set_cons_succ]
          refine wpAnyH_ready (rs := [6]) (by kernel_rfl) (by simp) ?_
          refine AllReadyH.cons rfl (fun K' hK' => ?_) AllReadyH.nil
          rw [if_pos (by rfl)]
          go_wp2_with fail
          have hgp := m0.lt
          have hga := ma.lt
          have hgt := ht.lt
          have m1 := Pm.new wq 0 0 0 0
          replace m0 := m0.alloc (.cells #[.int .i64 0, .int .u64 0, .int .u64 0, .int .i64 0] 31)
          replace ma := ma.alloc (.cells #[.int .i64 0, .int .u64 0, .int .u64 0, .int .i64 0] 31)
          replace ht := ht.kept ((Below.refl _ _).alloc (Nat.le_refl _) (.cells #[.int .i64 0, .int .u64 0, .int .u64 0, .int .i64 0] 31))
          replace B0 := B0.alloc B0.size (.cells #[.int .i64 0, .int .u64 0, .int .u64 0, .int .i64 0] 31)
          generalize wq.alloc (.cells #[.int .i64 0, .int .u64 0, .int .u64 0, .int .i64 0] 31) = w3 at *
          generalize wq.heap.size = gp at *
          clear hHeld
          refine hK'.out _ _ ⟨ma, ht⟩ (fun hHeld => ?_)
          clear hK' K'
          try simp only [Act.put, List.setIfInBounds_toArray, List.set_cons_zero, List.set_cons_succ]
          refine wpAnyH_ready (rs := [7]) (by kernel_rfl) (by simp) ?_
          refine AllReadyH.cons rfl (fun K' hK' => ?_) AllReadyH.nil
          rw [if_pos (by rfl)]
          refine wp_store_row _ _ _ rfl gp #[.int .i64 F, .int .u64 H, .int .u64 L, .int .i64 B] rfl rfl _ _ m1 sizep rfl (by simp [Value.oneCell']) ?_
          replace m0 := m0.at (setRow_other w3 gp w.heap.size #[.int .i64 F, .int .u64 H, .int .u64 L, .int .i64 B] (by omega))
          replace ma := ma.at (setRow_other w3 gp ga #[.int .i64 F, .int .u64 H, .int .u64 L, .int .i64 B] (by omega))
          replace ht := ht.at (setRow_other w3 gp gl #[.int .i64 F, .int .u64 H, .int .u64 L, .int .i64 B] (by omega))
          replace m1 := m1.row F H L B
          replace B0 := bel_row B0 (g := gp) (by omega) #[.int .i64 F, .int .u64 H, .int .u64 L, .int .i64 B]
          clear hHeld
          refine hK'.out _ _ ⟨ma, ht⟩ (fun hHeld => ?_)
          clear hK' K'
          try simp only [Act.put, List.setIfInBounds_toArray, List.set_cons_zero, List.set_cons_succ]
          refine wpAnyH_done (by kernel_rfl) ?_ _
          go_wp2_with fail
          go_meet
          case rel => exact ⟨_, rfl, by omega, m0, m1, B0⟩
        · rw [if_pos (by rfl)]
          go_wp2_with fail
          have hgp := m0.lt
          have hga := ma.lt
          have hgt := ht.lt
          have m1 := Pm.new wd 0 0 0 0
          replace m0 := m0.alloc (.cells #[.int .i64 0, .int .u64 0, .int .u64 0, .int .i64 0] 31)
          replace ma := ma.alloc (.cells #[.int .i64 0, .int .u64 0, .int .u64 0, .int .i64 0] 31)
          replace ht := ht.kept ((Below.refl _ _).alloc (Nat.le_refl _) (.cells #[.int .i64 0, .int .u64 0, .int .u64 0, .int .i64 0] 31))
          replace B0 := B0.alloc B0.size (.cells #[.int .i64 0, .int .u64 0, .int .u64 0, .int .i64 0] 31)
          generalize wd.alloc (.cells #[.int .i64 0, .int .u64 0, .int .u64 0, .int .i64 0] 31) = w3 at *
          generalize wd.heap.size = gp at *
          clear hHeld
          refine hK'.out _ _ ⟨ma, ht⟩ (fun hHeld => ?_)
          clear hK' K'
          try simp only [Act.put, List.setIfInBounds_toArray, List.set_cons_zero, List.set_cons_succ]
          refine wpAnyH_ready (rs := [4]) (by kernel_rfl) (by simp) ?_
          refine AllReadyH.cons rfl (fun K' hK' => ?_) AllReadyH.nil
          rw [if_pos (by rfl)]
          go_wp2_with fail
          refine (k3 _).mono ?_
          rintro e wq ⟨rfl, rfl⟩
          try go_wp2_with fail
          refine hK'.out _ _ ⟨ma, ht⟩ (fun hHeld => ?_)
          clear hK' K'
          try simp only [Act.put, List.setIfInBounds_toArray, List.set_cons_zero, List.set_cons_succ]
          refine take_to 5 31 (.agg #[.int .i64 F, .int .u64 H, .int .u64 L, .int .i64 B]) rfl rfl (by kernel_rfl) (by kernel_rfl) (by kernel_rfl) (fun _ _ _ h => h) (Or.inl ⟨by rfl, fun w' h => ?_⟩) hHeld ?_
          · go_simp
          try simp only [List.setIfInBounds_toArray, List.set_cons_zero, List.set_cons_succ]
          refine wpAnyH_ready (rs := [7]) (by kernel_rfl) (by simp) ?_
          refine AllReadyH.cons rfl (fun K' hK' => ?_) AllReadyH.nil
          rw [if_pos (by rfl)]
          refine wp_store_row _ _ _ rfl gp #[.int .i64 F, .int .u64 H, .int .u64 L, .int .i64 B] rfl rfl _ _ m1 sizep rfl (by simp [Value.oneCell']) ?_
          replace m0 := m0.at (setRow_other wq gp w.heap.size #[.int .i64 F, .int .u64 H, .int .u64 L, .int .i64 B] (by omega))
          replace ma := ma.at (setRow_other wq gp ga #[.int .i64 F, .int .u64 H, .int .u64 L, .int .i64 B] (by omega))
          replace ht := ht.at (setRow_other wq gp gl #[.int .i64 F, .int .u64 H, .int .u64 L, .int .i64 B] (by omega))
          replace m1 := m1.row F H L B
          replace B0 := bel_row B0 (g := gp) (by omega) #[.int .i64 F, .int .u64 H, .int .u64 L, .int .i64 B]
          clear hHeld
          refine hK'.out _ _ ⟨ma, ht⟩ (fun hHeld => ?_)
          clear hK' K'
          try simp only [Act.put, List.setIfInBounds_toArray, List.set_cons_zero, List.set_cons_succ]
          refine wpAnyH_done (by kernel_rfl) ?_ _
          go_wp2_with fail
          go_meet
          case rel => exact ⟨_, rfl, by omega, m0, m1, B0⟩
      case rest =>
        clear m0 B0 ht ma k3
        obtain ⟨gp, rfl, hgp, m0, m1, B0⟩ := hcut
        have c0 := m1.c0
        have c1 := m1.c1
        have c2 := m1.c2
        have c3 := m1.c3
        go_wp2_with fail
        refine (k4 _ (hT.kept B0)).mono ?_
        rintro e w5 ⟨rfl, g2⟩
        replace m0 := m0.kept g2
        replace m1 := m1.kept g2
        replace B0 := bel_bel B0 B0.size g2
        clear g2 k4 c0 c1 c2 c3
        have c0 := m1.c0
        have c1 := m1.c1
        have c2 := m1.c2
        have c3 := m1.c3
        rcases HE01.out with hE | hE
        · subst hE
          by_cases hps : P = S
          · have d8 : (P.toList == S.toList) = true := by rw [hps]; simp
            have d8' : (P.toList != S.toList) = false := by rw [hps]; simp
            have HE : Hid (pk l = true) := by
              show _ = _
              rw [HK.out]
              exact decide_eq_true ⟨h43, h2, rfl, HI.out hps⟩
            have HE2 := hid (HG.out HE.out)
            clear HE HK HI HJ HG HB hps hx
            go_wp2_with (refine wpList_spx rfl rfl _ _ rfl w.heap.size F H L B rfl rfl 0 0 0 0 (by with_reducible exact m0) ?_)
            refine bodyPost_ret (v := .tuple #[.agg #[.int .i64 F, .int .u64 H, .int .u64 L, .int .i64 B], .int .i64 0]) ?_ rfl ⟨ret_r HE2.out, bel_row B0 (Nat.le_refl _) _⟩
            exact results_p2 rfl _ _ w.heap.size F H L B _ rfl rfl (m0.row _ _ _ _)
          · have d8 : (P.toList == S.toList) = false := beq_eq_false_iff_ne.2 fun h => hps (toList_inj h)
            have d8' : (P.toList != S.toList) = true := by unfold bne; rw [d8]; rfl
            have HE : Hid (pk l = false) := by
              show _ = _
              rw [HK.out]
              exact decide_eq_false fun h => hps (HJ.out h.2.2.2)
            have HE2 := hid (HB.out HE.out)
            clear HE HK HI HJ HG HB hps hx
            go_wp2_with (refine wpList_spx rfl rfl _ _ rfl w.heap.size 0 0 0 0 rfl rfl 0 0 0 0 (by with_reducible exact m0) ?_)
            refine bodyPost_ret (v := .tuple #[.agg #[.int .i64 0, .int .u64 0, .int .u64 0, .int .i64 0], .int .i64 70]) ?_ rfl ⟨ret_r HE2.out, bel_row B0 (Nat.le_refl _) _⟩
            exact results_p2 rfl _ _ w.heap.size 0 0 0 0 _ rfl rfl (m0.row _ _ _ _)
        · subst hE
          have HE : Hid (pk l = false) := by
            show _ = _
            rw [HK.out]
            exact decide_eq_false fun h => absurd h.2.2.1 (by decide)
          have HE2 := hid (HB.out HE.out)
          clear HE HK HI HJ HG HB hx
          go_wp2_with (refine wpList_spx rfl rfl _ _ rfl w.heap.size 0 0 0 0 rfl rfl 0 0 0 0 (by with_reducible exact m0) ?_)
          refine bodyPost_ret (v := .tuple #[.agg #[.int .i64 0, .int .u64 0, .int .u64 0, .int .i64 0], .int .i64 70]) ?_ rfl ⟨ret_r HE2.out, bel_row B0 (Nat.le_refl _) _⟩
          exact results_p2 rfl _ _ w.heap.size 0 0 0 0 _ rfl rfl (m0.row _ _ _ _)
    · have HE : Hid (pk l = false) := by
        show _ = _
        rw [HK.out]
        exact decide_eq_false fun h => h2 h.2.1
      have HE2 := hid (HB.out HE.out)
      obtain ⟨q, HQ⟩ : ∃ q, Hid (ls.length = q) := ⟨_, rfl⟩
      rw [HQ.out] at h1 h2 ⊢
      have d1 : (((q : Nat) : Int) != 2) = true := by simp; omega
      have d2 : (((q : Nat) : Int) == 2) = false := by simp; omega
      clear HE HK HI HJ HG HB k2 k3 k4 hx h2
      go_wp2_with (refine wpList_spx rfl rfl _ _ rfl w.heap.size 0 0 0 0 rfl rfl 0 0 0 0 (by with_reducible exact m0) ?_)
      refine bodyPost_ret (v := .tuple #[.agg #[.int .i64 0, .int .u64 0, .int .u64 0, .int .i64 0], .int .i64 70]) ?_ rfl ⟨ret_r HE2.out, bel_row B0 (Nat.le_refl _) _⟩
      exact results_p2 rfl _ _ w.heap.size 0 0 0 0 _ rfl rfl (m0.row _ _ _ _)
  · have HE : Hid (pk l = false) := by
      show _ = _
      exact decide_eq_false fun h => h43 h.1
    have HE2 := hid (r_bad HE.out)
    generalize sb l = S at *
    obtain ⟨n, HN⟩ : ∃ n, Hid (l.length = n) := ⟨_, rfl⟩
    rw [HN.out] at hs hlen h43
    have dn : decide ((43 : Int) < (n : Int)) = true := by simp; omega
    clear h43 hy HE
    go_enter Tryz.func9, Tryz.ntmps9
    go_wp2_with (refine wpList_spx rfl rfl _ _ rfl w.heap.size 0 0 0 0 rfl rfl 0 0 0 0 (by with_reducible exact m0) ?_)
    refine bodyPost_ret (v := .tuple #[.agg #[.int .i64 0, .int .u64 0, .int .u64 0, .int .i64 0], .int .i64 70]) ?_ rfl ⟨ret_r HE2.out, bel_row B0 (Nat.le_refl _) _⟩
    exact results_p2 rfl _ _ w.heap.size 0 0 0 0 _ rfl rfl (m0.row _ _ _ _)
end Go.Proofs.YtknjokmoommdeabGreatDoor
