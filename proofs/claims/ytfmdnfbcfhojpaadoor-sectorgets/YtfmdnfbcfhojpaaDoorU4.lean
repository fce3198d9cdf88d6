import Derived.Test.YtfmdnfbcfhojpaaDoorU3
import Derived.Deep.Cut
import Derived.Laws.Tables
namespace Go.Proofs.YtfmdnfbcfhojpaaDoor
set_option maxRecDepth 100000
open Go.RowKit
set_option linter.unusedVariables false

set_option maxHeartbeats 4000000 in
theorem refGet_len (a : Option Addr) (n c : Nat) (w : World) (hn : n ≠ 512) :
    Calls Tryd.prog 19 #[.slice a n c] w fun en w' => en = .returned (.tuple #[.agg #[.string ⟨#[]⟩, .int .i64 0, .int .i64 0, .int .i64 0, .slice none 0 0], .int .i64 117]) ∧ Below w.heap.size w w' := by
  have m0 := Sm.new w ⟨#[]⟩ 0 0 0 (.slice none 0 0)
  have B0 := snew w ⟨#[]⟩ 0 0 0 (.slice none 0 0)
  have c1 : ((n : Int) != 512) = true := by rw [bne_iff_ne]; omega
  go_enter Tryd.func19, Tryd.ntmps19
  go_wp2
  refine bodyPost_ret (results_s2 rfl _ _ w.heap.size _ _ _ _ _ _ rfl rfl m0) rfl ⟨rfl, B0⟩

/-- What yields its value in every world that meets S may be taken first. -/
theorem take_to {ops : Array Oper} {Q : Exit → Act → World → Prop} {md : Region.Mode} {S : World → Prop} {oi : Oper} {fuel : Nat} {listed : Array Bool} {a : Act} {w : World} (i d : Nat) (v : Value) (hi : ops[i]? = some oi) (hd : oi.dst = some d)
    (hs : Region.noSelect ops = true) (hf : Region.free md ops listed i = true) (hr : (Region.ready md ops listed).contains i = true)
    (hQ : ∀ c a w, Q (.panic c) (a.put oi.dst v) w → Q (.panic c) a w) (hy : YieldsIf Tryd.prog ops S oi v a) (hS : S w)
    (h : wpAnyH Tryd.prog md ops Q S fuel (listed.setIfInBounds i true) ⟨a.tmps.setIfInBounds d v, a.defers⟩ w) : wpAnyH Tryd.prog md ops Q S (fuel + 1) listed a w :=
  wpAnyH_take hi hs hf hr hQ hy hS (by rw [hd]; exact h)
theorem bel_drew1 {B : Nat} {a b : World} (h : Below B a b) : Below B a b.drew := h.trans ⟨rfl, rfl, rfl, Nat.le_refl _, fun _ _ => rfl⟩
theorem own_row {w : World} {b n g : Nat} {v : Value} {xs : List Value} (h : w.ownsRow b 5 1 v n xs) (hne : ∀ k, v.ownBlock = some k → k ≠ g) (ds : Array Value) : (w.setRow g ds).ownsRow b 5 1 v n xs := by
  obtain ⟨h1, h2⟩ := h
  refine ⟨h1, ?_⟩
  rcases h2 with h2 | ⟨g', cap, cur, rfl, hb, hg, h3⟩
  · exact .inl h2
  · refine .inr ⟨g', cap, cur, rfl, hb, ?_, h3⟩
    rw [setRow_other w g g' ds (hne g' rfl)]
    exact hg
theorem bs_cell0 {w : World} {b off n : Nat} {zs : List Int} (h : Bs w (some ⟨b, off, none⟩) (n + 1) zs) : w.cell? ⟨b, off, none⟩ = some (.int .u8 (zs.getD 0 0)) := by
  have := bs_cell h 0 (by omega)
  rwa [Nat.add_zero] at this
theorem kt4_ {w : World} {b off c : Nat} {zs : List Int} (hy : By zs) (hl : zs.length = 512) (k0 : w.cell? ⟨b, off, none⟩ = some (.int .u8 (zs.getD 0 0))) (k1 : w.cell? ⟨b, off + 1, none⟩ = some (.int .u8 (zs.getD 1 0))) (k2 : w.cell? ⟨b, off + 2, none⟩ = some (.int .u8 (zs.getD 2 0))) (k3 : w.cell? ⟨b, off + 3, none⟩ = some (.int .u8 (zs.getD 3 0))) :
    (convert 22 9 (.slice (some ⟨b, off, none⟩) 4 c)).run Tryd.prog w = .ok (.string (bt (sl zs 0 4))) w := by
  refine run_txt c ⟨sl_length (by omega), sl_by hy 0 4, .inr ⟨b, off, rfl, fun i hi => ?_⟩⟩
  have e : (sl zs 0 4).getD i 0 = zs.getD i 0 := by simp only [sl, List.drop_zero, List.getD, List.getElem?_take, if_pos hi]
  rw [e]
  have c : i = 0 ∨ i = 1 ∨ i = 2 ∨ i = 3 := by omega
  rcases c with rfl | rfl | rfl | rfl
  · exact k0
  · exact k1
  · exact k2
  · exact k3
set_option linter.unusedSimpArgs false in
set_option maxHeartbeats 8000000 in
theorem refGet_mid (b off c : Nat) (zs : List Int) (w : World) (hb : Bs w (some ⟨b, off, none⟩) 512 zs) (hc : 512 ≤ c) (hm : c ≤ maxLen) (hE : val (sl zs 4 8) ≤ 4611686018427387904) (hQ : val (sl zs 12 8) ≤ 4611686018427387904) (hU : us zs ≤ 480) :
    Calls Tryd.prog 19 #[.slice (some ⟨b, off, none⟩) 512 c] w fun en w' => ((∃ v, (May (rs zs) ∧ sameB zs (ps (rs zs)) = true) ∧ en = .returned (.tuple #[.agg #[.string (rs zs).T, .int .i64 (rs zs).e, .int .i64 (rs zs).q, .int .i64 (rs zs).p, v], .int .i64 0]) ∧ w'.ownsRow w.heap.size 5 1 v (us zs) (cells (rs zs).l)) ∨ (¬ (May (rs zs) ∧ sameB zs (ps (rs zs)) = true) ∧ en = .returned (.tuple #[.agg #[.string ⟨#[]⟩, .int .i64 0, .int .i64 0, .int .i64 0, .slice none 0 0], .int .i64 117]))) ∧ Below w.heap.size w w' := by
  have m0 := Sm.new w ⟨#[]⟩ 0 0 0 (.slice none 0 0)
  have B0 := snew w ⟨#[]⟩ 0 0 0 (.slice none 0 0)
  have hl := hb.1
  have v1 := val_bd hb.2.1 (i := 4) (n := 8) (by omega)
  have v2 := val_bd hb.2.1 (i := 12) (n := 8) (by omega)
  have v3 := val_bd hb.2.1 (i := 20) (n := 4) (by omega)
  obtain ⟨u1, u2⟩ := us_eq hb.2.1 hl
  have Y0 := hid (hb.below B0)
  have HB := hid hb
  have kv4 := fun wx hx => refValue_ (some ⟨b, off + 4, none⟩) 8 (c - 4) (sl zs 4 8) wx hx (by omega)
  have kv12 := fun wx hx => refValue_ (some ⟨b, off + 12, none⟩) 8 (c - 12) (sl zs 12 8) wx hx (by omega)
  have kv20 := fun wx hx => refValue_ (some ⟨b, off + 20, none⟩) 4 (c - 20) (sl zs 20 4) wx hx (by omega)
  have kv24 := fun wx hx => refValue_ (some ⟨b, off + 24, none⟩) 2 (c - 24) (sl zs 24 2) wx hx (by omega)
  rw [u1] at kv24
  unfold maxLen at hm
  have i1 : (512 : Int) ≤ (c : Int) := by omega
  have i3 : (12 : Int) ≤ (c : Int) := by omega
  have i4 : (20 : Int) ≤ (c : Int) := by omega
  have i5 : (24 : Int) ≤ (c : Int) := by omega
  have i6 : (26 : Int) ≤ (c : Int) := by omega
  have i7 : (4 : Int) ≤ (c : Int) := by omega
  have c4 : ¬ c = 4 := by omega
  have c12 : ¬ c = 12 := by omega
  have c20 : ¬ c = 20 := by omega
  have c24 : ¬ c = 24 := by omega
  have c28 : ¬ c = 28 := by omega
  clear hb
  obtain ⟨l0, hl0⟩ : ∃ l0, l0 = sl zs 28 (us zs) := ⟨_, rfl⟩
  obtain ⟨s, hs⟩ : ∃ s, s = rs zs := ⟨_, rfl⟩
  rw [← hs]
  clear hl0 l0
  obtain ⟨T, E, Q, P, sL⟩ := s
  simp only
  go_enter Tryd.func19, Tryd.ntmps19
  go_wp2_with fail
  refine (kv4 _ (bs_sl Y0.out 4 8 (by omega))).mono ?_
  rintro x1 w1 ⟨rfl, hw⟩
  obtain rfl := hw.symm
  go_wp2_with fail
  refine (kv12 _ (bs_sl Y0.out 12 8 (by omega))).mono ?_
  rintro x1 w1 ⟨rfl, hw⟩
  obtain rfl := hw.symm
  go_wp2_with fail
  refine (kv20 _ (bs_sl Y0.out 20 4 (by omega))).mono ?_
  rintro x1 w1 ⟨rfl, hw⟩
  obtain rfl := hw.symm
  go_wp2_with fail
  refine (kv24 _ (bs_sl Y0.out 24 2 (by omega))).mono ?_
  rintro x1 w1 ⟨rfl, hw⟩
  obtain rfl := hw.symm
  have kt := fun wx k0 k1 k2 k3 => kt4_ (w := wx) (b := b) (off := off) (c := c) (zs := zs) HB.out.2.1 hl k0 k1 k2 k3
  have kb := fun wx hx => refBytes (some ⟨b, off + 28, none⟩) (us zs) (c - 28) (sl zs 28 (us zs)) wx hx (by omega)
  have HYB : Hid (By (sl zs 28 (us zs))) := sl_by HB.out.2.1 _ _
  clear kv4 kv12 kv20 kv24 u1
  generalize hTT : bt (sl zs 0 4) = T1 at *
  generalize hEE : val (sl zs 4 8) = E1 at *
  generalize hQQ : val (sl zs 12 8) = Q1 at *
  generalize hPP : val (sl zs 20 4) = P1 at *
  generalize hUU : us zs = U at *
  unfold rs at hs
  rw [hTT, hEE, hQQ, hPP, hUU] at hs
  obtain ⟨rfl, rfl, rfl, rfl, rfl⟩ : T = T1 ∧ E = E1 ∧ Q = Q1 ∧ P = P1 ∧ sL = sl zs 28 U := by simpa using hs
  have HUU := hid hUU
  clear hTT hEE hQQ hPP hUU hs
  generalize hw1 : w.alloc _ = w1 at *
  have hgw : w.heap.size < w1.heap.size := by subst hw1; simp
  clear hw1
  obtain ⟨v1, v1'⟩ := v1
  obtain ⟨v2, v2'⟩ := v2
  obtain ⟨v3, v3'⟩ := v3
  rw [show (256 : Int) ^ 8 = 18446744073709551616 from by decide] at v1' v2'
  rw [show (256 : Int) ^ 4 = 4294967296 from by decide] at v3'
  have j1 : (U : Int) ≤ 480 := by omega
  have j2 : 28 + (U : Int) ≤ (c : Int) := by omega
  have j3 : (28 : Int) ≤ 28 + (U : Int) := by omega
  go_wp2_with fail
  go_cut [8] from 39 (fun v wx => ∃ gp av cv, v = .pointer (some ⟨gp, 0, none⟩) ∧ w.heap.size < gp ∧ Sm wx w.heap.size ⟨#[]⟩ 0 0 0 (.slice none 0 0) ∧ Sm wx gp T E Q P (.slice av U cv) ∧ wx.ownsRow (w.heap.size + 1) 5 1 (.slice av U cv) U (cells (sl zs 28 U)) ∧ Below w.heap.size w wx)
  case first =>
    refine wp_region_held_drew (S := fun wx => Below w.heap.size w wx) (by kernel_rfl) (bel_drew1 B0) (fun hHeld => ?_)
    replace m0 := m0.at (w' := w1.drew) rfl
    replace B0 := bel_drew1 B0
    have hgw' : w.heap.size < w1.drew.heap.size := hgw
    clear hgw Y0
    generalize w1.drew = wd at *
    refine take_to 0 39 (.slice (some ⟨b, off, none⟩) 512 c) rfl rfl (by kernel_rfl) (by kernel_rfl) (by kernel_rfl) (fun _ _ _ h => h) (Or.inl ⟨by kernel_rfl, fun w' h => ?_⟩) hHeld ?_
    · go_simp
    try simp only [List.setIfInBounds_toArray, List.set_cons_zero, List.set_cons_succ]
    refine take_to 1 40 (.slice (some ⟨b, off, none⟩) 4 c) rfl rfl (by kernel_rfl) (by kernel_rfl) (by kernel_rfl) (fun _ _ _ h => h) (Or.inl ⟨by kernel_rfl, fun w' h => ?_⟩) hHeld ?_
    · go_simp
    try simp only [List.setIfInBounds_toArray, List.set_cons_zero, List.set_cons_succ]
    refine take_to 2 41 (.string T) rfl rfl (by kernel_rfl) (by kernel_rfl) (by kernel_rfl) (fun _ _ _ h => h) (Or.inl ⟨by kernel_rfl, fun w' h => ?_⟩) hHeld ?_
    · have x := kt w' (bs_cell0 (HB.out.below h)) (bs_cell (HB.out.below h) 1 (by omega)) (bs_cell (HB.out.below h) 2 (by omega)) (bs_cell (HB.out.below h) 3 (by omega))
      go_simp
    try simp only [List.setIfInBounds_toArray, List.set_cons_zero, List.set_cons_succ]
    refine take_to 3 42 (.int .u64 E) rfl rfl (by kernel_rfl) (by kernel_rfl) (by kernel_rfl) (fun _ _ _ h => h) (Or.inl ⟨by kernel_rfl, fun w' h => ?_⟩) hHeld ?_
    · go_simp
    try simp only [List.setIfInBounds_toArray, List.set_cons_zero, List.set_cons_succ]
    refine take_to 4 43 (.int .i64 E) rfl rfl (by kernel_rfl) (by kernel_rfl) (by kernel_rfl) (fun _ _ _ h => h) (Or.inl ⟨by kernel_rfl, fun w' h => ?_⟩) hHeld ?_
    · go_simp
      try (rw [IntKind.wrap_i64]; omega)
    try simp only [List.setIfInBounds_toArray, List.set_cons_zero, List.set_cons_succ]
    refine take_to 5 44 (.int .u64 Q) rfl rfl (by kernel_rfl) (by kernel_rfl) (by kernel_rfl) (fun _ _ _ h => h) (Or.inl ⟨by kernel_rfl, fun w' h => ?_⟩) hHeld ?_
    · go_simp
    try simp only [List.setIfInBounds_toArray, List.set_cons_zero, List.set_cons_succ]
    refine take_to 6 45 (.int .i64 Q) rfl rfl (by kernel_rfl) (by kernel_rfl) (by kernel_rfl) (fun _ _ _ h => h) (Or.inl ⟨by kernel_rfl, fun w' h => ?_⟩) hHeld ?_
    · go_simp
      try (rw [IntKind.wrap_i64]; omega)
    try simp only [List.setIfInBounds_toArray, List.set_cons_zero, List.set_cons_succ]
    refine take_to 7 46 (.int .u64 P) rfl rfl (by kernel_rfl) (by kernel_rfl) (by kernel_rfl) (fun _ _ _ h => h) (Or.inl ⟨by kernel_rfl, fun w' h => ?_⟩) hHeld ?_
    · go_simp
    try simp only [List.setIfInBounds_toArray, List.set_cons_zero, List.set_cons_succ]
    refine take_to 8 47 (.int .i64 P) rfl rfl (by kernel_rfl) (by kernel_rfl) (by kernel_rfl) (fun _ _ _ h => h) (Or.inl ⟨by kernel_rfl, fun w' h => ?_⟩) hHeld ?_
    · go_simp
      try (rw [IntKind.wrap_i64]; omega)
    try simp only [List.setIfInBounds_toArray, List.set_cons_zero, List.set_cons_succ]
    refine take_to 9 48 (.slice (some ⟨b, off, none⟩) 512 c) rfl rfl (by kernel_rfl) (by kernel_rfl) (by kernel_rfl) (fun _ _ _ h => h) (Or.inl ⟨by kernel_rfl, fun w' h => ?_⟩) hHeld ?_
    · go_simp
    try simp only [List.setIfInBounds_toArray, List.set_cons_zero, List.set_cons_succ]
    refine take_to 10 49 (.int .u64 (U : Int)) rfl rfl (by kernel_rfl) (by kernel_rfl) (by kernel_rfl) (fun _ _ _ h => h) (Or.inl ⟨by kernel_rfl, fun w' h => ?_⟩) hHeld ?_
    · go_simp
    try simp only [List.setIfInBounds_toArray, List.set_cons_zero, List.set_cons_succ]
    refine take_to 11 50 (.int .i64 (U : Int)) rfl rfl (by kernel_rfl) (by kernel_rfl) (by kernel_rfl) (fun _ _ _ h => h) (Or.inl ⟨by kernel_rfl, fun w' h => ?_⟩) hHeld ?_
    · go_simp
      try (rw [IntKind.wrap_i64]; omega)
    try simp only [List.setIfInBounds_toArray, List.set_cons_zero, List.set_cons_succ]
    refine take_to 12 51 (.int .i64 (28 + (U : Int))) rfl rfl (by kernel_rfl) (by kernel_rfl) (by kernel_rfl) (fun _ _ _ h => h) (Or.inl ⟨by kernel_rfl, fun w' h => ?_⟩) hHeld ?_
    · go_simp
      try (rw [IntKind.wrap_i64]; omega)
    try simp only [List.setIfInBounds_toArray, List.set_cons_zero, List.set_cons_succ]
    refine take_to 13 52 (.slice (some ⟨b, off + 28, none⟩) U (c - 28)) rfl rfl (by kernel_rfl) (by kernel_rfl) (by kernel_rfl) (fun _ _ _ h => h) (Or.inl ⟨by kernel_rfl, fun w' h => ?_⟩) hHeld ?_
    · go_simp
      try omega
    try simp only [List.setIfInBounds_toArray, List.set_cons_zero, List.set_cons_succ]
    refine wpAnyH_ready (rs := [14, 16]) (by kernel_rfl) (by simp) ?_
    refine AllReadyH.cons rfl (fun K' hK' => ?_) (AllReadyH.cons rfl (fun K' hK' => ?_) AllReadyH.nil)
    · rw [if_pos (by kernel_rfl)]
      go_wp2_with fail
      refine (kb _ (bs_sl (HB.out.below B0) 28 U (by omega))).mono ?_
      rintro y x1 ⟨v, rfl, ov0, g2⟩
      obtain ⟨av, cv, rfl, _⟩ := own_form ov0 HYB.out
      have hov : ∀ k, (Value.slice av U cv).ownBlock = some k → k < x1.heap.size := fun k hk => (ov0.lt k hk).2
      have hbs := m0.lt
      have ov := own_base ov0 (Nat.succ_le_of_lt hbs)
      replace m0 := m0.kept g2
      replace B0 := bel_bel B0 B0.size g2
      clear g2 hHeld ov0
      try go_wp2_with fail
      refine hK'.out _ _ B0 (fun hHeld => ?_)
      clear hK' K'
      try simp only [Act.put, List.setIfInBounds_toArray, List.set_cons_zero, List.set_cons_succ]
      refine take_to 15 54 (.agg #[.string T, .int .i64 E, .int .i64 Q, .int .i64 P, .slice av U cv]) rfl rfl (by kernel_rfl) (by kernel_rfl) (by kernel_rfl) (fun _ _ _ h => h) (Or.inl ⟨by kernel_rfl, fun w' h => ?_⟩) hHeld ?_
      · go_simp
      try simp only [List.setIfInBounds_toArray, List.set_cons_zero, List.set_cons_succ]
      refine wpAnyH_ready (rs := [16]) (by kernel_rfl) (by simp) ?_
      refine AllReadyH.cons rfl (fun K' hK' => ?_) AllReadyH.nil
      rw [if_pos (by kernel_rfl)]
      go_wp2_with fail
      have hgp := m0.lt
      have m1 := Sm.new x1 ⟨#[]⟩ 0 0 0 (.slice none 0 0)
      replace m0 := m0.alloc (.cells #[.string ⟨#[]⟩, .int .i64 0, .int .i64 0, .int .i64 0, .slice none 0 0] 24)
      replace B0 := B0.alloc B0.size (.cells #[.string ⟨#[]⟩, .int .i64 0, .int .i64 0, .int .i64 0, .slice none 0 0] 24)
      replace ov := own_bel (B := 0) ov ((Below.refl _ x1).alloc (Nat.le_refl _) (.cells #[.string ⟨#[]⟩, .int .i64 0, .int .i64 0, .int .i64 0, .slice none 0 0] 24))
      have hne : ∀ k, (Value.slice av U cv).ownBlock = some k → k ≠ x1.heap.size := fun k hk => by have := hov k hk; omega
      generalize x1.alloc (.cells #[.string ⟨#[]⟩, .int .i64 0, .int .i64 0, .int .i64 0, .slice none 0 0] 24) = x2 at *
      generalize x1.heap.size = gp at *
      clear hHeld
      refine hK'.out _ _ B0 (fun hHeld => ?_)
      clear hK' K'
      try simp only [Act.put, List.setIfInBounds_toArray, List.set_cons_zero, List.set_cons_succ]
      refine wpAnyH_ready (rs := [17]) (by kernel_rfl) (by simp) ?_
      refine AllReadyH.cons rfl (fun K' hK' => ?_) AllReadyH.nil
      rw [if_pos (by kernel_rfl)]
      refine wp_store_row _ _ _ rfl gp #[.string T, .int .i64 E, .int .i64 Q, .int .i64 P, .slice av U cv] rfl rfl _ _ m1 sizeS rfl (by simp [Value.oneCell']) ?_
      replace m0 := m0.at (setRow_other x2 gp w.heap.size #[.string T, .int .i64 E, .int .i64 Q, .int .i64 P, .slice av U cv] (by omega))
      replace m1 := m1.row T E Q P (.slice av U cv)
      replace B0 := bel_row B0 (g := gp) (by omega) #[.string T, .int .i64 E, .int .i64 Q, .int .i64 P, .slice av U cv]
      replace ov := own_row ov (g := gp) hne #[.string T, .int .i64 E, .int .i64 Q, .int .i64 P, .slice av U cv]
      clear hHeld
      refine hK'.out _ _ B0 (fun hHeld => ?_)
      clear hK' K'
      try simp only [Act.put, List.setIfInBounds_toArray, List.set_cons_zero, List.set_cons_succ]
      refine wpAnyH_done (by kernel_rfl) ?_ _
      go_wp2_with fail
      go_meet
      case rel => exact ⟨gp, av, cv, rfl, by omega, m0, m1, ov, B0⟩
    · rw [if_pos (by kernel_rfl)]
      go_wp2_with fail
      have hgp := m0.lt
      have m1 := Sm.new wd ⟨#[]⟩ 0 0 0 (.slice none 0 0)
      replace m0 := m0.alloc (.cells #[.string ⟨#[]⟩, .int .i64 0, .int .i64 0, .int .i64 0, .slice none 0 0] 24)
      replace B0 := B0.alloc B0.size (.cells #[.string ⟨#[]⟩, .int .i64 0, .int .i64 0, .int .i64 0, .slice none 0 0] 24)
      generalize wd.alloc (.cells #[.string ⟨#[]⟩, .int .i64 0, .int .i64 0, .int .i64 0, .slice none 0 0] 24) = x3 at *
      generalize wd.heap.size = gp at *
      clear hHeld
      refine hK'.out _ _ B0 (fun hHeld => ?_)
      clear hK' K'
      try simp only [Act.put, List.setIfInBounds_toArray, List.set_cons_zero, List.set_cons_succ]
      refine wpAnyH_ready (rs := [14]) (by kernel_rfl) (by simp) ?_
      refine AllReadyH.cons rfl (fun K' hK' => ?_) AllReadyH.nil
      rw [if_pos (by kernel_rfl)]
      go_wp2_with fail
      refine (kb _ (bs_sl (HB.out.below B0) 28 U (by omega))).mono ?_
      rintro y x4 ⟨v, rfl, ov0, g2⟩
      obtain ⟨av, cv, rfl, _⟩ := own_form ov0 HYB.out
      have hne : ∀ k, (Value.slice av U cv).ownBlock = some k → k ≠ gp := fun k hk => by
        have h1 := (ov0.lt k hk).1
        have h2 := m1.lt
        omega
      have hbs := m0.lt
      have ov := own_base ov0 (Nat.succ_le_of_lt hbs)
      replace m0 := m0.kept g2
      replace m1 := m1.kept g2
      replace B0 := bel_bel B0 B0.size g2
      clear g2 hHeld ov0
      try go_wp2_with fail
      refine hK'.out _ _ B0 (fun hHeld => ?_)
      clear hK' K'
      try simp only [Act.put, List.setIfInBounds_toArray, List.set_cons_zero, List.set_cons_succ]
      refine take_to 15 54 (.agg #[.string T, .int .i64 E, .int .i64 Q, .int .i64 P, .slice av U cv]) rfl rfl (by kernel_rfl) (by kernel_rfl) (by kernel_rfl) (fun _ _ _ h => h) (Or.inl ⟨by kernel_rfl, fun w' h => ?_⟩) hHeld ?_
      · go_simp
      try simp only [List.setIfInBounds_toArray, List.set_cons_zero, List.set_cons_succ]
      refine wpAnyH_ready (rs := [17]) (by kernel_rfl) (by simp) ?_
      refine AllReadyH.cons rfl (fun K' hK' => ?_) AllReadyH.nil
      rw [if_pos (by kernel_rfl)]
      refine wp_store_row _ _ _ rfl gp #[.string T, .int .i64 E, .int .i64 Q, .int .i64 P, .slice av U cv] rfl rfl _ _ m1 sizeS rfl (by simp [Value.oneCell']) ?_
      replace m0 := m0.at (setRow_other x4 gp w.heap.size #[.string T, .int .i64 E, .int .i64 Q, .int .i64 P, .slice av U cv] (by omega))
      replace m1 := m1.row T E Q P (.slice av U cv)
      replace B0 := bel_row B0 (g := gp) (by omega) #[.string T, .int .i64 E, .int .i64 Q, .int .i64 P, .slice av U cv]
      replace ov := own_row ov (g := gp) hne #[.string T, .int .i64 E, .int .i64 Q, .int .i64 P, .slice av U cv]
      clear hHeld
      refine hK'.out _ _ B0 (fun hHeld => ?_)
      clear hK' K'
      try simp only [Act.put, List.setIfInBounds_toArray, List.set_cons_zero, List.set_cons_succ]
      refine wpAnyH_done (by kernel_rfl) ?_ _
      go_wp2_with fail
      go_meet
      case rel => exact ⟨gp, av, cv, rfl, by omega, m0, m1, ov, B0⟩
  case rest =>
    obtain ⟨gp, av, cv, rfl, hgp, m0, m1, ov, B0⟩ := hcut
    clear kt kb
    have HOV := hid ov
    obtain ⟨av', cv', ev, yv, _⟩ := own_form ov HYB.out
    obtain ⟨rfl, rfl⟩ : av = av' ∧ cv = cv' := by simp at ev; exact ev
    have YV := hid yv
    have M0 := hid m0
    have BB := hid B0
    have hln : (sl zs 28 U).length = U := yv.1
    have d0 := m1.c0
    have d1 := m1.c1
    have d2 := m1.c2
    have d3 := m1.c3
    have d4 := m1.c4
    have M1 := hid m1
    have HYZ := hid (HB.out.below B0)
    clear ov m0 B0 yv m1 ev
    generalize hll : sl zs 28 U = l at *
    have HLL := hid hll
    clear hll
    by_cases hM : MayN T E Q P U
    · have hMM : May ⟨T, E, Q, P, l⟩ := (may_n (s := ⟨T, E, Q, P, l⟩) hln).2 hM
      have HPL := hid (ps_length hMM)
      have HPB : Hid (By (ps ⟨T, E, Q, P, l⟩)) := ps_by HYB.out
      have HMM := hid hMM
      generalize hPS : ps ⟨T, E, Q, P, l⟩ = R at *
      have HPS := hid hPS
      clear hPS hMM
      go_wp2_with fail
      refine (refMay_y T E Q P av U cv _ hM).mono ?_
      rintro y2 w2 ⟨rfl, g2⟩
      have B2 := bel_bel BB.out BB.out.size g2
      have m2 := M0.out.kept g2
      have n2 := M1.out.kept g2
      have O2 := hid (own_bel (B := 0) HOV.out g2)
      have Y2 := hid (YV.out.below g2)
      have Z2 := hid (HYZ.out.below g2)
      have e0 := n2.c0
      have e1 := n2.c1
      have e2 := n2.c2
      have e3 := n2.c3
      have e4 := n2.c4
      have MM := hid m2
      have NN := hid n2
      have B2H := hid B2
      clear d0 d1 d2 d3 d4 M0 M1 BB HOV YV HYZ g2 m2 n2 B2
      go_wp2_with fail
      refine (refPut_y T E Q P av U cv l _ Y2.out hM).mono ?_
      rintro y3 w3 ⟨v3, rfl, o3, g3⟩
      rw [HPS.out] at o3
      obtain ⟨a3, c3, rfl, y3, _⟩ := own_form o3 HPB.out
      have B3 := hid (bel_bel B2H.out B2H.out.size g3)
      have M3 := hid (MM.out.kept g3)
      have n3 := NN.out.kept g3
      have O3 := hid (own_bel (B := 0) O2.out g3)
      have Z3 := hid (Z2.out.below g3)
      have f0 := n3.c0
      have f1 := n3.c1
      have f2 := n3.c2
      have f3 := n3.c3
      have f4 := n3.c4
      have Y3 := hid y3
      have N3 := hid n3
      clear e0 e1 e2 e3 e4 MM NN B2H O2 Y2 Z2 g3 n3 y3 o3
      go_wp2_with fail
      refine (same_d (some ⟨b, off, none⟩) a3 512 c 512 c3 zs R w3 Z3.out Y3.out (by unfold maxLen; omega) (by unfold maxLen; omega)).mono ?_
      rintro y4 w4 ⟨rfl, D4⟩
      have M4 := hid (M3.out.at (D4.at _))
      have n4 := N3.out.at (D4.at _)
      have O4 := hid (own_bel (B := 0) O3.out D4.below)
      have B4 := hid (bel_bel B3.out B3.out.size D4.below)
      have h0 := n4.c0
      have h1 := n4.c1
      have h2 := n4.c2
      have h3 := n4.c3
      have h4 := n4.c4
      clear f0 f1 f2 f3 f4 B3 M3 O3 Z3 Y3 N3 n4 D4
      have hne : ∀ k, (Value.slice av U cv).ownBlock = some k → k ≠ w.heap.size := fun k hk => by
        have := (O4.out.lt k hk).1
        omega
      cases hq : sameB zs R with
      | true =>
        go_wp2_with (with_reducible show wpList _ _ _ (_ :: _) _ _; refine wpList_ss rfl rfl _ _ rfl w.heap.size T E Q P av U cv rfl rfl _ _ _ _ _ (by with_reducible exact M4.out) ?_)
        refine bodyPost_ret (results_s2 rfl _ _ w.heap.size T E Q P _ _ rfl rfl (M4.out.row T E Q P (.slice av U cv))) rfl ⟨.inl ⟨_, ⟨by rw [HLL.out]; exact HMM.out, by rw [HLL.out, HPS.out]; exact hq⟩, rfl, by rw [HUU.out, HLL.out]; exact own_base (own_row O4.out hne _) (Nat.le_succ _)⟩, bel_row B4.out (Nat.le_refl _) _⟩
      | false =>
        go_wp2_with (with_reducible show wpList _ _ _ (_ :: _) _ _; refine wpList_ss rfl rfl _ _ rfl w.heap.size ⟨#[]⟩ 0 0 0 none 0 0 rfl rfl _ _ _ _ _ (by with_reducible exact M4.out) ?_)
        refine bodyPost_ret (results_s2 rfl _ _ w.heap.size ⟨#[]⟩ 0 0 0 _ _ rfl rfl (M4.out.row ⟨#[]⟩ 0 0 0 (.slice none 0 0))) rfl ⟨.inr ⟨fun k => ?_, rfl⟩, bel_row B4.out (Nat.le_refl _) _⟩
        have k2 := k.2
        rw [HLL.out, HPS.out, hq] at k2
        cases k2
    · go_wp2_with fail
      refine (refMay_n T E Q P av U cv _ hM).mono ?_
      rintro y2 w2 ⟨rfl, g2⟩
      have B2 := bel_bel BB.out BB.out.size g2
      have M2 := hid (M0.out.kept g2)
      clear d0 d1 d2 d3 d4 M0 M1 BB HOV YV HYZ g2
      go_wp2_with (with_reducible show wpList _ _ _ (_ :: _) _ _; refine wpList_ss rfl rfl _ _ rfl w.heap.size ⟨#[]⟩ 0 0 0 none 0 0 rfl rfl _ _ _ _ _ (by with_reducible exact M2.out) ?_)
      refine bodyPost_ret (results_s2 rfl _ _ w.heap.size ⟨#[]⟩ 0 0 0 _ _ rfl rfl (M2.out.row ⟨#[]⟩ 0 0 0 (.slice none 0 0))) rfl ⟨.inr ⟨fun k => hM ((may_n (s := ⟨T, E, Q, P, l⟩) hln).1 (by have k1 := k.1; rw [HLL.out] at k1; exact k1)), rfl⟩, bel_row B2 (Nat.le_refl _) _⟩
end Go.Proofs.YtfmdnfbcfhojpaaDoor
