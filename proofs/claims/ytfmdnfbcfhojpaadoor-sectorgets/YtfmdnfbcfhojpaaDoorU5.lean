import Derived.Test.YtfmdnfbcfhojpaaDoorU4
namespace Go.Proofs.YtfmdnfbcfhojpaaDoor
set_option maxRecDepth 100000
open Go.RowKit
set_option linter.unusedVariables false

set_option maxHeartbeats 4000000 in
theorem refGet_big1 (b off c : Nat) (zs : List Int) (w : World) (hb : Bs w (some ⟨b, off, none⟩) 512 zs) (hc : 512 ≤ c) (hm : c ≤ maxLen) (hE : 4611686018427387904 < val (sl zs 4 8)) :
    Calls Tryd.prog 19 #[.slice (some ⟨b, off, none⟩) 512 c] w fun en w' => en = .returned (.tuple #[.agg #[.string ⟨#[]⟩, .int .i64 0, .int .i64 0, .int .i64 0, .slice none 0 0], .int .i64 117]) ∧ Below w.heap.size w w' := by
  have m0 := Sm.new w ⟨#[]⟩ 0 0 0 (.slice none 0 0)
  have B0 := snew w ⟨#[]⟩ 0 0 0 (.slice none 0 0)
  have hl := hb.1
  have v1 := val_bd hb.2.1 (i := 4) (n := 8) (by omega)
  have v2 := val_bd hb.2.1 (i := 12) (n := 8) (by omega)
  have v3 := val_bd hb.2.1 (i := 20) (n := 4) (by omega)
  obtain ⟨u1, u2⟩ := us_eq hb.2.1 hl
  have Y0 := hid (hb.below B0)
  have HB := hid hb
  have kv4 := fun wx hx => refValue_ (some ⟨b, off + 4, none⟩) 8 (c - 4) (sl zs 4 8) wx hx (by omega)
  have kv12 := fun wx hx => refValue_ (some ⟨b, off + 12, none⟩) 8 (c - 12) (sl zs 12 8) wx hx (by omega)
  have kv20 := fun wx hx => refValue_ (some ⟨b, off + 20, none⟩) 4 (c - 20) (sl zs 20 4) wx hx (by omega)
  have kv24 := fun wx hx => refValue_ (some ⟨b, off + 24, none⟩) 2 (c - 24) (sl zs 24 2) wx hx (by omega)
  rw [u1] at kv24
  unfold maxLen at hm
  have i1 : (512 : Int) ≤ (c : Int) := by omega
  have i3 : (12 : Int) ≤ (c : Int) := by omega
  have i4 : (20 : Int) ≤ (c : Int) := by omega
  have i5 : (24 : Int) ≤ (c : Int) := by omega
  have i6 : (26 : Int) ≤ (c : Int) := by omega
  have i7 : (4 : Int) ≤ (c : Int) := by omega
  have c4 : ¬ c = 4 := by omega
  have c12 : ¬ c = 12 := by omega
  have c20 : ¬ c = 20 := by omega
  have c24 : ¬ c = 24 := by omega
  have c28 : ¬ c = 28 := by omega
  clear hb
  go_enter Tryd.func19, Tryd.ntmps19
  go_wp2_with fail
  refine (kv4 _ (bs_sl Y0.out 4 8 (by omega))).mono ?_
  rintro x1 w1 ⟨rfl, hw⟩
  obtain rfl := hw.symm
  go_wp2_with fail
  refine (kv12 _ (bs_sl Y0.out 12 8 (by omega))).mono ?_
  rintro x1 w1 ⟨rfl, hw⟩
  obtain rfl := hw.symm
  go_wp2_with fail
  refine (kv20 _ (bs_sl Y0.out 20 4 (by omega))).mono ?_
  rintro x1 w1 ⟨rfl, hw⟩
  obtain rfl := hw.symm
  go_wp2_with fail
  refine (kv24 _ (bs_sl Y0.out 24 2 (by omega))).mono ?_
  rintro x1 w1 ⟨rfl, hw⟩
  obtain rfl := hw.symm
  clear kv4 kv12 kv20 kv24 u1 Y0 HB
  generalize val (sl zs 4 8) = E at *
  generalize val (sl zs 12 8) = Q at *
  generalize val (sl zs 20 4) = P at *
  generalize us zs = U at *
  go_wp2_with (with_reducible show wpList _ _ _ (_ :: _) _ _; refine wpList_ss rfl rfl _ _ rfl w.heap.size ⟨#[]⟩ 0 0 0 none 0 0 rfl rfl _ _ _ _ _ (by with_reducible exact m0) ?_)
  first
    | (refine bodyPost_ret (results_s2 rfl _ _ w.heap.size ⟨#[]⟩ 0 0 0 _ _ rfl rfl m0) rfl ⟨rfl, B0⟩)
    | (refine bodyPost_ret (results_s2 rfl _ _ w.heap.size ⟨#[]⟩ 0 0 0 _ _ rfl rfl (m0.row ⟨#[]⟩ 0 0 0 (.slice none 0 0))) rfl ⟨rfl, bel_row B0 (Nat.le_refl _) _⟩)
set_option maxHeartbeats 4000000 in
theorem refGet_big2 (b off c : Nat) (zs : List Int) (w : World) (hb : Bs w (some ⟨b, off, none⟩) 512 zs) (hc : 512 ≤ c) (hm : c ≤ maxLen) (hE : val (sl zs 4 8) ≤ 4611686018427387904) (hQ : 4611686018427387904 < val (sl zs 12 8)) :
    Calls Tryd.prog 19 #[.slice (some ⟨b, off, none⟩) 512 c] w fun en w' => en = .returned (.tuple #[.agg #[.string ⟨#[]⟩, .int .i64 0, .int .i64 0, .int .i64 0, .slice none 0 0], .int .i64 117]) ∧ Below w.heap.size w w' := by
  have m0 := Sm.new w ⟨#[]⟩ 0 0 0 (.slice none 0 0)
  have B0 := snew w ⟨#[]⟩ 0 0 0 (.slice none 0 0)
  have hl := hb.1
  have v1 := val_bd hb.2.1 (i := 4) (n := 8) (by omega)
  have v2 := val_bd hb.2.1 (i := 12) (n := 8) (by omega)
  have v3 := val_bd hb.2.1 (i := 20) (n := 4) (by omega)
  obtain ⟨u1, u2⟩ := us_eq hb.2.1 hl
  have Y0 := hid (hb.below B0)
  have HB := hid hb
  have kv4 := fun wx hx => refValue_ (some ⟨b, off + 4, none⟩) 8 (c - 4) (sl zs 4 8) wx hx (by omega)
  have kv12 := fun wx hx => refValue_ (some ⟨b, off + 12, none⟩) 8 (c - 12) (sl zs 12 8) wx hx (by omega)
  have kv20 := fun wx hx => refValue_ (some ⟨b, off + 20, none⟩) 4 (c - 20) (sl zs 20 4) wx hx (by omega)
  have kv24 := fun wx hx => refValue_ (some ⟨b, off + 24, none⟩) 2 (c - 24) (sl zs 24 2) wx hx (by omega)
  rw [u1] at kv24
  unfold maxLen at hm
  have i1 : (512 : Int) ≤ (c : Int) := by omega
  have i3 : (12 : Int) ≤ (c : Int) := by omega
  have i4 : (20 : Int) ≤ (c : Int) := by omega
  have i5 : (24 : Int) ≤ (c : Int) := by omega
  have i6 : (26 : Int) ≤ (c : Int) := by omega
  have i7 : (4 : Int) ≤ (c : Int) := by omega
  have c4 : ¬ c = 4 := by omega
  have c12 : ¬ c = 12 := by omega
  have c20 : ¬ c = 20 := by omega
  have c24 : ¬ c = 24 := by omega
  have c28 : ¬ c = 28 := by omega
  clear hb
  go_enter Tryd.func19, Tryd.ntmps19
  go_wp2_with fail
  refine (kv4 _ (bs_sl Y0.out 4 8 (by omega))).mono ?_
  rintro x1 w1 ⟨rfl, hw⟩
  obtain rfl := hw.symm
  go_wp2_with fail
  refine (kv12 _ (bs_sl Y0.out 12 8 (by omega))).mono ?_
  rintro x1 w1 ⟨rfl, hw⟩
  obtain rfl := hw.symm
  go_wp2_with fail
  refine (kv20 _ (bs_sl Y0.out 20 4 (by omega))).mono ?_
  rintro x1 w1 ⟨rfl, hw⟩
  obtain rfl := hw.symm
  go_wp2_with fail
  refine (kv24 _ (bs_sl Y0.out 24 2 (by omega))).mono ?_
  rintro x1 w1 ⟨rfl, hw⟩
  obtain rfl := hw.symm
  clear kv4 kv12 kv20 kv24 u1 Y0 HB
  generalize val (sl zs 4 8) = E at *
  generalize val (sl zs 12 8) = Q at *
  generalize val (sl zs 20 4) = P at *
  generalize us zs = U at *
  go_wp2_with (with_reducible show wpList _ _ _ (_ :: _) _ _; refine wpList_ss rfl rfl _ _ rfl w.heap.size ⟨#[]⟩ 0 0 0 none 0 0 rfl rfl _ _ _ _ _ (by with_reducible exact m0) ?_)
  first
    | (refine bodyPost_ret (results_s2 rfl _ _ w.heap.size ⟨#[]⟩ 0 0 0 _ _ rfl rfl m0) rfl ⟨rfl, B0⟩)
    | (refine bodyPost_ret (results_s2 rfl _ _ w.heap.size ⟨#[]⟩ 0 0 0 _ _ rfl rfl (m0.row ⟨#[]⟩ 0 0 0 (.slice none 0 0))) rfl ⟨rfl, bel_row B0 (Nat.le_refl _) _⟩)
set_option maxHeartbeats 4000000 in
theorem refGet_big3 (b off c : Nat) (zs : List Int) (w : World) (hb : Bs w (some ⟨b, off, none⟩) 512 zs) (hc : 512 ≤ c) (hm : c ≤ maxLen) (hE : val (sl zs 4 8) ≤ 4611686018427387904) (hQ : val (sl zs 12 8) ≤ 4611686018427387904) (hU : 480 < us zs) :
    Calls Tryd.prog 19 #[.slice (some ⟨b, off, none⟩) 512 c] w fun en w' => en = .returned (.tuple #[.agg #[.string ⟨#[]⟩, .int .i64 0, .int .i64 0, .int .i64 0, .slice none 0 0], .int .i64 117]) ∧ Below w.heap.size w w' := by
  have m0 := Sm.new w ⟨#[]⟩ 0 0 0 (.slice none 0 0)
  have B0 := snew w ⟨#[]⟩ 0 0 0 (.slice none 0 0)
  have hl := hb.1
  have v1 := val_bd hb.2.1 (i := 4) (n := 8) (by omega)
  have v2 := val_bd hb.2.1 (i := 12) (n := 8) (by omega)
  have v3 := val_bd hb.2.1 (i := 20) (n := 4) (by omega)
  obtain ⟨u1, u2⟩ := us_eq hb.2.1 hl
  have Y0 := hid (hb.below B0)
  have HB := hid hb
  have kv4 := fun wx hx => refValue_ (some ⟨b, off + 4, none⟩) 8 (c - 4) (sl zs 4 8) wx hx (by omega)
  have kv12 := fun wx hx => refValue_ (some ⟨b, off + 12, none⟩) 8 (c - 12) (sl zs 12 8) wx hx (by omega)
  have kv20 := fun wx hx => refValue_ (some ⟨b, off + 20, none⟩) 4 (c - 20) (sl zs 20 4) wx hx (by omega)
  have kv24 := fun wx hx => refValue_ (some ⟨b, off + 24, none⟩) 2 (c - 24) (sl zs 24 2) wx hx (by omega)
  rw [u1] at kv24
  unfold maxLen at hm
  have i1 : (512 : Int) ≤ (c : Int) := by omega
  have i3 : (12 : Int) ≤ (c : Int) := by omega
  have i4 : (20 : Int) ≤ (c : Int) := by omega
  have i5 : (24 : Int) ≤ (c : Int) := by omega
  have i6 : (26 : Int) ≤ (c : Int) := by omega
  have i7 : (4 : Int) ≤ (c : Int) := by omega
  have c4 : ¬ c = 4 := by omega
  have c12 : ¬ c = 12 := by omega
  have c20 : ¬ c = 20 := by omega
  have c24 : ¬ c = 24 := by omega
  have c28 : ¬ c = 28 := by omega
  clear hb
  go_enter Tryd.func19, Tryd.ntmps19
  go_wp2_with fail
  refine (kv4 _ (bs_sl Y0.out 4 8 (by omega))).mono ?_
  rintro x1 w1 ⟨rfl, hw⟩
  obtain rfl := hw.symm
  go_wp2_with fail
  refine (kv12 _ (bs_sl Y0.out 12 8 (by omega))).mono ?_
  rintro x1 w1 ⟨rfl, hw⟩
  obtain rfl := hw.symm
  go_wp2_with fail
  refine (kv20 _ (bs_sl Y0.out 20 4 (by omega))).mono ?_
  rintro x1 w1 ⟨rfl, hw⟩
  obtain rfl := hw.symm
  go_wp2_with fail
  refine (kv24 _ (bs_sl Y0.out 24 2 (by omega))).mono ?_
  rintro x1 w1 ⟨rfl, hw⟩
  obtain rfl := hw.symm
  clear kv4 kv12 kv20 kv24 u1 Y0 HB
  generalize val (sl zs 4 8) = E at *
  generalize val (sl zs 12 8) = Q at *
  generalize val (sl zs 20 4) = P at *
  generalize us zs = U at *
  have j1 : (480 : Int) < (U : Int) := by omega
  go_wp2_with (with_reducible show wpList _ _ _ (_ :: _) _ _; refine wpList_ss rfl rfl _ _ rfl w.heap.size ⟨#[]⟩ 0 0 0 none 0 0 rfl rfl _ _ _ _ _ (by with_reducible exact m0) ?_)
  first
    | (refine bodyPost_ret (results_s2 rfl _ _ w.heap.size ⟨#[]⟩ 0 0 0 _ _ rfl rfl m0) rfl ⟨rfl, B0⟩)
    | (refine bodyPost_ret (results_s2 rfl _ _ w.heap.size ⟨#[]⟩ 0 0 0 _ _ rfl rfl (m0.row ⟨#[]⟩ 0 0 0 (.slice none 0 0))) rfl ⟨rfl, bel_row B0 (Nat.le_refl _) _⟩)
theorem may_bounds {zs : List Int} (hl : zs.length = 512) (h : May (rs zs)) : val (sl zs 4 8) ≤ 4611686018427387904 ∧ val (sl zs 12 8) ≤ 4611686018427387904 ∧ us zs ≤ 480 := by
  refine ⟨h.2.1.2, h.2.2.1.2, ?_⟩
  have := h.2.2.2.2
  unfold rs at this
  simp only [sl, List.length_take, List.length_drop] at this
  omega
theorem sameB_eq {xs ys : List Int} : sameB xs ys = true ↔ xs = ys := by unfold sameB; exact decide_eq_true_iff
theorem refGet_y (a : Option Addr) (n c : Nat) (zs : List Int) (w : World) (hb : Bs w a n zs) (hc : n ≤ c) (hm : c ≤ maxLen) (s : Sec) (hs : gs zs = some s) :
    Calls Tryd.prog 19 #[.slice a n c] w fun en w' => ∃ v, en = .returned (.tuple #[.agg #[.string s.T, .int .i64 s.e, .int .i64 s.q, .int .i64 s.p, v], .int .i64 0]) ∧ w'.ownsRow w.heap.size 5 1 v s.l.length (cells s.l) ∧ Below w.heap.size w w' := by
  obtain ⟨hl, hM, hp, rfl⟩ := gs_some hs
  obtain rfl : n = 512 := by rw [← hb.1]; exact hl
  rcases id hb.2.2 with h0 | ⟨b, off, rfl, _⟩
  · omega
  obtain ⟨b1, b2, b3⟩ := may_bounds hl hM
  have hlen : (rs zs).l.length = us zs := sl_length (by omega)
  refine (refGet_mid b off c zs w hb hc hm b1 b2 b3).mono ?_
  rintro en w' ⟨⟨v, _, rfl, h2⟩ | ⟨hf, _⟩, h3⟩
  · exact ⟨v, rfl, by rw [hlen]; exact h2, h3⟩
  · exact absurd ⟨hM, sameB_eq.2 hp.symm⟩ hf
theorem refGet_n (a : Option Addr) (n c : Nat) (zs : List Int) (w : World) (hb : Bs w a n zs) (hc : n ≤ c) (hm : c ≤ maxLen) (hs : gs zs = none) :
    Calls Tryd.prog 19 #[.slice a n c] w fun en w' => en = .returned (.tuple #[.agg #[.string ⟨#[]⟩, .int .i64 0, .int .i64 0, .int .i64 0, .slice none 0 0], .int .i64 117]) ∧ Below w.heap.size w w' := by
  by_cases hn : n = 512
  · subst hn
    rcases id hb.2.2 with h0 | ⟨b, off, rfl, _⟩
    · omega
    by_cases b1 : val (sl zs 4 8) ≤ 4611686018427387904
    · by_cases b2 : val (sl zs 12 8) ≤ 4611686018427387904
      · by_cases b3 : us zs ≤ 480
        · refine (refGet_mid b off c zs w hb hc hm b1 b2 b3).mono ?_
          rintro en w' ⟨⟨v, ⟨h1, h2⟩, _⟩ | ⟨_, rfl⟩, h3⟩
          · exfalso
            unfold gs at hs
            rw [if_pos ⟨hb.1, h1, (sameB_eq.1 h2).symm⟩] at hs
            cases hs
          · exact ⟨rfl, h3⟩
        · exact refGet_big3 b off c zs w hb hc hm b1 b2 (by omega)
      · exact refGet_big2 b off c zs w hb hc hm b1 (by omega)
    · exact refGet_big1 b off c zs w hb hc hm (by omega)
  · exact refGet_len a n c w hn
set_option maxHeartbeats 4000000 in
theorem refRight_len (a : Option Addr) (n c : Nat) (T : ByteArray) (e q p : Int) (w : World) (hn : n ≠ 512) :
    Calls Tryd.prog 18 #[.slice a n c, .string T, .int .i64 e, .int .i64 q, .int .i64 p] w fun en w' => en = .returned (.tuple #[.slice none 0 0, .bool false]) ∧ Below w.heap.size w w' := by
  have c1 : ((n : Int) != 512) = true := by rw [bne_iff_ne]; omega
  go_enter Tryd.func18, Tryd.ntmps18
  go_wp2
  go_ret2
  exact ⟨rfl, Below.refl _ _⟩
set_option maxHeartbeats 4000000 in
theorem refRight_tag (b off c : Nat) (T : ByteArray) (e q p : Int) (zs : List Int) (w : World) (hb : Bs w (some ⟨b, off, none⟩) 512 zs) (hc : 512 ≤ c) (hm : c ≤ maxLen) (hT : bt (sl zs 0 4) ≠ T) :
    Calls Tryd.prog 18 #[.slice (some ⟨b, off, none⟩) 512 c, .string T, .int .i64 e, .int .i64 q, .int .i64 p] w fun en w' => en = .returned (.tuple #[.slice none 0 0, .bool false]) ∧ Below w.heap.size w w' := by
  unfold maxLen at hm
  have i7 : (4 : Int) ≤ (c : Int) := by omega
  have kt := kt4_ (c := c) hb.2.1 hb.1 (bs_cell0 hb) (bs_cell hb 1 (by omega)) (bs_cell hb 2 (by omega)) (bs_cell hb 3 (by omega))
  generalize bt (sl zs 0 4) = T0 at *
  have x0 : ¬ T0.toList = T.toList := fun k => hT (toList_inj k)
  have x1 : (T0.toList == T.toList) = false := by rw [beq_eq_false_iff_ne]; exact x0
  clear hb
  go_enter Tryd.func18, Tryd.ntmps18
  go_wp2
  go_ret2
  exact ⟨rfl, Below.refl _ _⟩
set_option maxHeartbeats 4000000 in
theorem refRight_y (T0 : ByteArray) (e0 q0 p0 : Int) (l : List Int) (b off c : Nat) (zs : List Int) (w : World) (hb : Bs w (some ⟨b, off, none⟩) 512 zs) (hc : 512 ≤ c) (hm : c ≤ maxLen) (hs : gs zs = some ⟨T0, e0, q0, p0, l⟩) :
    Calls Tryd.prog 18 #[.slice (some ⟨b, off, none⟩) 512 c, .string T0, .int .i64 e0, .int .i64 q0, .int .i64 p0] w fun en w' => ∃ a1 c1, en = .returned (.tuple #[.slice a1 l.length c1, .bool true]) ∧ w'.ownsRow w.heap.size 5 1 (.slice a1 l.length c1) l.length (cells l) ∧ Below w.heap.size w w' := by
  unfold maxLen at hm
  have i7 : (4 : Int) ≤ (c : Int) := by omega
  have kt := kt4_ (c := c) hb.2.1 hb.1 (bs_cell0 hb) (bs_cell hb 1 (by omega)) (bs_cell hb 2 (by omega)) (bs_cell hb 3 (by omega))
  have HB := hid hb
  clear hb
  have ht : bt (sl zs 0 4) = T0 := by
    have := (gs_some hs).2.2.2
    exact (congrArg Sec.T this).symm
  rw [ht] at kt
  go_enter Tryd.func18, Tryd.ntmps18
  go_wp2_with fail
  refine (refGet_y (some ⟨b, off, none⟩) 512 c zs w HB.out hc (by unfold maxLen; omega) ⟨T0, e0, q0, p0, l⟩ hs).mono ?_
  rintro x1 w1 ⟨v, rfl, ov, g1⟩
  simp only
  have HYL : By l := by
    have := (gs_some hs).2.2.2
    have e := congrArg Sec.l this
    simp only at e
    rw [e]; exact sl_by HB.out.2.1 _ _
  obtain ⟨av, cv, rfl, _⟩ := own_form ov HYL
  have OV := hid ov
  generalize hln : l.length = n at *
  have m1 := Sm.new w1 T0 e0 q0 p0 (.slice av n cv)
  have B1 : Below w.heap.size w (w1.alloc (.cells #[.string T0, .int .i64 e0, .int .i64 q0, .int .i64 p0, .slice av n cv] 24)) := g1.alloc g1.size _
  have O2 := hid (own_bel (B := 0) OV.out ((Below.refl _ w1).alloc (Nat.le_refl _) (.cells #[.string T0, .int .i64 e0, .int .i64 q0, .int .i64 p0, .slice av n cv] 24)))
  have BB := hid B1
  have d0 := m1.c0
  have d1 := m1.c1
  have d2 := m1.c2
  have d3 := m1.c3
  have d4 := m1.c4
  clear m1 B1 ov OV g1 hs ht kt HYL
  have x1 : (e0 != e0) = false := by simp
  have x2 : (q0 != q0) = false := by simp
  have x3 : (p0 != p0) = false := by simp
  go_wp2
  go_ret2
  exact ⟨av, cv, rfl, O2.out, BB.out⟩
set_option maxHeartbeats 4000000 in
theorem refRight_0 (T : ByteArray) (e q p : Int) (b off c : Nat) (zs : List Int) (w : World) (hb : Bs w (some ⟨b, off, none⟩) 512 zs) (hc : 512 ≤ c) (hm : c ≤ maxLen) (hT : bt (sl zs 0 4) = T) (hs : gs zs = none) :
    Calls Tryd.prog 18 #[.slice (some ⟨b, off, none⟩) 512 c, .string T, .int .i64 e, .int .i64 q, .int .i64 p] w fun en w' => en = .returned (.tuple #[.slice none 0 0, .bool false]) ∧ Below w.heap.size w w' := by
  unfold maxLen at hm
  have i7 : (4 : Int) ≤ (c : Int) := by omega
  have kt := kt4_ (c := c) hb.2.1 hb.1 (bs_cell0 hb) (bs_cell hb 1 (by omega)) (bs_cell hb 2 (by omega)) (bs_cell hb 3 (by omega))
  have HB := hid hb
  clear hb
  rw [hT] at kt
  go_enter Tryd.func18, Tryd.ntmps18
  go_wp2_with fail
  refine (refGet_n (some ⟨b, off, none⟩) 512 c zs w HB.out hc (by unfold maxLen; omega) hs).mono ?_
  rintro x1 w1 ⟨rfl, g1⟩
  have B1 : Below w.heap.size w (w1.alloc (.cells #[.string ⟨#[]⟩, .int .i64 0, .int .i64 0, .int .i64 0, .slice none 0 0] 24)) := g1.alloc g1.size _
  go_wp2
  go_ret2
  exact ⟨rfl, B1⟩
set_option maxHeartbeats 4000000 in
theorem refRight_2 (T0 : ByteArray) (e0 q0 p0 : Int) (l : List Int) (e : Int) (q : Int) (p : Int) (b off c : Nat) (zs : List Int) (w : World) (hb : Bs w (some ⟨b, off, none⟩) 512 zs) (hc : 512 ≤ c) (hm : c ≤ maxLen) (hs : gs zs = some ⟨T0, e0, q0, p0, l⟩) (hne : e0 ≠ e) :
    Calls Tryd.prog 18 #[.slice (some ⟨b, off, none⟩) 512 c, .string T0, .int .i64 e, .int .i64 q, .int .i64 p] w fun en w' => en = .returned (.tuple #[.slice none 0 0, .bool false]) ∧ Below w.heap.size w w' := by
  unfold maxLen at hm
  have i7 : (4 : Int) ≤ (c : Int) := by omega
  have kt := kt4_ (c := c) hb.2.1 hb.1 (bs_cell0 hb) (bs_cell hb 1 (by omega)) (bs_cell hb 2 (by omega)) (bs_cell hb 3 (by omega))
  have HB := hid hb
  clear hb
  have ht : bt (sl zs 0 4) = T0 := by
    have := (gs_some hs).2.2.2
    exact (congrArg Sec.T this).symm
  rw [ht] at kt
  go_enter Tryd.func18, Tryd.ntmps18
  go_wp2_with fail
  refine (refGet_y (some ⟨b, off, none⟩) 512 c zs w HB.out hc (by unfold maxLen; omega) ⟨T0, e0, q0, p0, l⟩ hs).mono ?_
  rintro x1 w1 ⟨v, rfl, ov, g1⟩
  simp only
  have HYL : By l := by
    have := (gs_some hs).2.2.2
    have e := congrArg Sec.l this
    simp only at e
    rw [e]; exact sl_by HB.out.2.1 _ _
  obtain ⟨av, cv, rfl, _⟩ := own_form ov HYL
  have OV := hid ov
  generalize hln : l.length = n at *
  have m1 := Sm.new w1 T0 e0 q0 p0 (.slice av n cv)
  have B1 : Below w.heap.size w (w1.alloc (.cells #[.string T0, .int .i64 e0, .int .i64 q0, .int .i64 p0, .slice av n cv] 24)) := g1.alloc g1.size _
  have O2 := hid (own_bel (B := 0) OV.out ((Below.refl _ w1).alloc (Nat.le_refl _) (.cells #[.string T0, .int .i64 e0, .int .i64 q0, .int .i64 p0, .slice av n cv] 24)))
  have BB := hid B1
  have d0 := m1.c0
  have d1 := m1.c1
  have d2 := m1.c2
  have d3 := m1.c3
  have d4 := m1.c4
  clear m1 B1 ov OV g1 hs ht kt HYL
  have x1 : (e0 != e) = true := by rw [bne_iff_ne]; exact hne
  go_wp2
  go_ret2
  exact ⟨rfl, BB.out⟩
set_option maxHeartbeats 4000000 in
theorem refRight_3 (T0 : ByteArray) (e0 q0 p0 : Int) (l : List Int) (q : Int) (p : Int) (b off c : Nat) (zs : List Int) (w : World) (hb : Bs w (some ⟨b, off, none⟩) 512 zs) (hc : 512 ≤ c) (hm : c ≤ maxLen) (hs : gs zs = some ⟨T0, e0, q0, p0, l⟩) (hne : q0 ≠ q) :
    Calls Tryd.prog 18 #[.slice (some ⟨b, off, none⟩) 512 c, .string T0, .int .i64 e0, .int .i64 q, .int .i64 p] w fun en w' => en = .returned (.tuple #[.slice none 0 0, .bool false]) ∧ Below w.heap.size w w' := by
  unfold maxLen at hm
  have i7 : (4 : Int) ≤ (c : Int) := by omega
  have kt := kt4_ (c := c) hb.2.1 hb.1 (bs_cell0 hb) (bs_cell hb 1 (by omega)) (bs_cell hb 2 (by omega)) (bs_cell hb 3 (by omega))
  have HB := hid hb
  clear hb
  have ht : bt (sl zs 0 4) = T0 := by
    have := (gs_some hs).2.2.2
    exact (congrArg Sec.T this).symm
  rw [ht] at kt
  go_enter Tryd.func18, Tryd.ntmps18
  go_wp2_with fail
  refine (refGet_y (some ⟨b, off, none⟩) 512 c zs w HB.out hc (by unfold maxLen; omega) ⟨T0, e0, q0, p0, l⟩ hs).mono ?_
  rintro x1 w1 ⟨v, rfl, ov, g1⟩
  simp only
  have HYL : By l := by
    have := (gs_some hs).2.2.2
    have e := congrArg Sec.l this
    simp only at e
    rw [e]; exact sl_by HB.out.2.1 _ _
  obtain ⟨av, cv, rfl, _⟩ := own_form ov HYL
  have OV := hid ov
  generalize hln : l.length = n at *
  have m1 := Sm.new w1 T0 e0 q0 p0 (.slice av n cv)
  have B1 : Below w.heap.size w (w1.alloc (.cells #[.string T0, .int .i64 e0, .int .i64 q0, .int .i64 p0, .slice av n cv] 24)) := g1.alloc g1.size _
  have O2 := hid (own_bel (B := 0) OV.out ((Below.refl _ w1).alloc (Nat.le_refl _) (.cells #[.string T0, .int .i64 e0, .int .i64 q0, .int .i64 p0, .slice av n cv] 24)))
  have BB := hid B1
  have d0 := m1.c0
  have d1 := m1.c1
  have d2 := m1.c2
  have d3 := m1.c3
  have d4 := m1.c4
  clear m1 B1 ov OV g1 hs ht kt HYL
  have x1 : (e0 != e0) = false := by simp
  have x2 : (q0 != q) = true := by rw [bne_iff_ne]; exact hne
  go_wp2
  go_ret2
  exact ⟨rfl, BB.out⟩
set_option maxHeartbeats 4000000 in
theorem refRight_4 (T0 : ByteArray) (e0 q0 p0 : Int) (l : List Int) (p : Int) (b off c : Nat) (zs : List Int) (w : World) (hb : Bs w (some ⟨b, off, none⟩) 512 zs) (hc : 512 ≤ c) (hm : c ≤ maxLen) (hs : gs zs = some ⟨T0, e0, q0, p0, l⟩) (hne : p0 ≠ p) :
    Calls Tryd.prog 18 #[.slice (some ⟨b, off, none⟩) 512 c, .string T0, .int .i64 e0, .int .i64 q0, .int .i64 p] w fun en w' => en = .returned (.tuple #[.slice none 0 0, .bool false]) ∧ Below w.heap.size w w' := by
  unfold maxLen at hm
  have i7 : (4 : Int) ≤ (c : Int) := by omega
  have kt := kt4_ (c := c) hb.2.1 hb.1 (bs_cell0 hb) (bs_cell hb 1 (by omega)) (bs_cell hb 2 (by omega)) (bs_cell hb 3 (by omega))
  have HB := hid hb
  clear hb
  have ht : bt (sl zs 0 4) = T0 := by
    have := (gs_some hs).2.2.2
    exact (congrArg Sec.T this).symm
  rw [ht] at kt
  go_enter Tryd.func18, Tryd.ntmps18
  go_wp2_with fail
  refine (refGet_y (some ⟨b, off, none⟩) 512 c zs w HB.out hc (by unfold maxLen; omega) ⟨T0, e0, q0, p0, l⟩ hs).mono ?_
  rintro x1 w1 ⟨v, rfl, ov, g1⟩
  simp only
  have HYL : By l := by
    have := (gs_some hs).2.2.2
    have e := congrArg Sec.l this
    simp only at e
    rw [e]; exact sl_by HB.out.2.1 _ _
  obtain ⟨av, cv, rfl, _⟩ := own_form ov HYL
  have OV := hid ov
  generalize hln : l.length = n at *
  have m1 := Sm.new w1 T0 e0 q0 p0 (.slice av n cv)
  have B1 : Below w.heap.size w (w1.alloc (.cells #[.string T0, .int .i64 e0, .int .i64 q0, .int .i64 p0, .slice av n cv] 24)) := g1.alloc g1.size _
  have O2 := hid (own_bel (B := 0) OV.out ((Below.refl _ w1).alloc (Nat.le_refl _) (.cells #[.string T0, .int .i64 e0, .int .i64 q0, .int .i64 p0, .slice av n cv] 24)))
  have BB := hid B1
  have d0 := m1.c0
  have d1 := m1.c1
  have d2 := m1.c2
  have d3 := m1.c3
  have d4 := m1.c4
  clear m1 B1 ov OV g1 hs ht kt HYL
  have x1 : (e0 != e0) = false := by simp
  have x2 : (q0 != q0) = false := by simp
  have x3 : (p0 != p) = true := by rw [bne_iff_ne]; exact hne
  go_wp2
  go_ret2
  exact ⟨rfl, BB.out⟩
theorem refRight_n (T : ByteArray) (e q p : Int) (a : Option Addr) (n0 c : Nat) (zs : List Int) (w : World) (hb : Bs w a n0 zs) (hc : n0 ≤ c) (hm : c ≤ maxLen) (hs : rt zs T e q p = none) :
    Calls Tryd.prog 18 #[.slice a n0 c, .string T, .int .i64 e, .int .i64 q, .int .i64 p] w fun en w' => en = .returned (.tuple #[.slice none 0 0, .bool false]) ∧ Below w.heap.size w w' := by
  by_cases hn : n0 = 512
  · subst hn
    rcases id hb.2.2 with h0 | ⟨b, off, rfl, _⟩
    · omega
    by_cases hT : bt (sl zs 0 4) = T
    · cases hg : gs zs with
      | none => exact refRight_0 T e q p b off c zs w hb hc hm hT hg
      | some s =>
        have hT2 : s.T = T := by rw [(gs_some hg).2.2.2]; exact hT
        obtain ⟨T0, e0, q0, p0, l⟩ := s
        simp only at hT2
        subst hT2
        unfold rt at hs
        rw [hg] at hs
        simp only at hs
        by_cases h2 : e0 = e
        · subst h2
          by_cases h3 : q0 = q
          · subst h3
            by_cases h4 : p0 = p
            · subst h4
              simp at hs
            · exact refRight_4 T0 e0 q0 p0 l p b off c zs w hb hc hm hg h4
          · exact refRight_3 T0 e0 q0 p0 l q p b off c zs w hb hc hm hg h3
        · exact refRight_2 T0 e0 q0 p0 l e q p b off c zs w hb hc hm hg h2
    · exact refRight_tag b off c T e q p zs w hb hc hm hT
  · exact refRight_len a n0 c T e q p w hn
end Go.Proofs.YtfmdnfbcfhojpaaDoor
