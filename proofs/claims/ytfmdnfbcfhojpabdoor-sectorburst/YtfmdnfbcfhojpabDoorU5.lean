import Derived.Test.YtfmdnfbcfhojpabDoorU4
namespace Go.Proofs.YtfmdnfbcfhojpabDoor
set_option maxRecDepth 100000
open Go.RowKit
set_option linter.unusedVariables false

set_option maxHeartbeats 4000000 in
theorem refGet_big1 (b off c : Nat) (zs : List Int) (w : World) (hb : Bs w (some ⟨b, off, none⟩) 512 zs) (hc : 512 ≤ c) (hm : c ≤ maxLen) (hE : 4611686018427387904 < val (sl zs 4 8)) :
    Calls Tryd.prog 12 #[.slice (some ⟨b, off, none⟩) 512 c] w fun en w' => en = .returned (.tuple #[.agg #[.string ⟨#[]⟩, .int .i64 0, .int .i64 0, .int .i64 0, .slice none 0 0], .int .i64 117]) ∧ Below w.heap.size w w' := by
  have m0 := Sm.new w ⟨#[]⟩ 0 0 0 (.slice none 0 0)
  have B0 := snew w ⟨#[]⟩ 0 0 0 (.slice none 0 0)
  have hl := hb.1
  have v1 := val_bd hb.2.1 (i := 4) (n := 8) (by omega)
  have v2 := val_bd hb.2.1 (i := 12) (n := 8) (by omega)
  have v3 := val_bd hb.2.1 (i := 20) (n := 4) (by omega)
  obtain ⟨u1, u2⟩ := us_eq hb.2.1 hl
  have Y0 := hid (hb.below B0)
  have HB := hid hb
  have kv4 := fun wx hx => refValue_ (some ⟨b, off + 4, none⟩) 8 (c - 4) (sl zs 4 8) wx hx (by omega)
  have kv12 := fun wx hx => refValue_ (some ⟨b, off + 12, none⟩) 8 (c - 12) (sl zs 12 8) wx hx (by omega)
  have kv20 := fun wx hx => refValue_ (some ⟨b, off + 20, none⟩) 4 (c - 20) (sl zs 20 4) wx hx (by omega)
  have kv24 := fun wx hx => refValue_ (some ⟨b, off + 24, none⟩) 2 (c - 24) (sl zs 24 2) wx hx (by omega)
  rw [u1] at kv24
  unfold maxLen at hm
  have i1 : (512 : Int) ≤ (c : Int) := by omega
  have i3 : (12 : Int) ≤ (c : Int) := by omega
  have i4 : (20 : Int) ≤ (c : Int) := by omega
  have i5 : (24 : Int) ≤ (c : Int) := by omega
  have i6 : (26 : Int) ≤ (c : Int) := by omega
  have i7 : (4 : Int) ≤ (c : Int) := by omega
  have c4 : ¬ c = 4 := by omega
  have c12 : ¬ c = 12 := by omega
  have c20 : ¬ c = 20 := by omega
  have c24 : ¬ c = 24 := by omega
  have c28 : ¬ c = 28 := by omega
  clear hb
  go_enter Tryd.func12, Tryd.ntmps12
  go_wp2_with fail
  refine (kv4 _ (bs_sl Y0.out 4 8 (by omega))).mono ?_
  rintro x1 w1 ⟨rfl, hw⟩
  obtain rfl := hw.symm
  go_wp2_with fail
  refine (kv12 _ (bs_sl Y0.out 12 8 (by omega))).mono ?_
  rintro x1 w1 ⟨rfl, hw⟩
  obtain rfl := hw.symm
  go_wp2_with fail
  refine (kv20 _ (bs_sl Y0.out 20 4 (by omega))).mono ?_
  rintro x1 w1 ⟨rfl, hw⟩
  obtain rfl := hw.symm
  go_wp2_with fail
  refine (kv24 _ (bs_sl Y0.out 24 2 (by omega))).mono ?_
  rintro x1 w1 ⟨rfl, hw⟩
  obtain rfl := hw.symm
  clear kv4 kv12 kv20 kv24 u1 Y0 HB
  generalize val (sl zs 4 8) = E at *
  generalize val (sl zs 12 8) = Q at *
  generalize val (sl zs 20 4) = P at *
  generalize us zs = U at *
  go_wp2_with (with_reducible show wpList _ _ _ (_ :: _) _ _; refine wpList_ss rfl rfl _ _ rfl w.heap.size ⟨#[]⟩ 0 0 0 none 0 0 rfl rfl _ _ _ _ _ (by with_reducible exact m0) ?_)
  first
    | (refine bodyPost_ret (results_s2 rfl _ _ w.heap.size ⟨#[]⟩ 0 0 0 _ _ rfl rfl m0) rfl ⟨rfl, B0⟩)
    | (refine bodyPost_ret (results_s2 rfl _ _ w.heap.size ⟨#[]⟩ 0 0 0 _ _ rfl rfl (m0.row ⟨#[]⟩ 0 0 0 (.slice none 0 0))) rfl ⟨rfl, bel_row B0 (Nat.le_refl _) _⟩)
set_option maxHeartbeats 4000000 in
theorem refGet_big2 (b off c : Nat) (zs : List Int) (w : World) (hb : Bs w (some ⟨b, off, none⟩) 512 zs) (hc : 512 ≤ c) (hm : c ≤ maxLen) (hE : val (sl zs 4 8) ≤ 4611686018427387904) (hQ : 4611686018427387904 < val (sl zs 12 8)) :
    Calls Tryd.prog 12 #[.slice (some ⟨b, off, none⟩) 512 c] w fun en w' => en = .returned (.tuple #[.agg #[.string ⟨#[]⟩, .int .i64 0, .int .i64 0, .int .i64 0, .slice none 0 0], .int .i64 117]) ∧ Below w.heap.size w w' := by
  have m0 := Sm.new w ⟨#[]⟩ 0 0 0 (.slice none 0 0)
  have B0 := snew w ⟨#[]⟩ 0 0 0 (.slice none 0 0)
  have hl := hb.1
  have v1 := val_bd hb.2.1 (i := 4) (n := 8) (by omega)
  have v2 := val_bd hb.2.1 (i := 12) (n := 8) (by omega)
  have v3 := val_bd hb.2.1 (i := 20) (n := 4) (by omega)
  obtain ⟨u1, u2⟩ := us_eq hb.2.1 hl
  have Y0 := hid (hb.below B0)
  have HB := hid hb
  have kv4 := fun wx hx => refValue_ (some ⟨b, off + 4, none⟩) 8 (c - 4) (sl zs 4 8) wx hx (by omega)
  have kv12 := fun wx hx => refValue_ (some ⟨b, off + 12, none⟩) 8 (c - 12) (sl zs 12 8) wx hx (by omega)
  have kv20 := fun wx hx => refValue_ (some ⟨b, off + 20, none⟩) 4 (c - 20) (sl zs 20 4) wx hx (by omega)
  have kv24 := fun wx hx => refValue_ (some ⟨b, off + 24, none⟩) 2 (c - 24) (sl zs 24 2) wx hx (by omega)
  rw [u1] at kv24
  unfold maxLen at hm
  have i1 : (512 : Int) ≤ (c : Int) := by omega
  have i3 : (12 : Int) ≤ (c : Int) := by omega
  have i4 : (20 : Int) ≤ (c : Int) := by omega
  have i5 : (24 : Int) ≤ (c : Int) := by omega
  have i6 : (26 : Int) ≤ (c : Int) := by omega
  have i7 : (4 : Int) ≤ (c : Int) := by omega
  have c4 : ¬ c = 4 := by omega
  have c12 : ¬ c = 12 := by omega
  have c20 : ¬ c = 20 := by omega
  have c24 : ¬ c = 24 := by omega
  have c28 : ¬ c = 28 := by omega
  clear hb
  go_enter Tryd.func12, Tryd.ntmps12
  go_wp2_with fail
  refine (kv4 _ (bs_sl Y0.out 4 8 (by omega))).mono ?_
  rintro x1 w1 ⟨rfl, hw⟩
  obtain rfl := hw.symm
  go_wp2_with fail
  refine (kv12 _ (bs_sl Y0.out 12 8 (by omega))).mono ?_
  rintro x1 w1 ⟨rfl, hw⟩
  obtain rfl := hw.symm
  go_wp2_with fail
  refine (kv20 _ (bs_sl Y0.out 20 4 (by omega))).mono ?_
  rintro x1 w1 ⟨rfl, hw⟩
  obtain rfl := hw.symm
  go_wp2_with fail
  refine (kv24 _ (bs_sl Y0.out 24 2 (by omega))).mono ?_
  rintro x1 w1 ⟨rfl, hw⟩
  obtain rfl := hw.symm
  clear kv4 kv12 kv20 kv24 u1 Y0 HB
  generalize val (sl zs 4 8) = E at *
  generalize val (sl zs 12 8) = Q at *
  generalize val (sl zs 20 4) = P at *
  generalize us zs = U at *
  go_wp2_with (with_reducible show wpList _ _ _ (_ :: _) _ _; refine wpList_ss rfl rfl _ _ rfl w.heap.size ⟨#[]⟩ 0 0 0 none 0 0 rfl rfl _ _ _ _ _ (by with_reducible exact m0) ?_)
  first
    | (refine bodyPost_ret (results_s2 rfl _ _ w.heap.size ⟨#[]⟩ 0 0 0 _ _ rfl rfl m0) rfl ⟨rfl, B0⟩)
    | (refine bodyPost_ret (results_s2 rfl _ _ w.heap.size ⟨#[]⟩ 0 0 0 _ _ rfl rfl (m0.row ⟨#[]⟩ 0 0 0 (.slice none 0 0))) rfl ⟨rfl, bel_row B0 (Nat.le_refl _) _⟩)
set_option maxHeartbeats 4000000 in
theorem refGet_big3 (b off c : Nat) (zs : List Int) (w : World) (hb : Bs w (some ⟨b, off, none⟩) 512 zs) (hc : 512 ≤ c) (hm : c ≤ maxLen) (hE : val (sl zs 4 8) ≤ 4611686018427387904) (hQ : val (sl zs 12 8) ≤ 4611686018427387904) (hU : 480 < us zs) :
    Calls Tryd.prog 12 #[.slice (some ⟨b, off, none⟩) 512 c] w fun en w' => en = .returned (.tuple #[.agg #[.string ⟨#[]⟩, .int .i64 0, .int .i64 0, .int .i64 0, .slice none 0 0], .int .i64 117]) ∧ Below w.heap.size w w' := by
  have m0 := Sm.new w ⟨#[]⟩ 0 0 0 (.slice none 0 0)
  have B0 := snew w ⟨#[]⟩ 0 0 0 (.slice none 0 0)
  have hl := hb.1
  have v1 := val_bd hb.2.1 (i := 4) (n := 8) (by omega)
  have v2 := val_bd hb.2.1 (i := 12) (n := 8) (by omega)
  have v3 := val_bd hb.2.1 (i := 20) (n := 4) (by omega)
  obtain ⟨u1, u2⟩ := us_eq hb.2.1 hl
  have Y0 := hid (hb.below B0)
  have HB := hid hb
  have kv4 := fun wx hx => refValue_ (some ⟨b, off + 4, none⟩) 8 (c - 4) (sl zs 4 8) wx hx (by omega)
  have kv12 := fun wx hx => refValue_ (some ⟨b, off + 12, none⟩) 8 (c - 12) (sl zs 12 8) wx hx (by omega)
  have kv20 := fun wx hx => refValue_ (some ⟨b, off + 20, none⟩) 4 (c - 20) (sl zs 20 4) wx hx (by omega)
  have kv24 := fun wx hx => refValue_ (some ⟨b, off + 24, none⟩) 2 (c - 24) (sl zs 24 2) wx hx (by omega)
  rw [u1] at kv24
  unfold maxLen at hm
  have i1 : (512 : Int) ≤ (c : Int) := by omega
  have i3 : (12 : Int) ≤ (c : Int) := by omega
  have i4 : (20 : Int) ≤ (c : Int) := by omega
  have i5 : (24 : Int) ≤ (c : Int) := by omega
  have i6 : (26 : Int) ≤ (c : Int) := by omega
  have i7 : (4 : Int) ≤ (c : Int) := by omega
  have c4 : ¬ c = 4 := by omega
  have c12 : ¬ c = 12 := by omega
  have c20 : ¬ c = 20 := by omega
  have c24 : ¬ c = 24 := by omega
  have c28 : ¬ c = 28 := by omega
  clear hb
  go_enter Tryd.func12, Tryd.ntmps12
  go_wp2_with fail
  refine (kv4 _ (bs_sl Y0.out 4 8 (by omega))).mono ?_
  rintro x1 w1 ⟨rfl, hw⟩
  obtain rfl := hw.symm
  go_wp2_with fail
  refine (kv12 _ (bs_sl Y0.out 12 8 (by omega))).mono ?_
  rintro x1 w1 ⟨rfl, hw⟩
  obtain rfl := hw.symm
  go_wp2_with fail
  refine (kv20 _ (bs_sl Y0.out 20 4 (by omega))).mono ?_
  rintro x1 w1 ⟨rfl, hw⟩
  obtain rfl := hw.symm
  go_wp2_with fail
  refine (kv24 _ (bs_sl Y0.out 24 2 (by omega))).mono ?_
  rintro x1 w1 ⟨rfl, hw⟩
  obtain rfl := hw.symm
  clear kv4 kv12 kv20 kv24 u1 Y0 HB
  generalize val (sl zs 4 8) = E at *
  generalize val (sl zs 12 8) = Q at *
  generalize val (sl zs 20 4) = P at *
  generalize us zs = U at *
  have j1 : (480 : Int) < (U : Int) := by omega
  go_wp2_with (with_reducible show wpList _ _ _ (_ :: _) _ _; refine wpList_ss rfl rfl _ _ rfl w.heap.size ⟨#[]⟩ 0 0 0 none 0 0 rfl rfl _ _ _ _ _ (by with_reducible exact m0) ?_)
  first
    | (refine bodyPost_ret (results_s2 rfl _ _ w.heap.size ⟨#[]⟩ 0 0 0 _ _ rfl rfl m0) rfl ⟨rfl, B0⟩)
    | (refine bodyPost_ret (results_s2 rfl _ _ w.heap.size ⟨#[]⟩ 0 0 0 _ _ rfl rfl (m0.row ⟨#[]⟩ 0 0 0 (.slice none 0 0))) rfl ⟨rfl, bel_row B0 (Nat.le_refl _) _⟩)
theorem may_bounds {zs : List Int} (hl : zs.length = 512) (h : May (rs zs)) : val (sl zs 4 8) ≤ 4611686018427387904 ∧ val (sl zs 12 8) ≤ 4611686018427387904 ∧ us zs ≤ 480 := by
  refine ⟨h.2.1.2, h.2.2.1.2, ?_⟩
  have := h.2.2.2.2
  unfold rs at this
  simp only [sl, List.length_take, List.length_drop] at this
  omega
theorem sameB_eq {xs ys : List Int} : sameB xs ys = true ↔ xs = ys := by unfold sameB; exact decide_eq_true_iff
theorem refGet_y (a : Option Addr) (n c : Nat) (zs : List Int) (w : World) (hb : Bs w a n zs) (hc : n ≤ c) (hm : c ≤ maxLen) (s : Sec) (hs : gs zs = some s) :
    Calls Tryd.prog 12 #[.slice a n c] w fun en w' => ∃ v, en = .returned (.tuple #[.agg #[.string s.T, .int .i64 s.e, .int .i64 s.q, .int .i64 s.p, v], .int .i64 0]) ∧ w'.ownsRow w.heap.size 5 1 v s.l.length (cells s.l) ∧ Below w.heap.size w w' := by
  obtain ⟨hl, hM, hp, rfl⟩ := gs_some hs
  obtain rfl : n = 512 := by rw [← hb.1]; exact hl
  rcases id hb.2.2 with h0 | ⟨b, off, rfl, _⟩
  · omega
  obtain ⟨b1, b2, b3⟩ := may_bounds hl hM
  have hlen : (rs zs).l.length = us zs := sl_length (by omega)
  refine (refGet_mid b off c zs w hb hc hm b1 b2 b3).mono ?_
  rintro en w' ⟨⟨v, _, rfl, h2⟩ | ⟨hf, _⟩, h3⟩
  · exact ⟨v, rfl, by rw [hlen]; exact h2, h3⟩
  · exact absurd ⟨hM, sameB_eq.2 hp.symm⟩ hf
theorem refGet_n (a : Option Addr) (n c : Nat) (zs : List Int) (w : World) (hb : Bs w a n zs) (hc : n ≤ c) (hm : c ≤ maxLen) (hs : gs zs = none) :
    Calls Tryd.prog 12 #[.slice a n c] w fun en w' => en = .returned (.tuple #[.agg #[.string ⟨#[]⟩, .int .i64 0, .int .i64 0, .int .i64 0, .slice none 0 0], .int .i64 117]) ∧ Below w.heap.size w w' := by
  by_cases hn : n = 512
  · subst hn
    rcases id hb.2.2 with h0 | ⟨b, off, rfl, _⟩
    · omega
    by_cases b1 : val (sl zs 4 8) ≤ 4611686018427387904
    · by_cases b2 : val (sl zs 12 8) ≤ 4611686018427387904
      · by_cases b3 : us zs ≤ 480
        · refine (refGet_mid b off c zs w hb hc hm b1 b2 b3).mono ?_
          rintro en w' ⟨⟨v, ⟨h1, h2⟩, _⟩ | ⟨_, rfl⟩, h3⟩
          · exfalso
            unfold gs at hs
            rw [if_pos ⟨hb.1, h1, (sameB_eq.1 h2).symm⟩] at hs
            cases hs
          · exact ⟨rfl, h3⟩
        · exact refGet_big3 b off c zs w hb hc hm b1 b2 (by omega)
      · exact refGet_big2 b off c zs w hb hc hm b1 (by omega)
    · exact refGet_big1 b off c zs w hb hc hm (by omega)
  · exact refGet_len a n c w hn
end Go.Proofs.YtfmdnfbcfhojpabDoor
