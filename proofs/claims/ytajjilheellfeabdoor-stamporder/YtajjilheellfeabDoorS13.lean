import Derived.Test.YtajjilheellfeabDoorF6
import Derived.Test.YtajjilheellfeabDoorS9
namespace Go.Proofs.YtajjilheellfeabDoor
open Go.RowKit
set_option linter.unusedVariables false

theorem gok_pt {S N : Int} (hS : 0 ≤ S ∧ S ≤ 9223372036854775807) (hN : 0 ≤ N ∧ N ≤ 999999999) : qs (pt S N) = S ∧ qn (pt S N) = N ∧ qe (pt S N) = 0 ∧ (pt S N).length = 12 ∧ vld S N = true := by
  have hv : vld S N = true := decide_eq_true ⟨hS.1, hN.1, hN.2⟩
  obtain ⟨e1, e2⟩ := gs_pt S N hv hS.2
  have hl : (pt S N).length = 12 := by rw [pt_length, hv]; rfl
  have hg : gok (pt S N) = true := decide_eq_true ⟨hl, by rw [e1]; exact hS.2, by rw [e2]; exact hN.2⟩
  obtain ⟨a, b, c⟩ := q_good hg
  exact ⟨by rw [← a, e1], by rw [← b, e2], c.symm, hl, hv⟩
theorem x_pr {S N : Int} (hS : 0 ≤ S ∧ S ≤ 9223372036854775807) (hN : 0 ≤ N ∧ N ≤ 999999999) : xs (pr S N) = S ∧ xn (pr S N) = N ∧ xe (pr S N) = 0 ∧ (pr S N).length ≤ maxLen := by
  obtain ⟨a, rfl⟩ := Int.eq_ofNat_of_zero_le hS.1
  obtain ⟨b, rfl⟩ := Int.eq_ofNat_of_zero_le hN.1
  have h1 : a ≤ 9223372036854775807 := by omega
  have h2 : b ≤ 999999999 := by omega
  have hk := pok_pr a b h1 h2
  obtain ⟨e1, e2⟩ := z_pr a b h1 h2
  obtain ⟨c1, c2, c3⟩ := x_good hk
  have hl := (pok_shape _ hk).2.1
  exact ⟨by rw [← c1, e1], by rw [← c2, e2], c3.symm, by unfold maxLen; omega⟩
theorem q_cases (zs : List Int) (hb : ∀ z ∈ zs, 0 ≤ z ∧ z ≤ 255) : (qe zs = 60) ∨ (qe zs = 0 ∧ pt (qs zs) (qn zs) = zs ∧ vld (qs zs) (qn zs) = true ∧ zs.length = 12) := by
  cases h : gok zs with
  | false => exact .inl (q_bad h).2.2.symm
  | true =>
    obtain ⟨a, b, c⟩ := q_good h
    obtain ⟨p1, p2⟩ := pt_gs zs hb h
    rw [a, b] at p1 p2
    exact .inr ⟨c.symm, p2, p1, (of_decide_eq_true (show decide _ = true from h)).1⟩
theorem x_cases (l : List Nat) : (xe l = 60) ∨ (xe l = 0 ∧ pr (xs l) (xn l) = l ∧ vld (xs l) (xn l) = true) := by
  cases h : pok l with
  | false => exact .inl (x_bad h).2.2.symm
  | true =>
    obtain ⟨a, b, c⟩ := x_good h
    obtain ⟨_, p1, p2⟩ := of_decide_eq_true (show decide _ = true from h)
    rw [a, b] at p1 p2
    exact .inr ⟨c.symm, p2, p1⟩
theorem q_in (zs : List Int) (hb : ∀ z ∈ zs, 0 ≤ z ∧ z ≤ 255) : InI (qs zs) ∧ InI (qn zs) := by
  cases h : gok zs with
  | false =>
    obtain ⟨a, b, _⟩ := q_bad h
    rw [← a, ← b]
    unfold InI
    omega
  | true =>
    obtain ⟨a, b, _⟩ := q_good h
    obtain ⟨_, h2, h3⟩ := of_decide_eq_true (show decide _ = true from h)
    have v8 := (val_bound (zs.take 8) (fun z hz => hb z (List.mem_of_mem_take hz))).1
    have v4 := (val_bound (zs.drop 8) (fun z hz => hb z (List.mem_of_mem_drop hz))).1
    rw [← a, ← b]
    have e1 : 0 ≤ gs zs := v8
    have e2 : 0 ≤ gn zs := v4
    unfold InI
    omega
theorem x_in (l : List Nat) : InI (xs l) ∧ InI (xn l) := by
  cases h : pok l with
  | false =>
    obtain ⟨a, b, _⟩ := x_bad h
    rw [← a, ← b]
    unfold InI
    omega
  | true =>
    obtain ⟨a, b, _⟩ := x_good h
    obtain ⟨h1, h2, _⟩ := of_decide_eq_true (show decide _ = true from h)
    obtain ⟨_, _, h5⟩ := of_decide_eq_true (show decide _ = true from h2)
    rw [← a, ← b]
    unfold InI
    omega
set_option maxHeartbeats 1600000 in
theorem stampOneForm_ (s n : Int) (a : Option Addr) (m c : Nat) (zs : List Int) (l : List Nat) (w : World) (hT : Tb w) (hs : InI s) (hn : InI n) (hb : Bs w a m zs) (hmc : m ≤ c) (hcm : c ≤ maxLen) (hy : ∀ x ∈ l, x < 256) (hlen : l.length ≤ maxLen) :
    Calls Tryd.prog 5 #[.agg #[.int .i64 s, .int .i64 n], .slice a m c, .string (sb l)] w fun e w' => e = .returned (.bool true) ∧ Below w.heap.size w w' := by
  have k1 := fun w => fit_ s n w hs hn
  have bS := fs_in s hs
  have bN := fn_in n
  obtain ⟨S, HS⟩ : ∃ S, Hid (fs s = S) := ⟨_, rfl⟩
  obtain ⟨N, HN⟩ : ∃ N, Hid (fn n = N) := ⟨_, rfl⟩
  rw [HS.out] at bS
  rw [HN.out] at bN
  rw [HS.out, HN.out] at k1
  have IS : InI S := ⟨by omega, by omega⟩
  have IN : InI N := ⟨by omega, by omega⟩
  obtain ⟨g1, g2, g3, g4, g5⟩ := gok_pt bS bN
  obtain ⟨f1, f2, f3, f4⟩ := x_pr bS bN
  have k2 := fun w => valid_ S N w IS IN
  have k3 := fun w => put_ S N w IS IN
  have k4 := fun a c w hb hnc hcm => get_ a 12 c (pt S N) w hb hnc hcm
  have k5 := fun w => print_ S N w IS IN
  have k6 := fun w => parse_ (pr S N) w (pr_lt S N) f4
  have k7 := fun w => sameStamp_ S N S N w
  rw [g5] at k2
  rw [g4] at k3
  rw [g1, g2, g3] at k4
  rw [f1, f2, f3] at k6
  rw [sme_self] at k7
  have HPB := hid (pt_byte S N)
  have HBY := hid hb.2.1
  have HB0 := hid hb
  have HQC := hid (q_cases zs hb.2.1)
  have HXC := hid (x_cases l)
  have k8 := fun w hb => get_ a m c zs w hb hmc hcm
  have k9 := fun w => parse_ l w hy hlen
  obtain ⟨j1, j2⟩ := q_in zs hb.2.1
  obtain ⟨j3, j4⟩ := x_in l
  have k10 := fun w => put_ (qs zs) (qn zs) w j1 j2
  have k11 := fun w => valid_ (qs zs) (qn zs) w j1 j2
  have k12 := fun w => valid_ (xs l) (xn l) w j3 j4
  have k13 := fun w => print_ (xs l) (xn l) w j3 j4
  obtain ⟨Z, HZ⟩ : ∃ Z, Hid (sb l = Z) := ⟨_, rfl⟩
  simp only [HZ.out] at k9
  rw [HZ.out]
  have hzz : (Z.toList == Z.toList) = true := by simp
  obtain ⟨D, HD⟩ : ∃ D, Hid (sb (pr S N) = D) := ⟨_, rfl⟩
  simp only [HD.out] at k5 k6
  generalize pt S N = L at *
  obtain ⟨G1, HG1⟩ : ∃ x, Hid (qs zs = x) := ⟨_, rfl⟩
  obtain ⟨G2, HG2⟩ : ∃ x, Hid (qn zs = x) := ⟨_, rfl⟩
  obtain ⟨G3, HG3⟩ : ∃ x, Hid (qe zs = x) := ⟨_, rfl⟩
  obtain ⟨P1, HP1⟩ : ∃ x, Hid (xs l = x) := ⟨_, rfl⟩
  obtain ⟨P2, HP2⟩ : ∃ x, Hid (xn l = x) := ⟨_, rfl⟩
  obtain ⟨P3, HP3⟩ : ∃ x, Hid (xe l = x) := ⟨_, rfl⟩
  simp only [HG1.out, HG2.out, HG3.out] at k8 k10 k11 HQC
  simp only [HP1.out, HP2.out, HP3.out] at k9 k12 k13 HXC
  have B0 := snew1 w s n
  have m0 := Sm.new w s n
  clear g1 g2 g3 g4 g5 f1 f2 f3 f4 hb hs hn j1 j2 j3 j4 hy hlen
  unfold maxLen at hcm
  go_enter Tryd.func5, Tryd.ntmps5
  go_wp2_with fail
  refine (known_ _ (hT.kept B0)).mono ?_
  rintro e w1 ⟨rfl, g2⟩
  replace m0 := m0.kept g2
  replace B0 := bel_bel B0 B0.size g2
  clear g2
  have cm00 := m0.c0
  have cm01 := m0.c1
  go_wp2_with fail
  clear cm00 cm01
  refine (k1 _).mono ?_
  rintro e w2 ⟨rfl, g2⟩
  replace m0 := m0.kept g2
  replace B0 := bel_bel B0 B0.size g2
  clear g2
  have cm00 := m0.c0
  have cm01 := m0.c1
  go_wp2_with (refine wpList_sst rfl rfl _ _ rfl (w.heap.size) (S) (N) rfl rfl (s) (n) (by with_reducible exact m0) ?_; clear cm00 cm01; replace m0 := m0.row (S) (N); replace B0 := bel_row B0 (g := w.heap.size) (by omega) #[.int .i64 (S), .int .i64 (N)]; generalize w2.setRow (w.heap.size) #[.int .i64 (S), .int .i64 (N)] = w2b at *; have cm00 := m0.c0; have cm01 := m0.c1)
  refine (k2 _).mono ?_
  rintro e w3 ⟨rfl, g2⟩
  replace m0 := m0.kept g2
  replace B0 := bel_bel B0 B0.size g2
  clear g2
  clear cm00 cm01
  have cm00 := m0.c0
  have cm01 := m0.c1
  go_wp2_with fail
  clear cm00 cm01
  refine (k3 _).mono ?_
  rintro e w4 ⟨v, rfl, ho, g2⟩
  obtain ⟨pa, pc, rfl, pb, q1, q2, _⟩ := own_form ho HPB.out
  clear ho
  replace m0 := m0.kept g2
  replace B0 := bel_bel B0 B0.size g2
  clear g2
  unfold maxLen at q2
  have cm00 := m0.c0
  have cm01 := m0.c1
  go_wp2_with fail
  clear cm00 cm01
  refine (k4 pa pc _ pb q1 (by unfold maxLen; omega)).mono ?_
  rintro e w5 ⟨rfl, g2⟩
  replace m0 := m0.kept g2
  replace pb := pb.below g2
  replace B0 := bel_bel B0 B0.size g2
  clear g2
  clear pb q1 q2
  have hga := m0.lt
  replace m0 := m0.alloc (.cells #[.int .i64 S, .int .i64 N] 23)
  have m1 := Sm.new w5 S N
  replace B0 := B0.alloc B0.size (.cells #[.int .i64 S, .int .i64 N] 23)
  have cm00 := m0.c0
  have cm01 := m0.c1
  have cm10 := m1.c0
  have cm11 := m1.c1
  go_wp2_with fail
  clear cm00 cm01 cm10 cm11
  refine (k5 _ (hT.kept B0)).mono ?_
  rintro e w6 ⟨rfl, g2⟩
  replace m0 := m0.kept g2
  replace m1 := m1.kept g2
  replace B0 := bel_bel B0 B0.size g2
  clear g2
  have cm00 := m0.c0
  have cm01 := m0.c1
  have cm10 := m1.c0
  have cm11 := m1.c1
  go_wp2_with fail
  clear cm00 cm01 cm10 cm11
  refine (k6 _ (hT.kept B0)).mono ?_
  rintro e w7 ⟨rfl, g2⟩
  replace m0 := m0.kept g2
  replace m1 := m1.kept g2
  replace B0 := bel_bel B0 B0.size g2
  clear g2
  have hgp := m1.lt
  replace m0 := m0.alloc (.cells #[.int .i64 S, .int .i64 N] 23)
  replace m1 := m1.alloc (.cells #[.int .i64 S, .int .i64 N] 23)
  have m2 := Sm.new w7 S N
  replace B0 := B0.alloc B0.size (.cells #[.int .i64 S, .int .i64 N] 23)
  have cm00 := m0.c0
  have cm01 := m0.c1
  have cm10 := m1.c0
  have cm11 := m1.c1
  have cm20 := m2.c0
  have cm21 := m2.c1
  go_wp2_with fail
  clear cm00 cm01 cm10 cm11 cm20 cm21
  refine (k7 _).mono ?_
  rintro e w8 ⟨rfl, g2⟩
  replace m0 := m0.kept g2
  replace m1 := m1.kept g2
  replace m2 := m2.kept g2
  replace B0 := bel_bel B0 B0.size g2
  clear g2
  have cm00 := m0.c0
  have cm01 := m0.c1
  have cm10 := m1.c0
  have cm11 := m1.c1
  have cm20 := m2.c0
  have cm21 := m2.c1
  go_wp2_with fail
  clear cm00 cm01 cm10 cm11 cm20 cm21
  refine (k7 _).mono ?_
  rintro e w9 ⟨rfl, g2⟩
  replace m0 := m0.kept g2
  replace m1 := m1.kept g2
  replace m2 := m2.kept g2
  replace B0 := bel_bel B0 B0.size g2
  clear g2
  clear k1 k2 k3 k4 k5 k6 k7
  have cm00 := m0.c0
  have cm01 := m0.c1
  have cm10 := m1.c0
  have cm11 := m1.c1
  have cm20 := m2.c0
  have cm21 := m2.c1
  go_wp2_with fail
  refine (num6_ 0 _).mono ?_
  rintro e wx ⟨rfl, rfl⟩
  go_wp2_with fail
  refine (num6_ 0 _).mono ?_
  rintro e wy ⟨rfl, rfl⟩
  generalize w5.heap.size = ga at *
  generalize w7.heap.size = gp at *
  go_wp2_with fail
  clear cm00 cm01 cm10 cm11 cm20 cm21
  refine (k8 _ (HB0.out.below B0)).mono ?_
  rintro e w10 ⟨rfl, g2⟩
  replace m0 := m0.kept g2
  replace m1 := m1.kept g2
  replace m2 := m2.kept g2
  replace B0 := bel_bel B0 B0.size g2
  clear g2
  have cm00 := m0.c0
  have cm01 := m0.c1
  have cm10 := m1.c0
  have cm11 := m1.c1
  have cm20 := m2.c0
  have cm21 := m2.c1
  go_wp2_with (refine wpList_sst rfl rfl _ _ rfl (ga) (G1) (G2) rfl rfl (S) (N) (by with_reducible exact m1) ?_; clear cm00 cm01 cm10 cm11 cm20 cm21; replace m0 := m0.rowo (g' := ga) (by omega) #[.int .i64 (G1), .int .i64 (G2)]; replace m2 := m2.rowo (g' := ga) (by omega) #[.int .i64 (G1), .int .i64 (G2)]; replace m1 := m1.row (G1) (G2); replace B0 := bel_row B0 (g := ga) (by omega) #[.int .i64 (G1), .int .i64 (G2)]; generalize w10.setRow (ga) #[.int .i64 (G1), .int .i64 (G2)] = w10b at *; have cm00 := m0.c0; have cm01 := m0.c1; have cm10 := m1.c0; have cm11 := m1.c1; have cm20 := m2.c0; have cm21 := m2.c1)
  refine (num6_ G3 _).mono ?_
  rintro e wx2 ⟨rfl, rfl⟩
  clear k8
  rcases HQC.out with h | ⟨h, p1, p2, p3⟩
  · subst h
    clear HQC k10 k11
    go_wp2_with fail
    clear cm00 cm01 cm10 cm11 cm20 cm21
    refine (k9 _ (hT.kept B0)).mono ?_
    rintro e w11 ⟨rfl, g2⟩
    replace m0 := m0.kept g2
    replace m1 := m1.kept g2
    replace m2 := m2.kept g2
    replace B0 := bel_bel B0 B0.size g2
    clear g2
    clear k9
    have cm00 := m0.c0
    have cm01 := m0.c1
    have cm10 := m1.c0
    have cm11 := m1.c1
    have cm20 := m2.c0
    have cm21 := m2.c1
    go_wp2_with (refine wpList_sst rfl rfl _ _ rfl (gp) (P1) (P2) rfl rfl (S) (N) (by with_reducible exact m2) ?_; clear cm00 cm01 cm10 cm11 cm20 cm21; replace m0 := m0.rowo (g' := gp) (by omega) #[.int .i64 (P1), .int .i64 (P2)]; replace m1 := m1.rowo (g' := gp) (by omega) #[.int .i64 (P1), .int .i64 (P2)]; replace m2 := m2.row (P1) (P2); replace B0 := bel_row B0 (g := gp) (by omega) #[.int .i64 (P1), .int .i64 (P2)]; generalize w11.setRow (gp) #[.int .i64 (P1), .int .i64 (P2)] = w11b at *; have cm00 := m0.c0; have cm01 := m0.c1; have cm10 := m1.c0; have cm11 := m1.c1; have cm20 := m2.c0; have cm21 := m2.c1)
    refine (num6_ P3 _).mono ?_
    rintro e wx3 ⟨rfl, rfl⟩
    rcases HXC.out with h | ⟨h, p1, p2⟩
    · subst h
      clear HXC k12 k13
      go_wp2_with fail
      go_ret
      exact ⟨rfl, B0⟩
    · subst h
      rw [p2] at k12
      rw [p1] at k13
      simp only [HZ.out] at k13
      clear HXC p1 p2
      go_wp2_with fail
      clear cm00 cm01 cm10 cm11 cm20 cm21
      refine (k12 _).mono ?_
      rintro e w12 ⟨rfl, g2⟩
      replace m0 := m0.kept g2
      replace m1 := m1.kept g2
      replace m2 := m2.kept g2
      replace B0 := bel_bel B0 B0.size g2
      clear g2
      have cm00 := m0.c0
      have cm01 := m0.c1
      have cm10 := m1.c0
      have cm11 := m1.c1
      have cm20 := m2.c0
      have cm21 := m2.c1
      go_wp2_with fail
      clear cm00 cm01 cm10 cm11 cm20 cm21
      refine (k13 _ (hT.kept B0)).mono ?_
      rintro e w13 ⟨rfl, g2⟩
      replace m0 := m0.kept g2
      replace m1 := m1.kept g2
      replace m2 := m2.kept g2
      replace B0 := bel_bel B0 B0.size g2
      clear g2
      clear k12 k13 hT
      go_wp2_with fail
      go_ret
      exact ⟨rfl, B0⟩
  · subst h
    obtain rfl : m = 12 := by rw [← HB0.out.1]; exact p3
    rw [p2] at k11
    rw [p1, p3] at k10
    clear HQC p1 p2 p3
    go_wp2_with fail
    clear cm00 cm01 cm10 cm11 cm20 cm21
    refine (k10 _).mono ?_
    rintro e w11 ⟨v, rfl, ho, g2⟩
    obtain ⟨pa, pc, rfl, pb, _, _, _⟩ := own_form ho HBY.out
    clear ho
    replace m0 := m0.kept g2
    replace m1 := m1.kept g2
    replace m2 := m2.kept g2
    replace B0 := bel_bel B0 B0.size g2
    clear g2
    have cm00 := m0.c0
    have cm01 := m0.c1
    have cm10 := m1.c0
    have cm11 := m1.c1
    have cm20 := m2.c0
    have cm21 := m2.c1
    go_wp2_with fail
    clear cm00 cm01 cm10 cm11 cm20 cm21
    refine (same_yes pa a 12 pc 12 c zs _ pb (HB0.out.below B0) (by omega) (by omega)).mono ?_
    rintro e w12 ⟨rfl, D9⟩
    have g2 := D9.below
    clear D9 pb
    replace m0 := m0.kept g2
    replace m1 := m1.kept g2
    replace m2 := m2.kept g2
    replace B0 := bel_bel B0 B0.size g2
    clear g2
    have cm00 := m0.c0
    have cm01 := m0.c1
    have cm10 := m1.c0
    have cm11 := m1.c1
    have cm20 := m2.c0
    have cm21 := m2.c1
    go_wp2_with fail
    clear cm00 cm01 cm10 cm11 cm20 cm21
    refine (k11 _).mono ?_
    rintro e w13 ⟨rfl, g2⟩
    replace m0 := m0.kept g2
    replace m1 := m1.kept g2
    replace m2 := m2.kept g2
    replace B0 := bel_bel B0 B0.size g2
    clear g2
    clear k10 k11
    have cm00 := m0.c0
    have cm01 := m0.c1
    have cm10 := m1.c0
    have cm11 := m1.c1
    have cm20 := m2.c0
    have cm21 := m2.c1
    go_wp2_with fail
    clear cm00 cm01 cm10 cm11 cm20 cm21
    refine (k9 _ (hT.kept B0)).mono ?_
    rintro e w14 ⟨rfl, g2⟩
    replace m0 := m0.kept g2
    replace m1 := m1.kept g2
    replace m2 := m2.kept g2
    replace B0 := bel_bel B0 B0.size g2
    clear g2
    clear k9
    have cm00 := m0.c0
    have cm01 := m0.c1
    have cm10 := m1.c0
    have cm11 := m1.c1
    have cm20 := m2.c0
    have cm21 := m2.c1
    go_wp2_with (refine wpList_sst rfl rfl _ _ rfl (gp) (P1) (P2) rfl rfl (S) (N) (by with_reducible exact m2) ?_; clear cm00 cm01 cm10 cm11 cm20 cm21; replace m0 := m0.rowo (g' := gp) (by omega) #[.int .i64 (P1), .int .i64 (P2)]; replace m1 := m1.rowo (g' := gp) (by omega) #[.int .i64 (P1), .int .i64 (P2)]; replace m2 := m2.row (P1) (P2); replace B0 := bel_row B0 (g := gp) (by omega) #[.int .i64 (P1), .int .i64 (P2)]; generalize w14.setRow (gp) #[.int .i64 (P1), .int .i64 (P2)] = w14b at *; have cm00 := m0.c0; have cm01 := m0.c1; have cm10 := m1.c0; have cm11 := m1.c1; have cm20 := m2.c0; have cm21 := m2.c1)
    refine (num6_ P3 _).mono ?_
    rintro e wx3 ⟨rfl, rfl⟩
    rcases HXC.out with h | ⟨h, p1, p2⟩
    · subst h
      clear HXC k12 k13
      go_wp2_with fail
      go_ret
      exact ⟨rfl, B0⟩
    · subst h
      rw [p2] at k12
      rw [p1] at k13
      simp only [HZ.out] at k13
      clear HXC p1 p2
      go_wp2_with fail
      clear cm00 cm01 cm10 cm11 cm20 cm21
      refine (k12 _).mono ?_
      rintro e w15 ⟨rfl, g2⟩
      replace m0 := m0.kept g2
      replace m1 := m1.kept g2
      replace m2 := m2.kept g2
      replace B0 := bel_bel B0 B0.size g2
      clear g2
      have cm00 := m0.c0
      have cm01 := m0.c1
      have cm10 := m1.c0
      have cm11 := m1.c1
      have cm20 := m2.c0
      have cm21 := m2.c1
      go_wp2_with fail
      clear cm00 cm01 cm10 cm11 cm20 cm21
      refine (k13 _ (hT.kept B0)).mono ?_
      rintro e w16 ⟨rfl, g2⟩
      replace m0 := m0.kept g2
      replace m1 := m1.kept g2
      replace m2 := m2.kept g2
      replace B0 := bel_bel B0 B0.size g2
      clear g2
      clear k12 k13 hT
      go_wp2_with fail
      go_ret
      exact ⟨rfl, B0⟩
end Go.Proofs.YtajjilheellfeabDoor
