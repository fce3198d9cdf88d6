import Derived.Test.YtmgoabedickooaaGreatDoorL14
namespace Go.Proofs.YtmgoabedickooaaGreatDoor
set_option maxRecDepth 100000
open Go.RowKit
set_option linter.unusedVariables false

theorem qA_dgs (a : Nat) (h : a ≤ 128) : qA (dgs a 1) = some (a : Int) := by
  by_cases h1 : a < 10
  · rw [dgs1 a h1]
    have : ∀ a : Nat, a < 10 → qA [48 + a] = some (a : Int) := by decide
    exact this a h1
  · rw [dgs_step a (by omega)]
    by_cases h2 : a < 100
    · rw [dgs1 (a / 10) (by omega)]
      have : ∀ x : Nat, x < 10 → ∀ y : Nat, y < 10 → qA ([48 + x] ++ [48 + y]) = some ((x * 10 + y : Nat) : Int) := by decide
      rw [this (a / 10) (by omega) (a % 10) (by omega)]
      congr 1
      omega
    · rw [dgs_step (a / 10) (by omega), dgs1 (a / 10 / 10) (by omega)]
      have : ∀ x : Nat, x < 2 → ∀ y : Nat, y < 3 → ∀ z : Nat, z < 10 → qA ([48 + x] ++ [48 + y] ++ [48 + z]) = some ((x * 100 + y * 10 + z : Nat) : Int) := by decide
      rw [this (a / 10 / 10) (by omega) (a / 10 % 10) (by omega) (a % 10) (by omega)]
      congr 1
      omega
theorem ix_at (c : Nat) (x l : List Nat) (h : ∀ z ∈ x, z ≠ c) : ix c (x ++ c :: l) = x.length := by
  induction x with
  | nil => simp [ix]
  | cons y r ih =>
    rw [List.cons_append, ix, if_neg (h y (by simp)), ih (fun z hz => h z (by simp [hz]))]
    rfl
/-- The two halves of a text. -/
def xa (l : List Nat) : List Nat := l.take (ix 47 l)
def xb (l : List Nat) : List Nat := l.drop (ix 47 l + 1)
theorem tp_vp {F H L B : Int} (h : tp F H L B ≠ []) : vp F H L B = true := by
  cases hv : vp F H L B with
  | true => rfl
  | false =>
    exfalso
    apply h
    unfold tp
    rw [hv]
    rfl
theorem halves {F H L B : Int} (hv : vp F H L B = true) (hH : InU H) (hL : InU L) : xa (tp F H L B) = ta F H L ∧ xb (tp F H L B) = dgs B.toNat 1 := by
  obtain ⟨h1, _⟩ := vp_in hv
  have e : tp F H L B = ta F H L ++ 47 :: dgs B.toNat 1 := by unfold tp; rw [hv]; rfl
  have hi := ix_at 47 (ta F H L) (dgs B.toNat 1) (ta_shape h1 hH hL).2.2
  unfold xa xb
  rw [e, hi]
  constructor
  · simp
  · simp
theorem qA_in {l : List Nat} {v : Int} (h : qA l = some v) : InI v := by
  unfold qA at h
  cases hq : Lib.atoiAll (l.map UInt8.ofNat) with
  | ok u =>
    rw [hq] at h
    have h : some u = some v := h
    obtain rfl := Option.some.inj h
    exact Lib.atoiAll_bounds hq
  | «syntax» => rw [hq] at h; cases h
  | range => rw [hq] at h; cases h
theorem a7_in (l : List Nat) : InI (aF l) ∧ InU (aH l) ∧ InU (aL l) := by
  cases h : ak l with
  | true =>
    obtain ⟨e1, e2, e3, _⟩ := a_good h
    rw [← e1, ← e2, ← e3]
    refine ⟨?_, (g_in l).1, (g_in l).2⟩
    unfold InI gF af
    split
    · omega
    · split <;> omega
  | false =>
    obtain ⟨e1, e2, e3, _⟩ := a_bad h
    rw [← e1, ← e2, ← e3]
    unfold InI InU
    omega
theorem pk_ne {l : List Nat} (h : pk l = true) : l ≠ [] := by
  intro e
  subst e
  have := of_decide_eq_true (show decide _ = true from h)
  exact absurd this.2.1 (by decide)
theorem r_in {l : List Nat} (h : pk l = true) : InU (rH l) ∧ InU (rL l) := by
  obtain ⟨_, e2, e3, _⟩ := r_good h
  rw [← e2, ← e3]
  exact ⟨(a7_in _).2.1, (a7_in _).2.2⟩
theorem acc_of_pk {l : List Nat} (h : pk l = true) : aE (xa l) = 0 ∧ qA (xb l) = some (rB l) ∧ tp (aF (xa l)) (aH (xa l)) (aL (xa l)) (rB l) = l := by
  have e := tp_pk h
  obtain ⟨hH, hL⟩ := r_in h
  have hv : vp (rF l) (rH l) (rL l) (rB l) = true := tp_vp (by rw [e]; exact pk_ne h)
  obtain ⟨h1, h2, h3, _⟩ := vp_in hv
  have hn := nb_le (rF l)
  obtain ⟨e1, e2⟩ := halves hv hH hL
  rw [e] at e1 e2
  obtain ⟨_, b1, b2, b3, b4⟩ := ak_ta h1 hH hL
  rw [e1, e2, b1, b2, b3, b4, qA_dgs _ (by omega)]
  refine ⟨rfl, ?_, e⟩
  congr 1
  omega
theorem pk_of_acc {l : List Nat} {v : Int} (h0 : aE (xa l) = 0) (h : tp (aF (xa l)) (aH (xa l)) (aL (xa l)) v = l) : aF (xa l) = rF l ∧ aH (xa l) = rH l ∧ aL (xa l) = rL l ∧ v = rB l ∧ 0 = rE l := by
  have hne : l ≠ [] := by
    intro e
    have e1 : xa l = [] := by rw [e]; rfl
    rw [e1] at h0
    have hk : ak [] = false := decide_eq_false (fun h => h.2.1 rfl)
    rw [← (a_bad hk).2.2.2] at h0
    omega
  obtain ⟨_, iH, iL⟩ := a7_in (xa l)
  have := pk_tp (tp_vp (by rw [h]; exact hne)) iH iL
  rw [h] at this
  exact ⟨this.2.1.symm, this.2.2.1.symm, this.2.2.2.1.symm, this.2.2.2.2.1.symm, this.2.2.2.2.2.symm⟩
theorem tp_lt7 (F H L B : Int) : ∀ x ∈ tp F H L B, x < 256 := by
  intro x hx
  unfold tp at hx
  split at hx
  · rcases List.mem_append.1 hx with h | h
    · exact ta_lt _ _ _ x h
    · rcases List.mem_cons.1 h with rfl | h
      · decide
      · have := dl_digit _ _ x h
        omega
  · cases hx
set_option maxHeartbeats 1000000 in
theorem parse_ (l : List Nat) (w : World) (hy : ∀ x ∈ l, x < 256) (hl : l.length ≤ 140737488355328) (hT : Tb w) :
    Calls Tryz.prog 16 #[.string (sb l)] w fun e w' => e = .returned (.tuple #[.agg #[.int .i64 (rF l), .int .u64 (rH l), .int .u64 (rL l), .int .i64 (rB l)], .int .i64 (rE l)]) ∧ Below w.heap.size w w' := by
  have k1 : ∀ w, Calls Tryz.prog 54 #[.string (sb l), .string ⟨#[47]⟩] w fun e w' => e = .returned (.tuple #[.string (sb (xa l)), .string (sb (xb l)), .bool (decide (ix 47 l < l.length))]) ∧ ∃ nq, w' = w.drewN nq := fun w => cut_ 47 l w (by decide) hy (by unfold maxLen; omega)
  have hxa : xa l = l.take (ix 47 l) := rfl
  have hxb : xb l = l.drop (ix 47 l + 1) := rfl
  have k2 := fun w hT => parseAddr_ (xa l) w (by rw [hxa]; exact fun z hz => hy z (List.mem_of_mem_take hz)) (by rw [hxa, List.length_take]; omega) hT
  have k3 := fun w hT => atoi_ (xb l) w (by rw [hxb, List.length_drop]; omega) hT
  obtain ⟨iF, iH, iL⟩ := a7_in (xa l)
  have HB := hid (fun h => r_bad (l := l) h)
  have HK := hid (fun (h : pk l = true) => acc_of_pk h)
  have HA := hid (fun v h0 h => pk_of_acc (l := l) (v := v) h0 h)
  have HI := hid (fun F H L B (h : sb (tp F H L B) = sb l) => sb_inj (tp_lt7 F H L B) hy h)
  have HV := hid (fun v h => qA_in (l := xb l) (v := v) h)
  have B0 := pnew w 0 0 0 0
  have m0 := Pm.new w 0 0 0 0
  clear hxa hxb
  generalize sb (xa l) = SA at *
  generalize sb (xb l) = SB at *
  generalize aF (xa l) = F at *
  generalize aH (xa l) = H at *
  generalize aL (xa l) = L at *
  generalize aE (xa l) = E at *
  generalize qA (xb l) = Q at *
  obtain ⟨S, HS⟩ : ∃ S, Hid (sb l = S) := ⟨_, rfl⟩
  simp only [HS.out] at k1 HI
  rw [HS.out]
  go_enter Tryz.func16, Tryz.ntmps16
  go_wp2_with fail
  refine (k1 _).mono ?_
  rintro e w1 ⟨rfl, nq, rfl⟩
  replace m0 : Pm ((w.alloc (.cells #[.int .i64 0, .int .u64 0, .int .u64 0, .int .i64 0] 50)).drewN nq) w.heap.size 0 0 0 0 := m0
  replace B0 := bel_drawn B0 nq
  generalize (w.alloc (.cells #[.int .i64 0, .int .u64 0, .int .u64 0, .int .i64 0] 50)).drewN nq = w1 at *
  clear k1
  go_wp2_with fail
  refine (k2 _ (hT.kept B0)).mono ?_
  rintro e w2 ⟨rfl, g2⟩
  replace m0 := m0.kept g2
  replace B0 := bel_bel B0 B0.size g2
  clear g2 k2
  have m1 := Am.new w2 F H L
  have c0 := m1.c0
  have c1 := m1.c1
  have c2 := m1.c2
  replace m0 := m0.alloc (.cells #[.int .i64 F, .int .u64 H, .int .u64 L] 48)
  replace B0 := B0.alloc B0.size (.cells #[.int .i64 F, .int .u64 H, .int .u64 L] 48)
  have hTq := hT.kept B0
  go_wp2_with fail
  generalize w2.alloc (.cells #[.int .i64 F, .int .u64 H, .int .u64 L] 48) = w3 at *
  generalize w2.heap.size = g2 at *
  clear c0 c1 c2
  refine (k3 _ hTq).mono ?_
  rintro e w4 ⟨hA, g3⟩
  replace m0 := m0.kept g3
  replace m1 := m1.kept g3
  replace B0 := bel_bel B0 B0.size g3
  clear g3 k3 hTq
  have c0 := m1.c0
  have c1 := m1.c1
  have c2 := m1.c2
  cases Q with
  | none =>
    obtain ⟨v, tt, pp', rfl⟩ : ∃ (v : Int) (t : TypeId) (p : Value), e = .returned (.tuple #[.int .i64 v, .iface t p]) := hA
    have HE := hid (HB.out (by
      cases hk : pk l with
      | false => rfl
      | true => exact absurd (HK.out hk).2.1 (by simp)))
    replace m0 := m0.alloc (.cells #[.int .i64 F, .int .u64 H, .int .u64 L, .int .i64 v] 50)
    replace B0 := B0.alloc B0.size (.cells #[.int .i64 F, .int .u64 H, .int .u64 L, .int .i64 v] 50)
    clear HB HK HA HI HV
    by_cases hE0 : E = 0
    · subst hE0
      go_wp2_with (refine wpList_spx rfl rfl _ _ rfl w.heap.size 0 0 0 0 rfl rfl _ _ _ _ m0 ?_)
      refine bodyPost_ret (v := .tuple #[.agg #[.int .i64 0, .int .u64 0, .int .u64 0, .int .i64 0], .int .i64 70]) ?_ rfl ⟨ret_r HE.out, bel_row B0 (Nat.le_refl _) _⟩
      exact results_p2 rfl _ _ w.heap.size 0 0 0 0 _ rfl rfl (m0.row _ _ _ _)
    · have hEb : (E != 0) = true := bne_iff_ne.2 hE0
      clear hE0
      go_wp2_with (refine wpList_spx rfl rfl _ _ rfl w.heap.size 0 0 0 0 rfl rfl _ _ _ _ m0 ?_)
      refine bodyPost_ret (v := .tuple #[.agg #[.int .i64 0, .int .u64 0, .int .u64 0, .int .i64 0], .int .i64 70]) ?_ rfl ⟨ret_r HE.out, bel_row B0 (Nat.le_refl _) _⟩
      exact results_p2 rfl _ _ w.heap.size 0 0 0 0 _ rfl rfl (m0.row _ _ _ _)
  | some v =>
    obtain rfl : e = .returned (.tuple #[.int .i64 v, .nilIface]) := hA
    have m2 := Pm.new w4 F H L v
    replace m0 := m0.alloc (.cells #[.int .i64 F, .int .u64 H, .int .u64 L, .int .i64 v] 50)
    replace B0 := B0.alloc B0.size (.cells #[.int .i64 F, .int .u64 H, .int .u64 L, .int .i64 v] 50)
    by_cases hE0 : E = 0
    · subst hE0
      have k4 := fun w hT => print_ F H L v w iF iH iL (HV.out v rfl) hT
      have hTq := hT.kept B0
      have d0 := m2.c0
      have d1 := m2.c1
      have d2 := m2.c2
      have d3 := m2.c3
      go_wp2_with fail
      generalize w4.alloc (.cells #[.int .i64 F, .int .u64 H, .int .u64 L, .int .i64 v] 50) = w5 at *
      generalize w4.heap.size = g4 at *
      clear d0 d1 d2 d3 c0 c1 c2
      refine (k4 _ hTq).mono ?_
      rintro e w6 ⟨rfl, g3⟩
      replace m0 := m0.kept g3
      replace m2 := m2.kept g3
      replace B0 := bel_bel B0 B0.size g3
      clear g3 k4 hTq m1
      have d0 := m2.c0
      have d1 := m2.c1
      have d2 := m2.c2
      have d3 := m2.c3
      have HII := hid (HI.out F H L v)
      obtain ⟨P, HP⟩ : ∃ P, Hid (sb (tp F H L v) = P) := ⟨_, rfl⟩
      rw [HP.out] at HII ⊢
      by_cases hps : P = S
      · have HE := hid (HA.out v trivial (HII.out hps))
        have d8 : (P.toList == S.toList) = true := by rw [hps]; exact beq_self_eq_true _
        have d8' : (P.toList != S.toList) = false := by unfold bne; rw [d8]; rfl
        clear hps HB HK HA HI HV HII HP
        go_wp2_with (refine wpList_spx rfl rfl _ _ rfl w.heap.size F H L v rfl rfl _ _ _ _ m0 ?_)
        refine bodyPost_ret (v := .tuple #[.agg #[.int .i64 F, .int .u64 H, .int .u64 L, .int .i64 v], .int .i64 0]) ?_ rfl ⟨ret_r HE.out, bel_row B0 (Nat.le_refl _) _⟩
        exact results_p2 rfl _ _ w.heap.size F H L v _ rfl rfl (m0.row _ _ _ _)
      · have HE := hid (HB.out (by
          cases hk : pk l with
          | false => rfl
          | true =>
            obtain ⟨_, h2, h3⟩ := HK.out hk
            obtain rfl := Option.some.inj h2
            exact absurd (by rw [← HP.out, h3, HS.out]) hps))
        have d8 : (P.toList == S.toList) = false := beq_eq_false_iff_ne.2 fun h => hps (toList_inj h)
        have d8' : (P.toList != S.toList) = true := by unfold bne; rw [d8]; rfl
        clear hps HB HK HA HI HV HII HP
        go_wp2_with (refine wpList_spx rfl rfl _ _ rfl w.heap.size 0 0 0 0 rfl rfl _ _ _ _ m0 ?_)
        refine bodyPost_ret (v := .tuple #[.agg #[.int .i64 0, .int .u64 0, .int .u64 0, .int .i64 0], .int .i64 70]) ?_ rfl ⟨ret_r HE.out, bel_row B0 (Nat.le_refl _) _⟩
        exact results_p2 rfl _ _ w.heap.size 0 0 0 0 _ rfl rfl (m0.row _ _ _ _)
    · have hEb : (E != 0) = true := bne_iff_ne.2 hE0
      have HE := hid (HB.out (by
        cases hk : pk l with
        | false => rfl
        | true => exact absurd (HK.out hk).1 hE0))
      clear HB HK HA HI HV hE0 m2
      go_wp2_with (refine wpList_spx rfl rfl _ _ rfl w.heap.size 0 0 0 0 rfl rfl _ _ _ _ m0 ?_)
      refine bodyPost_ret (v := .tuple #[.agg #[.int .i64 0, .int .u64 0, .int .u64 0, .int .i64 0], .int .i64 70]) ?_ rfl ⟨ret_r HE.out, bel_row B0 (Nat.le_refl _) _⟩
      exact results_p2 rfl _ _ w.heap.size 0 0 0 0 _ rfl rfl (m0.row _ _ _ _)
end Go.Proofs.YtmgoabedickooaaGreatDoor
