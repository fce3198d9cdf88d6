import Derived.Test.YtajjilheellfeabDoorF6
import Derived.Test.YtajjilheellfeabDoorS9
namespace Go.Proofs.YtajjilheellfeabDoor
open Go.RowKit
set_option linter.unusedVariables false

/-- What the steps are. -/
theorem nok_iff {S N : Int} (hS : 0 ≤ S) (hN : 0 ≤ N ∧ N ≤ 999999999) : nok S N = !big S N := by
  unfold nok vld
  rw [decide_eq_true ⟨hS, hN.1, hN.2⟩]
  rfl
theorem n_of {S N : Int} (h : nok S N = true) : ns S N = (if N = 999999999 then S + 1 else S) ∧ nn S N = (if N = 999999999 then 0 else N + 1) := by
  unfold ns nn
  rw [h, if_pos rfl, if_pos rfl]
  exact ⟨rfl, rfl⟩
theorem nok_in {S N : Int} (h : nok S N = true) (hS : S ≤ 9223372036854775807) : (0 ≤ S ∧ 0 ≤ N ∧ N ≤ 999999999) ∧ (S < 9223372036854775807 ∨ N < 999999999) := by
  unfold nok at h
  rw [Bool.and_eq_true] at h
  obtain ⟨h1, h2⟩ := h
  have h3 := of_decide_eq_true (show decide _ = true from h1)
  refine ⟨h3, ?_⟩
  unfold big at h2
  rw [Bool.not_eq_true', decide_eq_false_iff_not] at h2
  omega
theorem step_in {S N : Int} (h : nok S N = true) (hS : S ≤ 9223372036854775807) : InI (ns S N) ∧ InI (nn S N) := by
  obtain ⟨a, b⟩ := nok_in h hS
  obtain ⟨e1, e2⟩ := n_of h
  rw [e1, e2]
  unfold InI
  split <;> omega
theorem n_in {S N : Int} (hS : S ≤ 9223372036854775807) : InI (ns S N) ∧ InI (nn S N) := by
  cases h : nok S N with
  | true => exact step_in h hS
  | false =>
    unfold ns nn
    rw [h]
    unfold InI
    rw [if_neg (by simp), if_neg (by simp)]
    omega
theorem step_up {S N : Int} (h : nok S N = true) : lss S N (ns S N) (nn S N) = true := by
  obtain ⟨e1, e2⟩ := n_of h
  rw [e1, e2]
  unfold lss
  refine decide_eq_true ?_
  split <;> omega
theorem step_none {S N T M : Int} (h : nok S N = true) (hS : S ≤ 9223372036854775807) (hM : 0 ≤ M ∧ M ≤ 999999999) (h1 : lss S N T M = true) : lss T M (ns S N) (nn S N) = false := by
  obtain ⟨e1, e2⟩ := n_of h
  obtain ⟨a, _⟩ := nok_in h hS
  rw [e1, e2]
  have h1 := of_decide_eq_true (show decide _ = true from h1)
  unfold lss
  refine decide_eq_false ?_
  split <;> omega
theorem step_one {S N T M : Int} (h : nok S N = true) (h' : nok T M = true) (hS : S ≤ 9223372036854775807) (hT : T ≤ 9223372036854775807) : sme (ns S N) (nn S N) (ns T M) (nn T M) = sme S N T M := by
  obtain ⟨e1, e2⟩ := n_of h
  obtain ⟨f1, f2⟩ := n_of h'
  obtain ⟨a, _⟩ := nok_in h hS
  obtain ⟨b, _⟩ := nok_in h' hT
  rw [e1, e2, f1, f2]
  unfold sme
  refine decide_eq_decide.2 ?_
  split <;> split <;> omega
theorem step_back {S N : Int} (hS : 0 ≤ S ∧ S ≤ 9223372036854775807) (hN : 0 < N ∧ N ≤ 999999999) : nok S (N - 1) = true ∧ ns S (N - 1) = S ∧ nn S (N - 1) = N := by
  have h : nok S (N - 1) = true := by
    rw [nok_iff hS.1 (by omega)]
    unfold big
    rw [decide_eq_false (by omega)]
    rfl
  obtain ⟨e1, e2⟩ := n_of h
  rw [e1, e2, if_neg (by omega), if_neg (by omega)]
  exact ⟨h, rfl, by omega⟩
theorem step_back0 {S : Int} (hS : 0 < S ∧ S ≤ 9223372036854775807) : nok (S - 1) 999999999 = true ∧ ns (S - 1) 999999999 = S ∧ nn (S - 1) 999999999 = 0 := by
  have h : nok (S - 1) 999999999 = true := by
    rw [nok_iff (by omega) (by omega)]
    unfold big
    rw [decide_eq_false (by omega)]
    rfl
  obtain ⟨e1, e2⟩ := n_of h
  rw [e1, e2, if_pos rfl, if_pos rfl]
  exact ⟨h, by omega, rfl⟩
set_option maxHeartbeats 8000000 in
theorem stampSteps_ (s n s' n' : Int) (w : World) (hT : Tb w) (hs : InI s) (hn : InI n) (hs' : InI s') (hn' : InI n') :
    Calls Tryd.prog 4 #[.agg #[.int .i64 s, .int .i64 n], .agg #[.int .i64 s', .int .i64 n']] w fun e w' => e = .returned (.bool true) ∧ Below w.heap.size w w' := by
  have k1 := fun w => fit_ s n w hs hn
  have k2 := fun w => fit_ s' n' w hs' hn'
  have bS := fs_in s hs
  have bN := fn_in n
  have bT := fs_in s' hs'
  have bM := fn_in n'
  obtain ⟨S, HS⟩ : ∃ S, Hid (fs s = S) := ⟨_, rfl⟩
  obtain ⟨N, HN⟩ : ∃ N, Hid (fn n = N) := ⟨_, rfl⟩
  obtain ⟨T, HT⟩ : ∃ T, Hid (fs s' = T) := ⟨_, rfl⟩
  obtain ⟨M, HM⟩ : ∃ M, Hid (fn n' = M) := ⟨_, rfl⟩
  rw [HS.out] at bS
  rw [HN.out] at bN
  rw [HT.out] at bT
  rw [HM.out] at bM
  rw [HS.out, HN.out] at k1
  rw [HT.out, HM.out] at k2
  have IS : InI S := ⟨by omega, by omega⟩
  have IN : InI N := ⟨by omega, by omega⟩
  have IT : InI T := ⟨by omega, by omega⟩
  have IM : InI M := ⟨by omega, by omega⟩
  have k3 := fun w => next_ S N w IS IN
  have IX := n_in (S := S) (N := N) bS.2
  have k4 := fun w => less_ S N (ns S N) (nn S N) w IS IN IX.1 IX.2
  have k5 := fun w => less_ S N T M w IS IN IT IM
  have k6 := fun w => less_ T M (ns S N) (nn S N) w IT IM IX.1 IX.2
  have k7 := fun w => next_ T M w IT IM
  have k8 := fun w => sameStamp_ S N T M w
  have k9 := fun w => sameStamp_ (ns S N) (nn S N) (ns T M) (nn T M) w
  have HSB := hid (step_back (S := S) (N := N) bS)
  have HSB0 := hid (step_back0 (S := S))
  have k11 := fun w => sameStamp_ S N S N w
  rw [sme_self] at k11
  have HB := hid (nok_iff (S := S) (N := N) bS.1 bN)
  have HU := hid (step_up (S := S) (N := N))
  have HNO := hid (fun h => step_none (S := S) (N := N) (T := T) (M := M) h bS.2 bM)
  have HON := hid (fun h h' => step_one (S := S) (N := N) (T := T) (M := M) h h' bS.2 bT.2)
  obtain ⟨X, HX⟩ : ∃ X, Hid (ns S N = X) := ⟨_, rfl⟩
  obtain ⟨Y, HY⟩ : ∃ Y, Hid (nn S N = Y) := ⟨_, rfl⟩
  obtain ⟨X', HX'⟩ : ∃ X, Hid (ns T M = X) := ⟨_, rfl⟩
  obtain ⟨Y', HY'⟩ : ∃ Y, Hid (nn T M = Y) := ⟨_, rfl⟩
  simp only [HX.out, HY.out, HX'.out, HY'.out] at k3 k4 k6 k7 k9 HU HNO HON
  have B0 := snew2 w s n s' n'
  obtain ⟨m0, m1⟩ := snew3 w s n s' n'
  clear IX
  go_enter Tryd.func4, Tryd.ntmps4
  go_wp2_with fail
  refine (known_ _ (hT.kept B0)).mono ?_
  rintro e w1 ⟨rfl, g2⟩
  replace m0 := m0.kept g2
  replace m1 := m1.kept g2
  replace B0 := bel_bel B0 B0.size g2
  clear g2
  have cm00 := m0.c0
  have cm01 := m0.c1
  have cm10 := m1.c0
  have cm11 := m1.c1
  go_wp2_with fail
  clear cm00 cm01 cm10 cm11
  refine (k1 _).mono ?_
  rintro e w2 ⟨rfl, g2⟩
  replace m0 := m0.kept g2
  replace m1 := m1.kept g2
  replace B0 := bel_bel B0 B0.size g2
  clear g2
  have cm00 := m0.c0
  have cm01 := m0.c1
  have cm10 := m1.c0
  have cm11 := m1.c1
  go_wp2_with (refine wpList_sst rfl rfl _ _ rfl (w.heap.size) (S) (N) rfl rfl (s) (n) (by with_reducible exact m0) ?_; clear cm00 cm01 cm10 cm11; replace m1 := m1.rowo (g' := w.heap.size) (by omega) #[.int .i64 S, .int .i64 N]; replace m0 := m0.row (S) (N); replace B0 := bel_row B0 (g := w.heap.size) (by omega) #[.int .i64 (S), .int .i64 (N)]; generalize w2.setRow (w.heap.size) #[.int .i64 (S), .int .i64 (N)] = w2b at *; have cm00 := m0.c0; have cm01 := m0.c1; have cm10 := m1.c0; have cm11 := m1.c1)
  refine (k2 _).mono ?_
  rintro e w3 ⟨rfl, g2⟩
  replace m0 := m0.kept g2
  replace m1 := m1.kept g2
  replace B0 := bel_bel B0 B0.size g2
  clear g2
  clear cm00 cm01 cm10 cm11
  have cm00 := m0.c0
  have cm01 := m0.c1
  have cm10 := m1.c0
  have cm11 := m1.c1
  go_wp2_with (refine wpList_sst rfl rfl _ _ rfl (w.heap.size + 1) (T) (M) rfl rfl (s') (n') (by with_reducible exact m1) ?_; clear cm00 cm01 cm10 cm11; replace m0 := m0.rowo (g' := w.heap.size + 1) (by omega) #[.int .i64 T, .int .i64 M]; replace m1 := m1.row (T) (M); replace B0 := bel_row B0 (g := w.heap.size + 1) (by omega) #[.int .i64 (T), .int .i64 (M)]; generalize w3.setRow (w.heap.size + 1) #[.int .i64 (T), .int .i64 (M)] = w3b at *; have cm00 := m0.c0; have cm01 := m0.c1; have cm10 := m1.c0; have cm11 := m1.c1)
  refine (k3 _).mono ?_
  rintro e w4 ⟨rfl, g2⟩
  replace m0 := m0.kept g2
  replace m1 := m1.kept g2
  replace B0 := bel_bel B0 B0.size g2
  clear g2
  clear cm00 cm01 cm10 cm11
  replace m0 := m0.alloc (.cells #[.int .i64 X, .int .i64 Y] 23)
  replace m1 := m1.alloc (.cells #[.int .i64 X, .int .i64 Y] 23)
  have m2 := Sm.new w4 X Y
  replace B0 := B0.alloc B0.size (.cells #[.int .i64 X, .int .i64 Y] 23)
  clear k1 k2 k3
  cases hA : nok S N with
  | false =>
    have hb := hA
    rw [HB.out, Bool.not_eq_false'] at hb
    have hb := of_decide_eq_true (show decide _ = true from hb)
    have e1 : (S == 9223372036854775807) = true := by simp [hb.1]
    have e2 : (N == 999999999) = true := by simp [hb.2]
    have hN0 : 0 < N := by omega
    have hS0 : 0 < S := by omega
    have z1 : (S == 0) = false := by rw [beq_eq_false_iff_ne]; omega
    have z2 : (N == 0) = false := by rw [beq_eq_false_iff_ne]; omega
    have HN0 := hid hN0
    clear hb k4 k5 k6 k7 k8 k9 HNO HON HU HB hA hS0 hN0
    obtain ⟨q1, q2, q3⟩ := HSB.out ⟨HN0.out, bN.2⟩
    have k10 := fun w => next_ S (N - 1) w IS ⟨by omega, by omega⟩
    rw [q1, q2, q3] at k10
    have k12 := k11
    clear q1 q2 q3 HSB HSB0 k11
    have cm00 := m0.c0
    have cm01 := m0.c1
    have cm10 := m1.c0
    have cm11 := m1.c1
    have cm20 := m2.c0
    have cm21 := m2.c1
    replace m0 := m0.alloc (.cells #[.int .i64 S, .int .i64 (N - 1)] 23)
    replace m1 := m1.alloc (.cells #[.int .i64 S, .int .i64 (N - 1)] 23)
    replace m2 := m2.alloc (.cells #[.int .i64 S, .int .i64 (N - 1)] 23)
    have mp := Sm.new (w4.alloc (.cells #[.int .i64 X, .int .i64 Y] 23)) S (N - 1)
    replace B0 := B0.alloc B0.size (.cells #[.int .i64 S, .int .i64 (N - 1)] 23)
    have dm00 := m0.c0
    have dm01 := m0.c1
    have dm10 := m1.c0
    have dm11 := m1.c1
    have dm20 := m2.c0
    have dm21 := m2.c1
    have dmp0 := mp.c0
    have dmp1 := mp.c1
    go_wp2_with fail
    clear cm00 cm01 cm10 cm11 cm20 cm21
    clear dm00 dm01 dm10 dm11 dm20 dm21 dmp0 dmp1
    refine (k10 _).mono ?_
    rintro e w5 ⟨rfl, g2⟩
    replace m0 := m0.kept g2
    replace m1 := m1.kept g2
    replace m2 := m2.kept g2
    replace mp := mp.kept g2
    replace B0 := bel_bel B0 B0.size g2
    clear g2
    replace m0 := m0.alloc (.cells #[.int .i64 S, .int .i64 N] 23)
    replace m1 := m1.alloc (.cells #[.int .i64 S, .int .i64 N] 23)
    replace m2 := m2.alloc (.cells #[.int .i64 S, .int .i64 N] 23)
    replace mp := mp.alloc (.cells #[.int .i64 S, .int .i64 N] 23)
    have mq := Sm.new w5 S N
    replace B0 := B0.alloc B0.size (.cells #[.int .i64 S, .int .i64 N] 23)
    have cm00 := m0.c0
    have cm01 := m0.c1
    have cm10 := m1.c0
    have cm11 := m1.c1
    have cm20 := m2.c0
    have cm21 := m2.c1
    have cmp0 := mp.c0
    have cmp1 := mp.c1
    have cmq0 := mq.c0
    have cmq1 := mq.c1
    go_wp2_with fail
    clear cm00 cm01 cm10 cm11 cm20 cm21 cmp0 cmp1 cmq0 cmq1
    refine (k12 _).mono ?_
    rintro e w6 ⟨rfl, g2⟩
    replace m0 := m0.kept g2
    replace m1 := m1.kept g2
    replace m2 := m2.kept g2
    replace mp := mp.kept g2
    replace mq := mq.kept g2
    replace B0 := bel_bel B0 B0.size g2
    clear g2
    clear k10 k12
    go_wp2_with fail
    go_ret
    exact ⟨rfl, B0⟩
  | true =>
    have hb := hA
    rw [HB.out, Bool.not_eq_true'] at hb
    have hb := of_decide_eq_false (show decide _ = false from hb)
    rw [HU.out hA] at k4
    replace HNO := hid (HNO.out hA)
    replace HON := hid (HON.out hA)
    clear HU HB hA
    have HE : Hid ((S == 9223372036854775807) = false ∨ ((S == 9223372036854775807) = true ∧ (N == 999999999) = false)) := by
      by_cases h : S = 9223372036854775807
      · exact .inr ⟨by simp [h], by rw [beq_eq_false_iff_ne]; intro h'; exact hb ⟨h, h'⟩⟩
      · exact .inl (by rw [beq_eq_false_iff_ne]; exact h)
    clear hb
    rcases HE.out with e1 | ⟨e1, e2⟩
    all_goals
     clear HE
     have cm00 := m0.c0
     have cm01 := m0.c1
     have cm10 := m1.c0
     have cm11 := m1.c1
     have cm20 := m2.c0
     have cm21 := m2.c1
     go_wp2_with fail
     clear cm00 cm01 cm10 cm11 cm20 cm21
     refine (k4 _).mono ?_
     rintro e w5 ⟨rfl, g2⟩
     replace m0 := m0.kept g2
     replace m1 := m1.kept g2
     replace m2 := m2.kept g2
     replace B0 := bel_bel B0 B0.size g2
     clear g2
     have cm00 := m0.c0
     have cm01 := m0.c1
     have cm10 := m1.c0
     have cm11 := m1.c1
     have cm20 := m2.c0
     have cm21 := m2.c1
     go_wp2_with fail
     clear cm00 cm01 cm10 cm11 cm20 cm21
     refine (k5 _).mono ?_
     rintro e w6 ⟨rfl, g2⟩
     replace m0 := m0.kept g2
     replace m1 := m1.kept g2
     replace m2 := m2.kept g2
     replace B0 := bel_bel B0 B0.size g2
     clear g2
     have cm00 := m0.c0
     have cm01 := m0.c1
     have cm10 := m1.c0
     have cm11 := m1.c1
     have cm20 := m2.c0
     have cm21 := m2.c1
     go_wp2_with fail
     clear cm00 cm01 cm10 cm11 cm20 cm21
     refine (k6 _).mono ?_
     rintro e w7 ⟨rfl, g2⟩
     replace m0 := m0.kept g2
     replace m1 := m1.kept g2
     replace m2 := m2.kept g2
     replace B0 := bel_bel B0 B0.size g2
     clear g2
     have cm00 := m0.c0
     have cm01 := m0.c1
     have cm10 := m1.c0
     have cm11 := m1.c1
     have cm20 := m2.c0
     have cm21 := m2.c1
     go_wp2_with fail
     clear cm00 cm01 cm10 cm11 cm20 cm21
     refine (k7 _).mono ?_
     rintro e w8 ⟨rfl, g2⟩
     replace m0 := m0.kept g2
     replace m1 := m1.kept g2
     replace m2 := m2.kept g2
     replace B0 := bel_bel B0 B0.size g2
     clear g2
     replace m0 := m0.alloc (.cells #[.int .i64 X', .int .i64 Y'] 23)
     replace m1 := m1.alloc (.cells #[.int .i64 X', .int .i64 Y'] 23)
     replace m2 := m2.alloc (.cells #[.int .i64 X', .int .i64 Y'] 23)
     have m3 := Sm.new w8 X' Y'
     replace B0 := B0.alloc B0.size (.cells #[.int .i64 X', .int .i64 Y'] 23)
     have cm00 := m0.c0
     have cm01 := m0.c1
     have cm10 := m1.c0
     have cm11 := m1.c1
     have cm20 := m2.c0
     have cm21 := m2.c1
     have cm30 := m3.c0
     have cm31 := m3.c1
     go_wp2_with fail
     clear cm00 cm01 cm10 cm11 cm20 cm21 cm30 cm31
     refine (k8 _).mono ?_
     rintro e w9 ⟨rfl, g2⟩
     replace m0 := m0.kept g2
     replace m1 := m1.kept g2
     replace m2 := m2.kept g2
     replace m3 := m3.kept g2
     replace B0 := bel_bel B0 B0.size g2
     clear g2
     have cm00 := m0.c0
     have cm01 := m0.c1
     have cm10 := m1.c0
     have cm11 := m1.c1
     have cm20 := m2.c0
     have cm21 := m2.c1
     have cm30 := m3.c0
     have cm31 := m3.c1
     go_wp2_with fail
     clear cm00 cm01 cm10 cm11 cm20 cm21 cm30 cm31
     refine (k9 _).mono ?_
     rintro e w10 ⟨rfl, g2⟩
     replace m0 := m0.kept g2
     replace m1 := m1.kept g2
     replace m2 := m2.kept g2
     replace m3 := m3.kept g2
     replace B0 := bel_bel B0 B0.size g2
     clear g2
     clear e1
     try clear e2
     clear k4 k5 k6 k7 k8 k9
     have HC : Hid (lss S N T M = false ∨ (lss S N T M = true ∧ lss T M X Y = false)) := by
       cases h : lss S N T M with
       | false => exact .inl rfl
       | true => exact .inr ⟨rfl, HNO.out h⟩
     have HD : Hid (nok T M = false ∨ (nok T M = true ∧ sme X Y X' Y' = sme S N T M)) := by
       cases h : nok T M with
       | false => exact .inl rfl
       | true => exact .inr ⟨rfl, HON.out h⟩
     clear HNO HON
     rcases HC.out with h1 | ⟨h1, h1'⟩
     all_goals
      clear HC
      rcases HD.out with h2 | ⟨h2, h2'⟩
      all_goals
       clear HD
       by_cases hN0 : N = 0
       · have z2 : (N == 0) = true := by simp [hN0]
         by_cases hS0 : S = 0
         · have z1 : (S == 0) = true := by simp [hS0]
           clear hN0 hS0 k11 HSB HSB0
           have cm00 := m0.c0
           have cm01 := m0.c1
           have cm10 := m1.c0
           have cm11 := m1.c1
           have cm20 := m2.c0
           have cm21 := m2.c1
           have cm30 := m3.c0
           have cm31 := m3.c1
           go_wp2_with fail
           go_ret
           exact ⟨rfl, B0⟩
         · have z1 : (S == 0) = false := by rw [beq_eq_false_iff_ne]; exact hS0
           obtain ⟨q1, q2, q3⟩ := HSB0.out ⟨by omega, bS.2⟩
           have k10 := fun w => next_ (S - 1) 999999999 w ⟨by omega, by omega⟩ ⟨by omega, by omega⟩
           have k12 := fun w => sameStamp_ S 0 S N w
           rw [q1, q2, q3] at k10
           have hq : sme S 0 S N = true := decide_eq_true ⟨rfl, hN0.symm⟩
           rw [hq] at k12
           have hS1 : 0 < S := by omega
           clear q1 q2 q3 HSB HSB0 hq hN0 hS0 k11
           have lm0 := m0.lt
           have lm1 := m1.lt
           have lm2 := m2.lt
           have lm3 := m3.lt
           have cm00 := m0.c0
           have cm01 := m0.c1
           have cm10 := m1.c0
           have cm11 := m1.c1
           have cm20 := m2.c0
           have cm21 := m2.c1
           have cm30 := m3.c0
           have cm31 := m3.c1
           replace m0 := m0.alloc (.cells #[.int .i64 S, .int .i64 (N - 1)] 23)
           replace m1 := m1.alloc (.cells #[.int .i64 S, .int .i64 (N - 1)] 23)
           replace m2 := m2.alloc (.cells #[.int .i64 S, .int .i64 (N - 1)] 23)
           replace m3 := m3.alloc (.cells #[.int .i64 S, .int .i64 (N - 1)] 23)
           have mp := Sm.new w10 S (N - 1)
           replace B0 := B0.alloc B0.size (.cells #[.int .i64 S, .int .i64 (N - 1)] 23)
           have dm00 := m0.c0
           have dm01 := m0.c1
           have dm10 := m1.c0
           have dm11 := m1.c1
           have dm20 := m2.c0
           have dm21 := m2.c1
           have dm30 := m3.c0
           have dm31 := m3.c1
           have dmp0 := mp.c0
           have dmp1 := mp.c1
           go_wp2_with (refine wpList_sst rfl rfl _ _ rfl (w10.heap.size) (S - 1) 999999999 rfl rfl S (N - 1) (by with_reducible exact mp) ?_; clear cm00 cm01 cm10 cm11 cm20 cm21 cm30 cm31; clear dm00 dm01 dm10 dm11 dm20 dm21 dm30 dm31 dmp0 dmp1; replace m0 := m0.rowo (g' := w10.heap.size) (by omega) #[.int .i64 (S - 1), .int .i64 999999999]; replace m1 := m1.rowo (g' := w10.heap.size) (by omega) #[.int .i64 (S - 1), .int .i64 999999999]; replace m2 := m2.rowo (g' := w10.heap.size) (by omega) #[.int .i64 (S - 1), .int .i64 999999999]; replace m3 := m3.rowo (g' := w10.heap.size) (by omega) #[.int .i64 (S - 1), .int .i64 999999999]; replace mp := mp.row (S - 1) 999999999; replace B0 := bel_row B0 (g := w10.heap.size) (by have := lm0; omega) #[.int .i64 (S - 1), .int .i64 999999999]; generalize (w10.alloc (.cells #[.int .i64 S, .int .i64 (N - 1)] 23)).setRow (w10.heap.size) #[.int .i64 (S - 1), .int .i64 999999999] = wz at *; have dmp0 := mp.c0; have dmp1 := mp.c1)
           clear dmp0 dmp1 lm0 lm1 lm2 lm3
           refine (k10 _).mono ?_
           rintro e w11 ⟨rfl, g2⟩
           replace m0 := m0.kept g2
           replace m1 := m1.kept g2
           replace m2 := m2.kept g2
           replace m3 := m3.kept g2
           replace mp := mp.kept g2
           replace B0 := bel_bel B0 B0.size g2
           clear g2
           replace m0 := m0.alloc (.cells #[.int .i64 S, .int .i64 0] 23)
           replace m1 := m1.alloc (.cells #[.int .i64 S, .int .i64 0] 23)
           replace m2 := m2.alloc (.cells #[.int .i64 S, .int .i64 0] 23)
           replace m3 := m3.alloc (.cells #[.int .i64 S, .int .i64 0] 23)
           replace mp := mp.alloc (.cells #[.int .i64 S, .int .i64 0] 23)
           have mq := Sm.new w11 S 0
           replace B0 := B0.alloc B0.size (.cells #[.int .i64 S, .int .i64 0] 23)
           have cm00 := m0.c0
           have cm01 := m0.c1
           have cm10 := m1.c0
           have cm11 := m1.c1
           have cm20 := m2.c0
           have cm21 := m2.c1
           have cm30 := m3.c0
           have cm31 := m3.c1
           have cmp0 := mp.c0
           have cmp1 := mp.c1
           have cmq0 := mq.c0
           have cmq1 := mq.c1
           go_wp2_with fail
           clear cm00 cm01 cm10 cm11 cm20 cm21 cm30 cm31 cmp0 cmp1 cmq0 cmq1
           refine (k12 _).mono ?_
           rintro e w12 ⟨rfl, g2⟩
           replace m0 := m0.kept g2
           replace m1 := m1.kept g2
           replace m2 := m2.kept g2
           replace m3 := m3.kept g2
           replace mp := mp.kept g2
           replace mq := mq.kept g2
           replace B0 := bel_bel B0 B0.size g2
           clear g2
           clear k10 k12
           go_wp2_with fail
           go_ret
           exact ⟨rfl, B0⟩
       · have z2 : (N == 0) = false := by rw [beq_eq_false_iff_ne]; exact hN0
         obtain ⟨q1, q2, q3⟩ := HSB.out ⟨by omega, bN.2⟩
         have k10 := fun w => next_ S (N - 1) w IS ⟨by omega, by omega⟩
         rw [q1, q2, q3] at k10
         have k12 := k11
         clear q1 q2 q3 HSB HSB0 hN0 k11
         obtain ⟨z, z1⟩ : ∃ z, (S == 0) = z := ⟨_, rfl⟩
         cases z
         all_goals
          have cm00 := m0.c0
          have cm01 := m0.c1
          have cm10 := m1.c0
          have cm11 := m1.c1
          have cm20 := m2.c0
          have cm21 := m2.c1
          have cm30 := m3.c0
          have cm31 := m3.c1
          replace m0 := m0.alloc (.cells #[.int .i64 S, .int .i64 (N - 1)] 23)
          replace m1 := m1.alloc (.cells #[.int .i64 S, .int .i64 (N - 1)] 23)
          replace m2 := m2.alloc (.cells #[.int .i64 S, .int .i64 (N - 1)] 23)
          replace m3 := m3.alloc (.cells #[.int .i64 S, .int .i64 (N - 1)] 23)
          have mp := Sm.new w10 S (N - 1)
          replace B0 := B0.alloc B0.size (.cells #[.int .i64 S, .int .i64 (N - 1)] 23)
          have dm00 := m0.c0
          have dm01 := m0.c1
          have dm10 := m1.c0
          have dm11 := m1.c1
          have dm20 := m2.c0
          have dm21 := m2.c1
          have dm30 := m3.c0
          have dm31 := m3.c1
          have dmp0 := mp.c0
          have dmp1 := mp.c1
          go_wp2_with fail
          clear cm00 cm01 cm10 cm11 cm20 cm21 cm30 cm31
          clear dm00 dm01 dm10 dm11 dm20 dm21 dm30 dm31 dmp0 dmp1
          refine (k10 _).mono ?_
          rintro e w11 ⟨rfl, g2⟩
          replace m0 := m0.kept g2
          replace m1 := m1.kept g2
          replace m2 := m2.kept g2
          replace m3 := m3.kept g2
          replace mp := mp.kept g2
          replace B0 := bel_bel B0 B0.size g2
          clear g2
          replace m0 := m0.alloc (.cells #[.int .i64 S, .int .i64 N] 23)
          replace m1 := m1.alloc (.cells #[.int .i64 S, .int .i64 N] 23)
          replace m2 := m2.alloc (.cells #[.int .i64 S, .int .i64 N] 23)
          replace m3 := m3.alloc (.cells #[.int .i64 S, .int .i64 N] 23)
          replace mp := mp.alloc (.cells #[.int .i64 S, .int .i64 N] 23)
          have mq := Sm.new w11 S N
          replace B0 := B0.alloc B0.size (.cells #[.int .i64 S, .int .i64 N] 23)
          have cm00 := m0.c0
          have cm01 := m0.c1
          have cm10 := m1.c0
          have cm11 := m1.c1
          have cm20 := m2.c0
          have cm21 := m2.c1
          have cm30 := m3.c0
          have cm31 := m3.c1
          have cmp0 := mp.c0
          have cmp1 := mp.c1
          have cmq0 := mq.c0
          have cmq1 := mq.c1
          go_wp2_with fail
          clear cm00 cm01 cm10 cm11 cm20 cm21 cm30 cm31 cmp0 cmp1 cmq0 cmq1
          refine (k12 _).mono ?_
          rintro e w12 ⟨rfl, g2⟩
          replace m0 := m0.kept g2
          replace m1 := m1.kept g2
          replace m2 := m2.kept g2
          replace m3 := m3.kept g2
          replace mp := mp.kept g2
          replace mq := mq.kept g2
          replace B0 := bel_bel B0 B0.size g2
          clear g2
          clear k10 k12
          go_wp2_with fail
          go_ret
          exact ⟨rfl, B0⟩

end Go.Proofs.YtajjilheellfeabDoor
