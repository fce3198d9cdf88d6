import Derived.Test.YtajjilheellfeaaDoorS6
import Derived.WideShapes
namespace Go.Proofs.YtajjilheellfeaaDoor
open Go.RowKit
set_option linter.unusedVariables false

theorem dv_lt (l : List Nat) (h : ∀ x ∈ l, x ≤ 57) : dv l < 10 ^ l.length := by
  have e : ∀ (l : List Nat) (x m : Nat), (∀ z ∈ l, z ≤ 57) → x < 10 ^ m → l.foldl (fun x z => x * 10 + (z - 48)) x < 10 ^ (m + l.length) := by
    intro l
    induction l with
    | nil => intro x m _ h; exact h
    | cons b l ih =>
      intro x m hl hx
      have hb := hl b (by simp)
      have := ih (x * 10 + (b - 48)) (m + 1) (fun z hz => hl z (by simp [hz])) (by rw [Nat.pow_succ]; omega)
      rw [show m + 1 + l.length = m + (b :: l).length from by simp; omega] at this
      exact this
  have := e l 0 0 h (by decide)
  rwa [Nat.zero_add] at this
theorem sb_inj {a b : List Nat} (ha : ∀ x ∈ a, x < 256) (hb : ∀ x ∈ b, x < 256) (h : sb a = sb b) : a = b := by
  have e : a.map UInt8.ofNat = b.map UInt8.ofNat := by
    have := congrArg ByteArray.data h
    simpa [sb] using this
  have hl : a.length = b.length := by have := congrArg List.length e; simpa using this
  refine list_ext6 hl fun i hi => ?_
  have h1 := congrArg (fun l : List UInt8 => (l.map UInt8.toNat).getD i 0) e
  simp only [List.map_map] at h1
  have h2 : ∀ (l : List Nat) (hy : ∀ x ∈ l, x < 256), (l.map (UInt8.toNat ∘ UInt8.ofNat)).getD i 0 = l.getD i 0 := fun l hy => by
    simp only [List.getD, List.getElem?_map]
    cases q : l[i]? with
    | none => rfl
    | some z =>
      have := hy z (List.mem_of_getElem? q)
      simp
      omega
  rw [h2 a ha, h2 b hb] at h1
  exact h1
theorem pr_lt (s n : Int) : ∀ x ∈ pr s n, x < 256 := by
  intro x hx
  unfold pr at hx
  split at hx
  · rcases List.mem_append.1 hx with h | h
    · have := dl_digit _ _ x h; omega
    · rcases List.mem_cons.1 h with rfl | h
      · omega
      · have := dl_digit _ _ x h; omega
  · simp at hx
theorem size_data (bs : ByteArray) : bs.data.toList.length = bs.size := Array.length_toList
theorem loop_data (bs : ByteArray) : ∀ (k i : Nat) (r : List UInt8), bs.size - i = k → ByteArray.toList.loop bs i r = r.reverse ++ bs.data.toList.drop i := by
  intro k
  induction k with
  | zero =>
    intro i r h
    rw [ByteArray.toList.loop]
    rw [if_neg (by omega)]
    have : bs.data.toList.drop i = [] := List.drop_eq_nil_of_le (by rw [size_data]; omega)
    rw [this, List.append_nil]
  | succ k ih =>
    intro i r h
    rw [ByteArray.toList.loop]
    rw [if_pos (by omega), ih (i + 1) _ (by omega)]
    have hi : i < bs.data.toList.length := by rw [size_data]; omega
    rw [List.drop_eq_getElem_cons hi, List.reverse_cons, List.append_assoc]
    have : bs.get! i = bs.data.toList[i] := by
      show bs.data[i]! = _
      rw [getElem!_pos bs.data i (by rw [← Array.length_toList]; exact hi)]
      simp
    rw [this]
    rfl
theorem toList_data (bs : ByteArray) : bs.toList = bs.data.toList := by
  unfold ByteArray.toList
  rw [loop_data bs _ 0 [] rfl]
  simp
theorem toList_inj {a b : ByteArray} (h : a.toList = b.toList) : a = b := by
  rw [toList_data, toList_data] at h
  exact Go.WideShapes.bytes_inj h
theorem getD_lt6 {l : List Nat} (h : ∀ x ∈ l, x < 256) (i : Nat) : l.getD i 0 < 256 := by
  simp only [List.getD]
  cases e : l[i]? with
  | none => simp
  | some z => exact h z (List.mem_of_getElem? e)
theorem run_at (l : List Nat) (hy : ∀ x ∈ l, x < 256) (i : Nat) (h : i < l.length) (w : World) : (Instr.index 9 (.string (sb l)) (.int .i64 (i : Int))).run Tryd.prog w = .ok (.int .u8 ((l.getD i 0 : Nat) : Int)) w := by
  obtain ⟨h', e⟩ := sb_get l hy i h
  have hi : (0 : Int) ≤ (i : Int) ∧ (i : Int) < ((sb l).size : Int) := by rw [sb_size]; omega
  rw [run_index_string w _ _ _ _ (by kernel_rfl), dif_pos hi]
  have e2 : ((sb l)[(i : Int).toNat]'(by rw [Int.toNat_natCast]; exact h')).toNat = l.getD i 0 := e
  rw [e2]
set_option maxHeartbeats 2000000 in
theorem refParse_ (l : List Nat) (w : World) (hy : ∀ x ∈ l, x < 256) (hlen : l.length ≤ maxLen) :
    Calls Tryd.prog 27 #[.string (sb l)] w fun e w' => e = .returned (.tuple #[.agg #[.int .i64 (xs l), .int .i64 (xn l)], .int .i64 (xe l)]) ∧ Below w.heap.size w w' := by
  have B0 := snew1 w 0 0
  have m0 := Sm.new w 0 0
  have hsz := sb_size l
  have HIX := hid (run_at l hy)
  have HY := hid hy
  have HPS := hid (pok_shape l)
  have HINJ : Hid (∀ s n, sb (pr s n) = sb l → pr s n = l) := fun s n h => sb_inj (pr_lt s n) hy h
  unfold maxLen at hlen
  obtain ⟨S, HS⟩ : ∃ S, Hid (sb l = S) := ⟨_, rfl⟩
  rw [HS.out] at hsz ⊢
  rw [HS.out] at HIX HINJ
  obtain ⟨n, Hn⟩ : ∃ n, Hid (l.length = n) := ⟨_, rfl⟩
  rw [Hn.out] at hsz hlen HIX
  clear hy
  by_cases c1 : n < 11
  · have HE : Hid (pok l = false) := by
      show _ = _
      cases h : pok l with
      | false => rfl
      | true => have := (HPS.out h).1; rw [Hn.out] at this; omega
    have d1 : decide ((n : Int) - 10 < 1) = true := decide_eq_true (by omega)
    clear c1
    go_enter Tryd.func27, Tryd.ntmps27
    go_wp2_with (refine wpList_sst rfl rfl _ _ rfl w.heap.size 0 0 rfl rfl 0 0 (by with_reducible exact m0) ?_)
    refine bodyPost_ret (v := .tuple #[.agg #[.int .i64 0, .int .i64 0], .int .i64 60]) ?_ rfl ⟨ret_g (x_bad HE.out).1 (x_bad HE.out).2.1 (x_bad HE.out).2.2, bel_row B0 (Nat.le_refl _) _⟩
    exact results_st rfl _ _ w.heap.size 0 0 _ rfl rfl (m0.row 0 0).c0 (m0.row 0 0).c1
  by_cases c2 : 29 < n
  · have HE : Hid (pok l = false) := by
      show _ = _
      cases h : pok l with
      | false => rfl
      | true => have := (HPS.out h).2.1; rw [Hn.out] at this; omega
    have d1 : decide ((n : Int) - 10 < 1) = false := decide_eq_false (by omega)
    have d2 : decide (19 < (n : Int) - 10) = true := decide_eq_true (by omega)
    clear c1 c2
    go_enter Tryd.func27, Tryd.ntmps27
    go_wp2_with (refine wpList_sst rfl rfl _ _ rfl w.heap.size 0 0 rfl rfl 0 0 (by with_reducible exact m0) ?_)
    refine bodyPost_ret (v := .tuple #[.agg #[.int .i64 0, .int .i64 0], .int .i64 60]) ?_ rfl ⟨ret_g (x_bad HE.out).1 (x_bad HE.out).2.1 (x_bad HE.out).2.2, bel_row B0 (Nat.le_refl _) _⟩
    exact results_st rfl _ _ w.heap.size 0 0 _ rfl rfl (m0.row 0 0).c0 (m0.row 0 0).c1
  obtain ⟨A, rfl⟩ : ∃ A, n = A + 10 := ⟨n - 10, by omega⟩
  have hA1 : 1 ≤ A ∧ A ≤ 19 := by omega
  have d1 : decide ((A : Int) < 1) = false := decide_eq_false (by omega)
  have d2 : decide (19 < (A : Int)) = false := decide_eq_false (by omega)
  have hix := HIX.out A (by omega)
  have HA10 : Hid (l.length - 10 = A) := by show _ = _; rw [Hn.out]; omega
  clear c1 c2
  by_cases c3 : l.getD A 0 = 46
  · have d3 : (((l.getD A 0 : Nat) : Int) != 46) = false := by rw [c3]; rfl
    obtain ⟨y, Hy⟩ : ∃ y, Hid (l.getD A 0 = y) := ⟨_, rfl⟩
    rw [Hy.out] at d3 hix
    clear c3
    go_enter Tryd.func27, Tryd.ntmps27
    go_wp2_with fail
    clear d1 d2 d3 hix
    generalize w.alloc (.cells #[.int .i64 0, .int .i64 0] 23) = w1 at *
    have HLT : Hid ((l.take A).length = A) := by show _ = _; rw [List.length_take, Hn.out]; omega
    have HLD : Hid ((l.drop (A + 1)).length = 9) := by show _ = _; rw [List.length_drop, Hn.out]; omega
    have HZS : Hid (zs l = dv (l.take A)) := by show _ = _; unfold zs; rw [HA10.out]
    have HZN : Hid (zn l = dv (l.drop (A + 1))) := by show _ = _; unfold zn; rw [HA10.out]
    go_loop [5, 6, 7] (fun u v i => ∃ j : Nat, j ≤ A + 10 ∧ i = .int .i64 j ∧ u = .int .i64 (dv ((l.take A).take j) : Nat) ∧ v = .int .i64 (dv ((l.drop (A + 1)).take (j - (A + 1))) : Nat) ∧ Hid (∀ q, q < j → q ≠ A → 48 ≤ l.getD q 0 ∧ l.getD q 0 ≤ 57) ∧ Hid (dv ((l.take A).take j) ≤ 9223372036854775807)) (fun _ _ i => A + 10 - (intOf i).toNat)
    case atStart => exact ⟨0, by omega, rfl, rfl, by rw [Nat.zero_sub]; rfl, fun q hq => by omega, by show dv [] ≤ _; exact Nat.zero_le _⟩
    case round =>
      obtain ⟨j, hj, rfl, rfl, rfl, HD, HSB⟩ := hrel
      by_cases hlt : j < A + 10
      · have hlI : (j : Int) < (A : Int) + 10 := by omega
        have hix := HIX.out j hlt
        by_cases hjA : j = A
        · subst hjA
          have hee : ((j : Int) == (j : Int)) = true := by simp
          have e1 : (l.take j).take (j + 1) = (l.take j).take j := by rw [List.take_take, List.take_take, Nat.min_eq_right (by omega), Nat.min_eq_right (Nat.le_refl _)]
          have e2 : j + 1 - (j + 1) = j - (j + 1) := by omega
          have H1 := hid e1
          have H2 := hid e2
          clear e1 e2
          obtain ⟨U, HU⟩ : ∃ U, Hid (dv ((l.take j).take j) = U) := ⟨_, rfl⟩
          obtain ⟨V, HV⟩ : ∃ V, Hid (dv ((l.drop (j + 1)).take (j - (j + 1))) = V) := ⟨_, rfl⟩
          rw [HU.out, HV.out]
          go_wp2_with fail
          go_round
          case rel => exact ⟨j + 1, by omega, by go_num, by rw [H1.out, HU.out], by rw [H2.out, HV.out], fun q hq hne => HD.out q (by omega) hne, by show _ ≤ _; rw [H1.out]; exact HSB.out⟩
          case measure => simp [intOf]
        · have hee : ((j : Int) == (A : Int)) = false := by rw [beq_eq_false_iff_ne]; omega
          by_cases hdig : 48 ≤ l.getD j 0 ∧ l.getD j 0 ≤ 57
          · have hD2 : Hid (∀ q, q < j + 1 → q ≠ A → 48 ≤ l.getD q 0 ∧ l.getD q 0 ≤ 57) := fun q hq hne => by
              by_cases e : q = j
              · rw [e]; exact hdig
              · exact HD.out q (by omega) hne
            by_cases hside : j < A
            · have hsI : (j : Int) < (A : Int) := by omega
              have HST : Hid (dv ((l.take A).take (j + 1)) = dv ((l.take A).take j) * 10 + (l.getD j 0 - 48)) := by
                show _ = _
                rw [dv_take (l.take A) j (by rw [HLT.out]; exact hside)]
                have : (l.take A).getD j 0 = l.getD j 0 := by simp only [List.getD, List.getElem?_take, if_pos hside]
                rw [this]
              have HN2 : Hid (j + 1 - (A + 1) = j - (A + 1)) := by show _ = _; omega
              obtain ⟨V, HV⟩ : ∃ V, Hid (dv ((l.drop (A + 1)).take (j - (A + 1))) = V) := ⟨_, rfl⟩
              obtain ⟨U, HU⟩ : ∃ U, Hid (dv ((l.take A).take j) = U) := ⟨_, rfl⟩
              rw [HU.out] at HSB HST ⊢
              rw [HV.out]
              have hUB := HSB.out
              obtain ⟨y, Hy'⟩ : ∃ y, Hid (l.getD j 0 = y) := ⟨_, rfl⟩
              rw [Hy'.out] at hix hdig HST
              have d4 : decide ((y : Int) - 48 < 0) = false := decide_eq_false (by omega)
              have d5 : decide (9 < (y : Int) - 48) = false := decide_eq_false (by omega)
              have ed : (9223372036854775807 - ((y : Int) - 48)).tdiv 10 = (9223372036854775807 - ((y : Int) - 48)) / 10 := Int.tdiv_eq_ediv_of_nonneg (by omega)
              by_cases hov : U * 10 + (y - 48) ≤ 9223372036854775807
              · have d6 : decide ((9223372036854775807 - ((y : Int) - 48)) / 10 < (U : Int)) = false := decide_eq_false (by omega)
                have HDIG := hid hdig
                go_wp2_with fail
                go_round
                case rel => exact ⟨j + 1, by omega, by go_num, by rw [HST.out]; congr 1; have := HDIG.out; omega, by rw [HN2.out, HV.out], hD2, by show _ ≤ _; rw [HST.out]; exact hov⟩
                case measure => simp [intOf]; omega
              · have d6 : decide ((9223372036854775807 - ((y : Int) - 48)) / 10 < (U : Int)) = true := decide_eq_true (by omega)
                have HE : Hid (pok l = false) := by
                  show _ = _
                  cases h : pok l with
                  | false => rfl
                  | true =>
                    have h1 := (HPS.out h).2.2.2.1
                    rw [HZS.out] at h1
                    have h2 := dv_up (l.take A) A (j + 1) (by omega)
                    rw [HST.out, List.take_of_length_le (show (l.take A).length ≤ A by rw [HLT.out]; exact Nat.le_refl _)] at h2
                    omega
                go_wp2_with (refine wpList_sst rfl rfl _ _ rfl w.heap.size 0 0 rfl rfl 0 0 (by with_reducible exact m0) ?_)
                refine bodyPost_ret (v := .tuple #[.agg #[.int .i64 0, .int .i64 0], .int .i64 60]) ?_ rfl ⟨ret_g (x_bad HE.out).1 (x_bad HE.out).2.1 (x_bad HE.out).2.2, bel_row B0 (Nat.le_refl _) _⟩
                exact results_st rfl _ _ w.heap.size 0 0 _ rfl rfl (m0.row 0 0).c0 (m0.row 0 0).c1
            · have hsI : ¬ (j : Int) < (A : Int) := by omega
              obtain ⟨m, rfl⟩ : ∃ m, j = A + 1 + m := ⟨j - (A + 1), by omega⟩
              have HST : Hid (dv ((l.drop (A + 1)).take (A + 1 + m + 1 - (A + 1))) = dv ((l.drop (A + 1)).take m) * 10 + (l.getD (A + 1 + m) 0 - 48)) := by
                show _ = _
                rw [show A + 1 + m + 1 - (A + 1) = m + 1 from by omega, dv_take (l.drop (A + 1)) m (by rw [HLD.out]; omega)]
                have : (l.drop (A + 1)).getD m 0 = l.getD (A + 1 + m) 0 := by simp only [List.getD, List.getElem?_drop]
                rw [this]
              have HTT : Hid ((l.take A).take (A + 1 + m + 1) = (l.take A).take (A + 1 + m)) := by
                show _ = _
                rw [List.take_take, List.take_take, Nat.min_eq_right (by omega), Nat.min_eq_right (by omega)]
              have hVB : dv ((l.drop (A + 1)).take m) < 10 ^ m := by
                have h9 : ((l.drop (A + 1)).take m).length = m := by rw [List.length_take, HLD.out]; omega
                have := dv_lt ((l.drop (A + 1)).take m) (fun x hx => by
                  obtain ⟨k, hk, rfl⟩ := List.mem_iff_getElem.1 hx
                  rw [h9] at hk
                  have q := (HD.out (A + 1 + k) (by omega) (by omega)).2
                  have e : ((l.drop (A + 1)).take m)[k] = l.getD (A + 1 + k) 0 := by
                    have hk2 : A + 1 + k < l.length := by rw [Hn.out]; omega
                    simp [List.getD, hk2]
                  rw [e]; exact q)
                rwa [h9] at this
              have hp9 : (10 : Nat) ^ m ≤ 10 ^ 9 := Nat.pow_le_pow_right (by omega) (by omega)
              rw [show A + 1 + m - (A + 1) = m from by omega]
              obtain ⟨V, HV⟩ : ∃ V, Hid (dv ((l.drop (A + 1)).take m) = V) := ⟨_, rfl⟩
              obtain ⟨U, HU⟩ : ∃ U, Hid (dv ((l.take A).take (A + 1 + m)) = U) := ⟨_, rfl⟩
              rw [HV.out] at HST hVB ⊢
              rw [HU.out]
              have hV9 : V < 1000000000 := Nat.lt_of_lt_of_le hVB hp9
              obtain ⟨y, Hy'⟩ : ∃ y, Hid (l.getD (A + 1 + m) 0 = y) := ⟨_, rfl⟩
              rw [Hy'.out] at hix hdig HST
              have d4 : decide ((y : Int) - 48 < 0) = false := decide_eq_false (by omega)
              have d5 : decide (9 < (y : Int) - 48) = false := decide_eq_false (by omega)
              have d7 : decide (((A + 1 + m : Nat) : Int) < (A : Int)) = false := decide_eq_false (by omega)
              have HDIG := hid hdig
              obtain ⟨j, Hj⟩ : ∃ j, Hid (A + 1 + m = j) := ⟨_, rfl⟩
              simp only [Hj.out] at *
              clear hVB hp9
              go_wp2_with fail
              go_round
              case rel => exact ⟨j + 1, by omega, by go_num, by rw [HTT.out, HU.out], by rw [HST.out]; congr 1; have := HDIG.out; omega, hD2, by show _ ≤ _; rw [HTT.out]; exact HSB.out⟩
              case measure => simp [intOf]; omega
          · have HE : Hid (pok l = false) := by
              show _ = _
              cases h : pok l with
              | false => rfl
              | true => exact absurd ((HPS.out h).2.2.2.2 j (by rw [Hn.out]; exact hlt) (by rw [HA10.out]; exact hjA)) hdig
            obtain ⟨U, HU⟩ : ∃ U, Hid (dv ((l.take A).take j) = U) := ⟨_, rfl⟩
            obtain ⟨V, HV⟩ : ∃ V, Hid (dv ((l.drop (A + 1)).take (j - (A + 1))) = V) := ⟨_, rfl⟩
            rw [HU.out, HV.out]
            obtain ⟨y, Hy'⟩ : ∃ y, Hid (l.getD j 0 = y) := ⟨_, rfl⟩
            rw [Hy'.out] at hix hdig
            have hyb : y < 256 := by rw [← Hy'.out]; exact getD_lt6 HY.out j
            by_cases hneg : y < 48
            · have d4 : decide ((y : Int) - 48 < 0) = true := decide_eq_true (by omega)
              clear hdig
              go_wp2_with (refine wpList_sst rfl rfl _ _ rfl w.heap.size 0 0 rfl rfl 0 0 (by with_reducible exact m0) ?_)
              refine bodyPost_ret (v := .tuple #[.agg #[.int .i64 0, .int .i64 0], .int .i64 60]) ?_ rfl ⟨ret_g (x_bad HE.out).1 (x_bad HE.out).2.1 (x_bad HE.out).2.2, bel_row B0 (Nat.le_refl _) _⟩
              exact results_st rfl _ _ w.heap.size 0 0 _ rfl rfl (m0.row 0 0).c0 (m0.row 0 0).c1
            · have d4 : decide ((y : Int) - 48 < 0) = false := decide_eq_false (by omega)
              have d5 : decide (9 < (y : Int) - 48) = true := decide_eq_true (by omega)
              clear hdig
              go_wp2_with (refine wpList_sst rfl rfl _ _ rfl w.heap.size 0 0 rfl rfl 0 0 (by with_reducible exact m0) ?_)
              refine bodyPost_ret (v := .tuple #[.agg #[.int .i64 0, .int .i64 0], .int .i64 60]) ?_ rfl ⟨ret_g (x_bad HE.out).1 (x_bad HE.out).2.1 (x_bad HE.out).2.2, bel_row B0 (Nat.le_refl _) _⟩
              exact results_st rfl _ _ w.heap.size 0 0 _ rfl rfl (m0.row 0 0).c0 (m0.row 0 0).c1
      · have hlI : ¬ (j : Int) < (A : Int) + 10 := by omega
        have e1 : dv ((l.take A).take j) = zs l := by rw [HZS.out, List.take_of_length_le (by rw [HLT.out]; omega)]
        have e2 : dv ((l.drop (A + 1)).take (j - (A + 1))) = zn l := by rw [HZN.out, List.take_of_length_le (by rw [HLD.out]; omega)]
        rw [e1] at HSB
        rw [e1, e2]
        clear e1 e2 HD
        have hzs : zs l ≤ 9223372036854775807 := HSB.out
        have kp := fun w => refPrint_ (zs l) (zn l) w (by omega)
        have HPOK : Hid (pr (zs l) (zn l) = l → pok l = true) := fun h => decide_eq_true ⟨hzs, by
          cases hv : vld (zs l) (zn l) with
          | true => rfl
          | false =>
            exfalso
            unfold pr at h
            rw [hv] at h
            have := Hn.out
            rw [← h] at this
            simp at this, h⟩
        have HPNO : Hid (pok l = true → pr (zs l) (zn l) = l) := fun h => (of_decide_eq_true (show decide _ = true from h)).2.2
        have HQ := HINJ.out (zs l) (zn l)
        have HQ := hid HQ
        obtain ⟨P, HP⟩ : ∃ P, Hid (sb (pr (zs l) (zn l)) = P) := ⟨_, rfl⟩
        simp only [HP.out] at kp
        rw [HP.out] at HQ
        have HPS2 : Hid (pr (zs l) (zn l) = l → P = S) := fun h => by rw [← HP.out, h, HS.out]
        have HX := hid (x_good (l := l))
        obtain ⟨U, HU⟩ : ∃ U, Hid (zs l = U) := ⟨_, rfl⟩
        obtain ⟨V, HV⟩ : ∃ V, Hid (zn l = V) := ⟨_, rfl⟩
        rw [HU.out] at hzs HPOK HPNO HQ HPS2 HX ⊢
        rw [HV.out] at HPOK HPNO HQ HPS2 HX ⊢
        simp only [HU.out, HV.out] at kp
        have m1 := Sm.new w1 (U : Int) (V : Int)
        have m0 := m0.alloc (.cells #[.int .i64 (U : Int), .int .i64 (V : Int)] 23)
        have B1 := B0.alloc B0.size (.cells #[.int .i64 (U : Int), .int .i64 (V : Int)] 23)
        go_wp2_with fail
        refine (kp _).mono ?_
        rintro e w2 ⟨rfl, g2⟩
        have hw1 := m1.lt
        have hw0 := m0.lt
        replace m0 := m0.kept g2
        replace m1 := m1.kept g2
        have B2 := bel_bel B1 B1.size g2
        have hs1 := B0.size
        clear g2 kp B1 B0
        have c0 := m1.c0
        have c1 := m1.c1
        by_cases hps : P = S
        · have d8 : (P.toList == S.toList) = true := by rw [hps]; simp
          have HPK := HQ.out hps
          have HE := hid (HPOK.out HPK)
          have HX2 := hid (HX.out HE.out)
          clear hps HPK HPOK HPNO HQ HPS2 HX
          go_wp2_with (refine wpList_sst rfl rfl _ _ rfl w.heap.size (U : Int) (V : Int) rfl rfl 0 0 (by with_reducible exact m0) ?_)
          refine bodyPost_ret (v := .tuple #[.agg #[.int .i64 (U : Int), .int .i64 (V : Int)], .int .i64 0]) ?_ rfl ⟨ret_g HX2.out.1 HX2.out.2.1 HX2.out.2.2, bel_row B2 (Nat.le_refl _) _⟩
          exact results_st rfl _ _ w.heap.size (U : Int) (V : Int) _ rfl rfl (m0.row _ _).c0 (m0.row _ _).c1
        · have d8 : (P.toList == S.toList) = false := beq_eq_false_iff_ne.2 fun h => hps (toList_inj h)
          have HE : Hid (pok l = false) := by
            show _ = _
            cases h : pok l with
            | false => rfl
            | true => exact absurd (HPS2.out (HPNO.out h)) hps
          clear hps HPOK HPNO HQ HPS2 HX
          have B0 := B2
          go_wp2_with (refine wpList_sst rfl rfl _ _ rfl w.heap.size 0 0 rfl rfl 0 0 (by with_reducible exact m0) ?_)
          refine bodyPost_ret (v := .tuple #[.agg #[.int .i64 0, .int .i64 0], .int .i64 60]) ?_ rfl ⟨ret_g (x_bad HE.out).1 (x_bad HE.out).2.1 (x_bad HE.out).2.2, bel_row B0 (Nat.le_refl _) _⟩
          exact results_st rfl _ _ w.heap.size 0 0 _ rfl rfl (m0.row 0 0).c0 (m0.row 0 0).c1
  · have HE : Hid (pok l = false) := by
      show _ = _
      cases h : pok l with
      | false => rfl
      | true => have := (HPS.out h).2.2.1; rw [HA10.out] at this; exact absurd this c3
    have d3 : (((l.getD A 0 : Nat) : Int) != 46) = true := bne_iff_ne.2 fun h => c3 (by omega)
    obtain ⟨y, Hy⟩ : ∃ y, Hid (l.getD A 0 = y) := ⟨_, rfl⟩
    rw [Hy.out] at d3 hix
    clear c3
    go_enter Tryd.func27, Tryd.ntmps27
    go_wp2_with (refine wpList_sst rfl rfl _ _ rfl w.heap.size 0 0 rfl rfl 0 0 (by with_reducible exact m0) ?_)
    refine bodyPost_ret (v := .tuple #[.agg #[.int .i64 0, .int .i64 0], .int .i64 60]) ?_ rfl ⟨ret_g (x_bad HE.out).1 (x_bad HE.out).2.1 (x_bad HE.out).2.2, bel_row B0 (Nat.le_refl _) _⟩
    exact results_st rfl _ _ w.heap.size 0 0 _ rfl rfl (m0.row 0 0).c0 (m0.row 0 0).c1
end Go.Proofs.YtajjilheellfeaaDoor
