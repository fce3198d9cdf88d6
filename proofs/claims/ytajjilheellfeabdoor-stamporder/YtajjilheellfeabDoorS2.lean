import Derived.Test.YtajjilheellfeabDoorS1
namespace Go.Proofs.YtajjilheellfeabDoor
open Go.RowKit
set_option linter.unusedVariables false

theorem be_get (k : Nat) (x : Int) : ∀ j, j < k → (be k x).getD j 0 = x / 256 ^ (k - 1 - j) % 256 := by
  induction k with
  | zero => intro j h; omega
  | succ k ih =>
    intro j hj
    rw [be]
    cases j with
    | zero => simp
    | succ j => rw [List.getD_cons_succ, ih j (by omega), show k + 1 - 1 - (j + 1) = k - 1 - j from by omega]
theorem Sm.at {w w' : World} {g : Nat} {s n : Int} (h : Sm w g s n) (e : w'.heap[g]? = w.heap[g]?) : Sm w' g s n := by unfold Sm at *; rw [e]; exact h
theorem own_le {w : World} {B B' e s n : Nat} {v : Value} {xs : List Value} (h : w.ownsRow B e s v n xs) (hB : B' ≤ B) : w.ownsRow B' e s v n xs := by
  obtain ⟨h1, h2⟩ := h
  refine ⟨h1, ?_⟩
  rcases h2 with h2 | ⟨g, cap, cur, e1, hb, r⟩
  · exact .inl h2
  · exact .inr ⟨g, cap, cur, e1, Nat.le_trans hB hb, r⟩
theorem pow_256 (m : Nat) : (256 : Int) ^ m = 2 ^ (8 * m) := by rw [Int.pow_mul]; rfl
set_option maxHeartbeats 1000000 in
theorem refPut_ (s n : Int) (w : World) (hs : -9223372036854775808 ≤ s ∧ s ≤ 9223372036854775807) (hn : -9223372036854775808 ≤ n ∧ n ≤ 9223372036854775807) :
    Calls Tryd.prog 20 #[.agg #[.int .i64 s, .int .i64 n]] w fun e w' => ∃ v, e = .returned v ∧ w'.ownsRow w.heap.size 5 1 v (pt s n).length (cells (pt s n)) ∧ Below w.heap.size w w' := by
  obtain ⟨i, hi, hz0, hz1, hz2⟩ := info_parts info5
  have B0 := snew1 w s n
  have m0 := Sm.new w s n
  go_enter Tryd.func20, Tryd.ntmps20
  go_wp2_with fail
  refine (refValid_ s n _).mono ?_
  rintro e w1 ⟨rfl, g2⟩
  have m0 := m0.kept g2
  have B0 := bel_bel B0 B0.size g2
  clear g2
  cases hv : vld s n with
  | false =>
    go_wp2_with fail
    go_ret
    have e : pt s n = [] := by unfold pt; rw [hv]; rfl
    rw [e]
    exact ⟨_, rfl, World.ownsRow_nil _ _ _ _, B0⟩
  | true =>
    have e : pt s n = be 8 s ++ be 4 n := by unfold pt; rw [hv]; rfl
    have HE := hid e
    have hv' := of_decide_eq_true (show decide _ = true from hv)
    obtain ⟨p1, p2, p3⟩ := hv'
    have HTL : Hid ((be 8 s ++ be 4 n).length = 12) := by show _ = _; rw [List.length_append, be_length, be_length]
    have HT0 : Hid (∀ j, j < 8 → (be 8 s ++ be 4 n).getD j 0 = s / 2 ^ (56 - 8 * j) % 256) := fun j hj => by
      have e : (be 8 s ++ be 4 n).getD j 0 = (be 8 s).getD j 0 := by simp only [List.getD, List.getElem?_append_left (show j < (be 8 s).length by rw [be_length]; exact hj)]
      rw [e, be_get 8 s j hj, pow_256, show 8 * (8 - 1 - j) = 56 - 8 * j from by omega]
    have HT8 : Hid (∀ j, j < 4 → (be 8 s ++ be 4 n).getD (8 + j) 0 = n / 2 ^ (24 - 8 * j) % 256) := fun j hj => by
      have e : (be 8 s ++ be 4 n).getD (8 + j) 0 = (be 4 n).getD j 0 := by
        have l8 : (be 8 s).length = 8 := be_length 8 s
        simp only [List.getD, List.getElem?_append_right (show (be 8 s).length ≤ 8 + j by omega), l8, Nat.add_sub_cancel_left]
      rw [e, be_get 4 n j hj, pow_256, show 8 * (4 - 1 - j) = 24 - 8 * j from by omega]
    generalize be 8 s ++ be 4 n = T at *
    clear hv e
    go_wp2_with fail
    go_loopw [4, 5] (fun v i wr => ∃ j : Nat, j ≤ 8 ∧ i = .int .i64 j ∧ wr.ownsRow (w.heap.size + 1) 5 1 v (j) (cells (T.take (j))) ∧ Sm wr w.heap.size s n ∧ Below w.heap.size w wr) (fun _ i _ => 8 - (intOf i).toNat)
    case atStart => exact ⟨0, by omega, rfl, World.ownsRow_nil _ _ _ _, m0, B0⟩
    case round =>
      clear m0 B0
      obtain ⟨j, hj, rfl, hown, m0, B0⟩ := hrel
      have hsz := B0.size
      have hml := m0.lt
      by_cases hlt : j < 8
      · have hjI : (j : Int) < 8 := by omega
        have cc := m0.c0
        have HZ : Hid (s / 2 ^ (56 - 8 * j) % 256 = T.getD (j) 0) := (HT0.out j hlt).symm
        have HS : Hid (cells (T.take (j)) ++ [.int .u8 (s / 2 ^ (56 - 8 * j) % 256)] = cells (T.take (j + 1))) := by
          show _ = _
          rw [HZ.out]
          exact cells_take_succ T (j) (by rw [HTL.out]; omega)
        have HO := hid hown
        obtain ⟨z, hz⟩ : ∃ z, s / 2 ^ (56 - 8 * j) % 256 = z := ⟨_, rfl⟩
        rw [hz] at HS
        clear HZ
        go_wp2_with (at_builtin; refine wpList_append_own _ rfl _ _ 30 rfl (w.heap.size + 1) 5 i (.int .u8 0) 1 1 Tryd.underlying30 hi hz0 hz1 hz2 rfl (by decide) _ _ _ rfl (hown.alloc _) ⟨wr.heap.size, 0, none⟩ 1 1 [.int .u8 z] rfl rfl ?c1 ?c2 ?c3 ?c4 ?c5 ?_)
        case c1 =>
          intro j u hj
          match j, hj with
          | 0, hj => simp at hj; subst hj; simp [Addr.add]
        case c2 => intro u hu; simp at hu; subst hu; rfl
        case c3 => unfold maxLen; omega
        case c4 => omega
        case c5 => simp; omega
        intro v' w2 hown' hgrow _
        have hown2 : w2.ownsRow (w.heap.size + 1) 5 1 v' (j + 1) (cells (T.take (j + 1))) := by rw [← HS.out]; exact hown'
        have B2 : Below w.heap.size w w2 := (B0.alloc (by omega) _).grown hgrow (by simp; omega) fun q hq => by have := (HO.out.lt q hq).1; omega
        have m2 : Sm w2 w.heap.size s n := (m0.alloc (.cells #[.int .u8 z] 5)).at (hgrow.block _ (by simp; omega) (fun e => by have := (HO.out.lt w.heap.size e.symm).1; omega))
        clear hown' hgrow hown HO HS cc m0 B0
        go_wp2_with fail
        go_roundw
        case rel => exact ⟨j + 1, by omega, by go_num, hown2, m2, B2⟩
        case measure => simp [intOf]; omega
      · have hge : ¬ (j : Int) < 8 := by omega
        rw [show j = 8 from by omega] at hown
        clear hlt hj
        obtain ⟨wo, rfl⟩ : ∃ wo, wo = wr := ⟨_, rfl⟩
        go_wp2_with fail
        go_loopw [4, 6] (fun v i wr => ∃ j : Nat, j ≤ 4 ∧ i = .int .i64 j ∧ wr.ownsRow (w.heap.size + 1) 5 1 v (8 + j) (cells (T.take (8 + j))) ∧ Sm wr w.heap.size s n ∧ Below w.heap.size w wr) (fun _ i _ => 4 - (intOf i).toNat)
        case atStart => exact ⟨0, by omega, rfl, hown, m0, B0⟩
        case round =>
          clear m0 B0 hown
          obtain ⟨j, hj, rfl, hown, m0, B0⟩ := hrel
          have hsz := B0.size
          have hml := m0.lt
          by_cases hlt : j < 4
          · have hjI : (j : Int) < 4 := by omega
            have cc := m0.c1
            have HZ : Hid (n / 2 ^ (24 - 8 * j) % 256 = T.getD (8 + j) 0) := (HT8.out j hlt).symm
            have HS : Hid (cells (T.take (8 + j)) ++ [.int .u8 (n / 2 ^ (24 - 8 * j) % 256)] = cells (T.take (8 + j + 1))) := by
              show _ = _
              rw [HZ.out]
              exact cells_take_succ T (8 + j) (by rw [HTL.out]; omega)
            have HO := hid hown
            obtain ⟨z, hz⟩ : ∃ z, n / 2 ^ (24 - 8 * j) % 256 = z := ⟨_, rfl⟩
            rw [hz] at HS
            clear HZ
            go_wp2_with (at_builtin; refine wpList_append_own _ rfl _ _ 30 rfl (w.heap.size + 1) 5 i (.int .u8 0) 1 1 Tryd.underlying30 hi hz0 hz1 hz2 rfl (by decide) _ _ _ rfl (hown.alloc _) ⟨wr.heap.size, 0, none⟩ 1 1 [.int .u8 z] rfl rfl ?c1 ?c2 ?c3 ?c4 ?c5 ?_)
            case c1 =>
              intro j u hj
              match j, hj with
              | 0, hj => simp at hj; subst hj; simp [Addr.add]
            case c2 => intro u hu; simp at hu; subst hu; rfl
            case c3 => unfold maxLen; omega
            case c4 => omega
            case c5 => simp; omega
            intro v' w2 hown' hgrow _
            have hown2 : w2.ownsRow (w.heap.size + 1) 5 1 v' (8 + j + 1) (cells (T.take (8 + j + 1))) := by rw [← HS.out]; exact hown'
            have B2 : Below w.heap.size w w2 := (B0.alloc (by omega) _).grown hgrow (by simp; omega) fun q hq => by have := (HO.out.lt q hq).1; omega
            have m2 : Sm w2 w.heap.size s n := (m0.alloc (.cells #[.int .u8 z] 5)).at (hgrow.block _ (by simp; omega) (fun e => by have := (HO.out.lt w.heap.size e.symm).1; omega))
            clear hown' hgrow hown HO HS cc m0 B0
            go_wp2_with fail
            go_roundw
            case rel => exact ⟨j + 1, by omega, by go_num, hown2, m2, B2⟩
            case measure => simp [intOf]; omega
          · have hge : ¬ (j : Int) < 4 := by omega
            rw [show j = 4 from by omega] at hown
            clear hlt hj
            rw [List.take_of_length_le (by rw [HTL.out]; exact Nat.le_refl _)] at hown
            go_wp2_with fail
            go_ret
            exact ⟨_, rfl, by rw [HE.out, HTL.out]; exact own_le hown (Nat.le_succ _), B0⟩
end Go.Proofs.YtajjilheellfeabDoor
