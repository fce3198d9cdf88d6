import Derived.Test.YtknjokmoommdeabGreatDoorP12
namespace Go.Proofs.YtknjokmoommdeabGreatDoor
set_option maxRecDepth 100000
open Go.RowKit
set_option linter.unusedVariables false

theorem nm_in (b : Nat) (hb : b ≤ 16) (hb0 : 0 < b) (l : List Nat) : -1 ≤ nm b l ∧ nm b l ≤ 65535 := by
  unfold nm
  split
  · omega
  · rename_i h
    cases e : nr b 0 l with
    | none => simp
    | some n =>
      have h1 := nr_lt b l 0 n 0 (by simp) e
      have h2 : b ^ (0 + l.length) ≤ 16 ^ 4 := Nat.le_trans (Nat.pow_le_pow_left hb _) (Nat.pow_le_pow_right (by omega) (by omega))
      have : (16 : Nat) ^ 4 = 65536 := by decide
      show -1 ≤ (n : Int) ∧ (n : Int) ≤ 65535
      omega
set_option maxHeartbeats 1000000 in
theorem refNumber10_ (l : List Nat) (w : World) (hy : ∀ x ∈ l, x < 256) (hlen : l.length ≤ maxLen) :
    Calls Tryz.prog 28 #[.string (sb l), .int .i64 10] w fun e w' => e = .returned (.int .i64 (nm 10 l)) ∧ w' = w := by
  have HN : Hid (nm 10 l = if l.length = 0 ∨ 4 < l.length then -1 else match nr 10 0 l with
    | some n => (n : Int)
    | none => -1) := rfl
  have hs := sb_size l
  unfold maxLen at hlen
  by_cases h0 : l.length = 0
  · obtain rfl : l = [] := List.eq_nil_of_length_eq_zero h0
    have HE : Hid (nm 10 [] = -1) := rfl
    clear HN
    have hsb : sb [] = ⟨#[]⟩ := rfl
    rw [hsb]
    go_enter Tryz.func28, Tryz.ntmps28
    go_wp2_with fail
    go_ret
    exact ⟨by rw [HE.out]; rfl, rfl⟩
  · have hz : ¬ ((sb l).size : Int) = 0 := by omega
    by_cases h4 : 4 < l.length
    · have HE : Hid (nm 10 l = -1) := by show _ = _; rw [HN.out, if_pos (.inr h4)]
      have hz4 : (4 : Int) < ((sb l).size : Int) := by omega
      obtain ⟨n, HL⟩ : ∃ n, Hid (l.length = n) := ⟨_, rfl⟩
      rw [HL.out] at hs hlen h0 h4
      clear HN hz hz4 hy
      generalize sb l = S at *
      have d1 : ((n : Int) == 0) = false := by simp; omega
      have d2 : decide (4 < (n : Int)) = true := by simp; omega
      clear h0 h4
      go_enter Tryz.func28, Tryz.ntmps28
      go_wp2_with fail
      go_ret
      exact ⟨by rw [HE.out]; rfl, rfl⟩
    · replace HN : Hid (nm 10 l = match nr 10 0 l with
        | some n => (n : Int)
        | none => -1) := by show _ = _; rw [HN.out, if_neg (by omega)]
      have hz4 : ¬ (4 : Int) < ((sb l).size : Int) := by omega
      have q := fun i hi w => run_at l hy i hi w
      have HLT : Hid (∀ j n, nr 10 0 (l.take j) = some n → j ≤ l.length → n ≤ 65535) := fun j n h hj => by
        have h1 := nr_lt 10 (l.take j) 0 n 0 (by simp) h
        rw [List.length_take] at h1
        have h2 : 10 ^ (0 + min j l.length) ≤ 16 ^ 4 := Nat.le_trans (Nat.pow_le_pow_left (by decide) _) (Nat.pow_le_pow_right (by omega) (by omega))
        have : (16 : Nat) ^ 4 = 65536 := by decide
        omega
      have HY := hid hy
      have k := fun x h w => refDigit_ x w h
      clear hy
      obtain ⟨S, HS⟩ : ∃ S, Hid (sb l = S) := ⟨_, rfl⟩
      rw [HS.out] at hs ⊢
      simp only [HS.out] at q
      obtain ⟨n, HL⟩ : ∃ n, Hid (l.length = n) := ⟨_, rfl⟩
      rw [HL.out] at hs hlen h0 h4
      simp only [HL.out] at q HLT
      have d1 : ((n : Int) == 0) = false := by simp; omega
      have d2 : decide (4 < (n : Int)) = false := by simp; omega
      clear h0 h4 hz hz4
      go_enter Tryz.func28, Tryz.ntmps28
      go_wp2_with fail
      go_loop [5, 6] (fun v i => ∃ j m : Nat, j ≤ n ∧ v = .int .i64 m ∧ i = .int .i64 j ∧ Hid (nr 10 0 (l.take j) = some m)) (fun _ i => n - (intOf i).toNat)
      case atStart => exact ⟨0, 0, by omega, rfl, rfl, rfl⟩
      case round =>
        obtain ⟨j, m, hj, rfl, rfl, HR⟩ := hrel
        have hm := HLT.out j m HR.out hj
        by_cases hlt : j < n
        · have hI : (j : Int) < (n : Int) := by omega
          have q1 := fun w => q j hlt w
          have hx : l.getD j 0 < 256 := getD_lt6 HY.out j
          have HT := hid (nr_take 10 l j 0 m (by rw [HL.out]; exact hlt) HR.out)
          have HP := hid (nr_stop 10 l j 0 m (by rw [HL.out]; exact hlt) HR.out)
          have k1 := k (l.getD j 0) hx
          have hd := dg_in (l.getD j 0)
          clear k q HLT
          generalize l.getD j 0 = x at *
          go_wp2_with fail
          refine (k1 _).mono ?_
          rintro e w1 ⟨rfl, rfl⟩
          clear k1 q1
          generalize dg x = d at *
          by_cases h1 : d < 0
          · have HE : Hid (nm 10 l = -1) := by show _ = _; rw [HN.out, HP.out (by omega)]
            clear HN HP HT
            go_wp2_with fail
            go_ret
            exact ⟨by rw [HE.out]; rfl, rfl⟩
          · by_cases h2 : (10 : Int) ≤ d
            · have HE : Hid (nm 10 l = -1) := by show _ = _; rw [HN.out, HP.out (by omega)]
              clear HN HP HT
              go_wp2_with fail
              go_ret
              exact ⟨by rw [HE.out]; rfl, rfl⟩
            · have HE := hid (HT.out ⟨by omega, by omega⟩)
              obtain ⟨D, rfl⟩ : ∃ D : Nat, d = D := ⟨d.toNat, by omega⟩
              rw [Int.toNat_natCast] at HE
              clear HN HP HT
              go_wp2_with fail
              go_round
              case rel => exact ⟨j + 1, m * 10 + D, by omega, by go_num, by go_num, HE⟩
              case measure => simp [intOf]; omega
        · have hI : ¬ (j : Int) < (n : Int) := by omega
          obtain rfl : j = n := by omega
          have HE : Hid (nm 10 l = (m : Int)) := by
            show _ = _
            have := HR.out
            rw [List.take_of_length_le (by rw [HL.out]; exact Nat.le_refl _)] at this
            rw [HN.out, this]
          clear HN q k HLT
          go_wp2_with fail
          go_ret
          exact ⟨by rw [HE.out]; rfl, rfl⟩
set_option maxHeartbeats 1000000 in
theorem refNumber16_ (l : List Nat) (w : World) (hy : ∀ x ∈ l, x < 256) (hlen : l.length ≤ maxLen) :
    Calls Tryz.prog 28 #[.string (sb l), .int .i64 16] w fun e w' => e = .returned (.int .i64 (nm 16 l)) ∧ w' = w := by
  have HN : Hid (nm 16 l = if l.length = 0 ∨ 4 < l.length then -1 else match nr 16 0 l with
    | some n => (n : Int)
    | none => -1) := rfl
  have hs := sb_size l
  unfold maxLen at hlen
  by_cases h0 : l.length = 0
  · obtain rfl : l = [] := List.eq_nil_of_length_eq_zero h0
    have HE : Hid (nm 16 [] = -1) := rfl
    clear HN
    have hsb : sb [] = ⟨#[]⟩ := rfl
    rw [hsb]
    go_enter Tryz.func28, Tryz.ntmps28
    go_wp2_with fail
    go_ret
    exact ⟨by rw [HE.out]; rfl, rfl⟩
  · have hz : ¬ ((sb l).size : Int) = 0 := by omega
    by_cases h4 : 4 < l.length
    · have HE : Hid (nm 16 l = -1) := by show _ = _; rw [HN.out, if_pos (.inr h4)]
      have hz4 : (4 : Int) < ((sb l).size : Int) := by omega
      obtain ⟨n, HL⟩ : ∃ n, Hid (l.length = n) := ⟨_, rfl⟩
      rw [HL.out] at hs hlen h0 h4
      clear HN hz hz4 hy
      generalize sb l = S at *
      have d1 : ((n : Int) == 0) = false := by simp; omega
      have d2 : decide (4 < (n : Int)) = true := by simp; omega
      clear h0 h4
      go_enter Tryz.func28, Tryz.ntmps28
      go_wp2_with fail
      go_ret
      exact ⟨by rw [HE.out]; rfl, rfl⟩
    · replace HN : Hid (nm 16 l = match nr 16 0 l with
        | some n => (n : Int)
        | none => -1) := by show _ = _; rw [HN.out, if_neg (by omega)]
      have hz4 : ¬ (4 : Int) < ((sb l).size : Int) := by omega
      have q := fun i hi w => run_at l hy i hi w
      have HLT : Hid (∀ j n, nr 16 0 (l.take j) = some n → j ≤ l.length → n ≤ 65535) := fun j n h hj => by
        have h1 := nr_lt 16 (l.take j) 0 n 0 (by simp) h
        rw [List.length_take] at h1
        have h2 : 16 ^ (0 + min j l.length) ≤ 16 ^ 4 := Nat.le_trans (Nat.pow_le_pow_left (by decide) _) (Nat.pow_le_pow_right (by omega) (by omega))
        have : (16 : Nat) ^ 4 = 65536 := by decide
        omega
      have HY := hid hy
      have k := fun x h w => refDigit_ x w h
      clear hy
      obtain ⟨S, HS⟩ : ∃ S, Hid (sb l = S) := ⟨_, rfl⟩
      rw [HS.out] at hs ⊢
      simp only [HS.out] at q
      obtain ⟨n, HL⟩ : ∃ n, Hid (l.length = n) := ⟨_, rfl⟩
      rw [HL.out] at hs hlen h0 h4
      simp only [HL.out] at q HLT
      have d1 : ((n : Int) == 0) = false := by simp; omega
      have d2 : decide (4 < (n : Int)) = false := by simp; omega
      clear h0 h4 hz hz4
      go_enter Tryz.func28, Tryz.ntmps28
      go_wp2_with fail
      go_loop [5, 6] (fun v i => ∃ j m : Nat, j ≤ n ∧ v = .int .i64 m ∧ i = .int .i64 j ∧ Hid (nr 16 0 (l.take j) = some m)) (fun _ i => n - (intOf i).toNat)
      case atStart => exact ⟨0, 0, by omega, rfl, rfl, rfl⟩
      case round =>
        obtain ⟨j, m, hj, rfl, rfl, HR⟩ := hrel
        have hm := HLT.out j m HR.out hj
        by_cases hlt : j < n
        · have hI : (j : Int) < (n : Int) := by omega
          have q1 := fun w => q j hlt w
          have hx : l.getD j 0 < 256 := getD_lt6 HY.out j
          have HT := hid (nr_take 16 l j 0 m (by rw [HL.out]; exact hlt) HR.out)
          have HP := hid (nr_stop 16 l j 0 m (by rw [HL.out]; exact hlt) HR.out)
          have k1 := k (l.getD j 0) hx
          have hd := dg_in (l.getD j 0)
          clear k q HLT
          generalize l.getD j 0 = x at *
          go_wp2_with fail
          refine (k1 _).mono ?_
          rintro e w1 ⟨rfl, rfl⟩
          clear k1 q1
          generalize dg x = d at *
          by_cases h1 : d < 0
          · have HE : Hid (nm 16 l = -1) := by show _ = _; rw [HN.out, HP.out (by omega)]
            clear HN HP HT
            go_wp2_with fail
            go_ret
            exact ⟨by rw [HE.out]; rfl, rfl⟩
          · by_cases h2 : (16 : Int) ≤ d
            · have HE : Hid (nm 16 l = -1) := by show _ = _; rw [HN.out, HP.out (by omega)]
              clear HN HP HT
              go_wp2_with fail
              go_ret
              exact ⟨by rw [HE.out]; rfl, rfl⟩
            · have HE := hid (HT.out ⟨by omega, by omega⟩)
              obtain ⟨D, rfl⟩ : ∃ D : Nat, d = D := ⟨d.toNat, by omega⟩
              rw [Int.toNat_natCast] at HE
              clear HN HP HT
              go_wp2_with fail
              go_round
              case rel => exact ⟨j + 1, m * 16 + D, by omega, by go_num, by go_num, HE⟩
              case measure => simp [intOf]; omega
        · have hI : ¬ (j : Int) < (n : Int) := by omega
          obtain rfl : j = n := by omega
          have HE : Hid (nm 16 l = (m : Int)) := by
            show _ = _
            have := HR.out
            rw [List.take_of_length_le (by rw [HL.out]; exact Nat.le_refl _)] at this
            rw [HN.out, this]
          clear HN q k HLT
          go_wp2_with fail
          go_ret
          exact ⟨by rw [HE.out]; rfl, rfl⟩
end Go.Proofs.YtknjokmoommdeabGreatDoor
