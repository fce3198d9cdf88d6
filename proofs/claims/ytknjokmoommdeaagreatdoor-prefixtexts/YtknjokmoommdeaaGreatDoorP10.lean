import Derived.Test.YtknjokmoommdeaaGreatDoorP9
namespace Go.Proofs.YtknjokmoommdeaaGreatDoor
set_option maxRecDepth 100000
open Go.RowKit
set_option linter.unusedVariables false

def nl (l : List Int) : List Nat := l.map Int.toNat
theorem nl_length (l : List Int) : (nl l).length = l.length := by simp [nl]
theorem nl_lt {l : List Int} (h : ∀ z ∈ l, 0 ≤ z ∧ z ≤ 255) : ∀ x ∈ nl l, x < 256 := by
  intro x hx
  obtain ⟨z, hz, rfl⟩ := List.mem_map.1 hx
  have := h z hz
  omega
theorem nl_get {l : List Int} (h : ∀ z ∈ l, 0 ≤ z ∧ z ≤ 255) (i : Nat) : l.getD i 0 = (((nl l).getD i 0 : Nat) : Int) := by
  have hb := getD_byte6 h i
  unfold nl
  simp only [List.getD, List.getElem?_map] at *
  cases e : l[i]? with
  | none => rfl
  | some z =>
    rw [e] at hb
    simp at hb ⊢
    omega
/-- An address's text. -/
def ta (F H L : Int) : List Nat := tx (nl (pa F H L))
def tp (F H L B : Int) : List Nat := if vp F H L B then ta F H L ++ 47 :: dgs B.toNat 1 else []
set_option maxHeartbeats 2000000 in
theorem refPrintAddr_ (F H L : Int) (w : World) (hH : InU H) (hL : InU L) (hT : Tb w) :
    Calls Tryz.prog 29 #[.agg #[.int .i64 F, .int .u64 H, .int .u64 L]] w fun e w' => e = .returned (.string (sb (ta F H L))) ∧ Below w.heap.size w w' := by
  have B0 := anew w F H L
  have m0 := Am.new w F H L
  have k1 := fun w => refPutAddr_ F H L w hH hL
  have HTA : Hid (ta F H L = txj (pa F H L).length (nl (pa F H L)) (pa F H L).length) := by show _ = _; unfold ta tx; rw [nl_length]
  have HPB := hid (pa_byte F H L)
  have hPL : (pa F H L).length = 0 ∨ (pa F H L).length = 4 ∨ (pa F H L).length = 16 := by
    rw [pa_length]
    cases hv : va F H L with
    | false => exact .inl rfl
    | true =>
      have hn := (va_in hv hH hL).1
      show nb F / 8 = 0 ∨ nb F / 8 = 4 ∨ nb F / 8 = 16
      omega
  have c0 := m0.c0
  have c1 := m0.c1
  have c2 := m0.c2
  clear hH hL
  generalize pa F H L = P at *
  go_enter Tryz.func29, Tryz.ntmps29
  go_wp2_with fail
  clear c0 c1 c2
  refine (k1 _).mono ?_
  rintro e w1 ⟨v, rfl, ho, g2⟩
  replace B0 := bel_bel B0 B0.size g2
  clear g2 k1 m0
  rcases hPL with hPL | hPL | hPL
  · obtain ⟨qa, qc, rfl, _⟩ := own_form ho HPB.out
    rw [hPL] at HTA ⊢
    have HE : Hid (Value.string (sb (ta F H L)) = .string ⟨#[]⟩) := by show _ = _; rw [HTA.out]; rfl
    clear ho HTA hPL
    go_wp2_with fail
    go_loop [4, 5] (fun s i => s = .string ⟨#[]⟩ ∧ i = .int .i64 0) (fun _ _ => 0)
    case atStart => exact ⟨rfl, rfl⟩
    case round =>
      obtain ⟨rfl, rfl⟩ := hrel
      go_wp2_with fail
      go_ret
      exact ⟨by rw [HE.out]; rfl, B0⟩
  · rw [hPL] at ho HTA
    obtain ⟨gb, cap, rfl, h1, h2, hgb, hh, _⟩ := own_head ho (by omega)
    clear ho
    have HLN := hid (nl_lt HPB.out)
    have HGT := hid (fun i => nl_get HPB.out i)
    have HTL := hid (fun j => txj_le 4 (nl P) HLN.out j)
    unfold maxLen at h2
    go_wp2_with fail
    go_loopw [4, 5] (fun s i wr => ∃ j : Nat, j ≤ 4 ∧ i = .int .i64 j ∧ s = .string (sb (txj 4 (nl P) j)) ∧ Head wr gb cap P ∧ Below w.heap.size w wr) (fun _ i _ => 4 - (intOf i).toNat)
    case atStart => exact ⟨0, by omega, rfl, rfl, hh, B0⟩
    case round =>
      clear hh B0
      obtain ⟨j, hj, rfl, rfl, hh, B0⟩ := hrel
      by_cases hlt : j < 4
      · have hI : (j : Int) < 4 := by omega
        have cb := hh.cell j (by omega)
        rw [HGT.out j] at cb
        have hxx : (nl P).getD j 0 < 256 := getD_lt6 HLN.out j
        have HS := hid (txj_succ 4 (nl P) j)
        have HD : Hid (pc 4 (nl P) j = (if 0 < j then [46] else []) ++ dgs ((nl P).getD j 0) 1) := by
          show _ = _
          unfold pc
          rw [if_pos rfl]
        have ht := HTL.out j
        have hsz := sb_size (txj 4 (nl P) j)
        generalize (nl P).getD j 0 = x at *
        obtain ⟨X, HX⟩ : ∃ X, Hid (sb (txj 4 (nl P) j) = X) := ⟨_, rfl⟩
        rw [HX.out] at hsz ⊢
        have hX : X.size ≤ 64 := by omega
        clear ht hsz
        have k2 := fun w => itoa_ x w (by omega)
        have hq := dgs_three x hxx
        have hqs := sb_size (dgs x 1)
        by_cases h0 : 0 < j
        · have hp : (0 : Int) < (j : Int) := by omega
          have HN : Hid (X ++ ⟨#[46]⟩ ++ sb (dgs x 1) = sb (txj 4 (nl P) (j + 1))) := by
            show _ = _
            rw [HS.out, HD.out, if_pos h0, ← HX.out, show (⟨#[46]⟩ : ByteArray) = sb [46] from rfl, sb_append, sb_append, List.append_assoc]
          generalize sb (dgs x 1) = D at *
          have a1 := fun w => run_string_add_sum (P := Tryz.prog) w X ⟨#[46]⟩ (by show X.size + 1 ≤ _; omega)
          have a2 := fun w => run_string_add_sum (P := Tryz.prog) w (X ++ ⟨#[46]⟩) D (by rw [ByteArray.size_append]; show X.size + 1 + D.size ≤ _; omega)
          clear h0
          go_wp2_with fail
          refine (k2 _ (hT.kept B0)).mono ?_
          rintro e w3 ⟨rfl, g2⟩
          replace hh := hh.below g2
          replace B0 := bel_bel B0 B0.size g2
          clear g2 k2 cb
          go_wp2_with fail
          go_roundw
          case rel => exact ⟨j + 1, by omega, by go_num, by rw [← HN.out], hh, B0⟩
          case measure => simp [intOf]; omega
        · have hp : ¬ (0 : Int) < (j : Int) := by omega
          have HN : Hid (X ++ sb (dgs x 1) = sb (txj 4 (nl P) (j + 1))) := by
            show _ = _
            rw [HS.out, HD.out, if_neg h0, ← HX.out, List.nil_append, sb_append]
          generalize sb (dgs x 1) = D at *
          have a2 := fun w => run_string_add_sum (P := Tryz.prog) w X D (by omega)
          obtain rfl : j = 0 := by omega
          clear h0
          go_wp2_with fail
          refine (k2 _ (hT.kept B0)).mono ?_
          rintro e w3 ⟨rfl, g2⟩
          replace hh := hh.below g2
          replace B0 := bel_bel B0 B0.size g2
          clear g2 k2 cb
          go_wp2_with fail
          go_roundw
          case rel => exact ⟨1, by omega, by go_num, by rw [← HN.out], hh, B0⟩
          case measure => simp [intOf]
      · have hI : ¬ (j : Int) < 4 := by omega
        obtain rfl : j = 4 := by omega
        rw [← HTA.out]
        go_wp2_with fail
        go_ret
        exact ⟨rfl, B0⟩
  · rw [hPL] at ho HTA
    obtain ⟨gb, cap, rfl, h1, h2, hgb, hh, _⟩ := own_head ho (by omega)
    clear ho
    have HLN := hid (nl_lt HPB.out)
    have HGT := hid (fun i => nl_get HPB.out i)
    have HTL := hid (fun j => txj_le 16 (nl P) HLN.out j)
    unfold maxLen at h2
    go_wp2_with fail
    go_loopw [4, 5] (fun s i wr => ∃ j : Nat, j ≤ 16 ∧ i = .int .i64 j ∧ s = .string (sb (txj 16 (nl P) j)) ∧ Head wr gb cap P ∧ Below w.heap.size w wr) (fun _ i _ => 16 - (intOf i).toNat)
    case atStart => exact ⟨0, by omega, rfl, rfl, hh, B0⟩
    case round =>
      clear hh B0
      obtain ⟨j, hj, rfl, rfl, hh, B0⟩ := hrel
      by_cases hlt : j < 16
      · have hI : (j : Int) < 16 := by omega
        have cb := hh.cell j (by omega)
        rw [HGT.out j] at cb
        have hxx : (nl P).getD j 0 < 256 := getD_lt6 HLN.out j
        have HS := hid (txj_succ 16 (nl P) j)
        have HD : Hid (pc 16 (nl P) j = (if 0 < j ∧ j % 2 = 0 then [58] else []) ++ hx ((nl P).getD j 0)) := by
          show _ = _
          unfold pc
          rw [if_neg (by decide)]; simp only [true_and]
        have ht := HTL.out j
        have hsz := sb_size (txj 16 (nl P) j)
        generalize (nl P).getD j 0 = x at *
        obtain ⟨X, HX⟩ : ∃ X, Hid (sb (txj 16 (nl P) j) = X) := ⟨_, rfl⟩
        rw [HX.out] at hsz ⊢
        have hX : X.size ≤ 64 := by omega
        clear ht hsz
        have k2 := fun w => refHex_ x w hxx
        have hqs := sb_size (hx x)
        have hq : (hx x).length = 2 := rfl
        have hm : Int.tmod (j : Int) 2 = ((j % 2 : Nat) : Int) := by rw [Int.tmod_eq_emod_of_nonneg (by omega)]; omega
        by_cases h0 : 0 < j
        · have hp : (0 : Int) < (j : Int) := by omega
          by_cases h5 : j % 2 = 0
          · have HN : Hid (X ++ ⟨#[58]⟩ ++ sb (hx x) = sb (txj 16 (nl P) (j + 1))) := by
              show _ = _
              rw [HS.out, HD.out, if_pos ⟨h0, h5⟩, ← HX.out, show (⟨#[58]⟩ : ByteArray) = sb [58] from rfl, sb_append, sb_append, List.append_assoc]
            rw [h5] at hm
            generalize sb (hx x) = D at *
            have a1 := fun w => run_string_add_sum (P := Tryz.prog) w X ⟨#[58]⟩ (by show X.size + 1 ≤ _; omega)
            have a2 := fun w => run_string_add_sum (P := Tryz.prog) w (X ++ ⟨#[58]⟩) D (by rw [ByteArray.size_append]; show X.size + 1 + D.size ≤ _; omega)
            clear h0 h5
            go_wp2_with fail
            refine (k2 _).mono ?_
            rintro e w3 ⟨rfl, g2⟩
            replace hh := hh.below g2
            replace B0 := bel_bel B0 B0.size g2
            clear g2 k2 cb
            go_wp2_with fail
            go_roundw
            case rel => exact ⟨j + 1, by omega, by go_num, by rw [← HN.out], hh, B0⟩
            case measure => simp [intOf]; omega
          · have HN : Hid (X ++ sb (hx x) = sb (txj 16 (nl P) (j + 1))) := by
              show _ = _
              rw [HS.out, HD.out, if_neg (fun h => h5 h.2), ← HX.out, List.nil_append, sb_append]
            rw [show j % 2 = 1 by omega] at hm
            generalize sb (hx x) = D at *
            have a2 := fun w => run_string_add_sum (P := Tryz.prog) w X D (by omega)
            clear h0 h5
            go_wp2_with fail
            refine (k2 _).mono ?_
            rintro e w3 ⟨rfl, g2⟩
            replace hh := hh.below g2
            replace B0 := bel_bel B0 B0.size g2
            clear g2 k2 cb
            go_wp2_with fail
            go_roundw
            case rel => exact ⟨j + 1, by omega, by go_num, by rw [← HN.out], hh, B0⟩
            case measure => simp [intOf]; omega
        · have HN : Hid (X ++ sb (hx x) = sb (txj 16 (nl P) (j + 1))) := by
            show _ = _
            rw [HS.out, HD.out, if_neg (fun h => h0 h.1), ← HX.out, List.nil_append, sb_append]
          generalize sb (hx x) = D at *
          have a2 := fun w => run_string_add_sum (P := Tryz.prog) w X D (by omega)
          obtain rfl : j = 0 := by omega
          clear h0 hm
          go_wp2_with fail
          refine (k2 _).mono ?_
          rintro e w3 ⟨rfl, g2⟩
          replace hh := hh.below g2
          replace B0 := bel_bel B0 B0.size g2
          clear g2 k2 cb
          go_wp2_with fail
          go_roundw
          case rel => exact ⟨1, by omega, by go_num, by rw [← HN.out], hh, B0⟩
          case measure => simp [intOf]
      · have hI : ¬ (j : Int) < 16 := by omega
        obtain rfl : j = 16 := by omega
        rw [← HTA.out]
        go_wp2_with fail
        go_ret
        exact ⟨rfl, B0⟩
end Go.Proofs.YtknjokmoommdeaaGreatDoor
