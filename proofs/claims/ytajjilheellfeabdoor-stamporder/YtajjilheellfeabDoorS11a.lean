import Derived.Test.YtajjilheellfeabDoorS13
namespace Go.Proofs.YtajjilheellfeabDoor
open Go.RowKit
set_option linter.unusedVariables false

/-! The order of byte lists. -/
def lx : List Int → List Int → Bool
  | [], [] => false
  | [], _ :: _ => true
  | _ :: _, [] => false
  | a :: l, b :: r => if a = b then lx l r else decide (a < b)
theorem lx_val : ∀ (l r : List Int), l.length = r.length → (∀ z ∈ l, 0 ≤ z ∧ z ≤ 255) → (∀ z ∈ r, 0 ≤ z ∧ z ≤ 255) → lx l r = decide (val l < val r) := by
  intro l
  induction l with
  | nil =>
    intro r h _ _
    match r, h with
    | [], _ => exact (decide_eq_false (by omega)).symm
  | cons a l ih =>
    intro r h hl hr
    match r, h with
    | b :: r, h =>
      have hlen : l.length = r.length := by simpa using h
      have ha := hl a (by simp)
      have hb := hr b (by simp)
      have vl := val_bound l (fun z hz => hl z (by simp [hz]))
      have vr := val_bound r (fun z hz => hr z (by simp [hz]))
      rw [lx, val_cons, val_cons]
      by_cases e : a = b
      · rw [if_pos e, ih r hlen (fun z hz => hl z (by simp [hz])) (fun z hz => hr z (by simp [hz])), e, hlen]
        exact decide_eq_decide.2 (by omega)
      · rw [if_neg e, hlen]
        rw [hlen] at vl
        generalize (256 : Int) ^ r.length = p at *
        refine decide_eq_decide.2 ⟨fun h => ?_, fun h => ?_⟩
        · have h1 : (a + 1) * p ≤ b * p := Int.mul_le_mul_of_nonneg_right (by omega) (by omega)
          rw [Int.add_mul] at h1
          omega
        · by_cases hab : a < b
          · exact hab
          · exfalso
            have h1 : (b + 1) * p ≤ a * p := Int.mul_le_mul_of_nonneg_right (by omega) (by omega)
            rw [Int.add_mul] at h1
            omega
theorem val_append (l r : List Int) : val (l ++ r) = val l * 256 ^ r.length + val r := by
  show List.foldl _ 0 (l ++ r) = _
  rw [List.foldl_append, fold_val]
  rfl
theorem val_pt {S N : Int} (hS : 0 ≤ S ∧ S ≤ 9223372036854775807) (hN : 0 ≤ N ∧ N ≤ 999999999) : val (pt S N) = S * 4294967296 + N := by
  have e : pt S N = be 8 S ++ be 4 N := by unfold pt; rw [(gok_pt hS hN).2.2.2.2]; rfl
  rw [e, val_append, val_be, val_be, be_length, Int.emod_eq_of_lt hS.1 (by omega), Int.emod_eq_of_lt hN.1 (by omega)]
  rfl
theorem lx_pt {S N T M : Int} (hS : 0 ≤ S ∧ S ≤ 9223372036854775807) (hN : 0 ≤ N ∧ N ≤ 999999999) (hT : 0 ≤ T ∧ T ≤ 9223372036854775807) (hM : 0 ≤ M ∧ M ≤ 999999999) : lx (pt S N) (pt T M) = lss S N T M := by
  rw [lx_val _ _ (by rw [(gok_pt hS hN).2.2.2.1, (gok_pt hT hM).2.2.2.1]) (pt_byte _ _) (pt_byte _ _), val_pt hS hN, val_pt hT hM]
  unfold lss
  exact decide_eq_decide.2 (by omega)
/-- Alike up to here, and then. -/
theorem lx_at : ∀ (l r : List Int) (j : Nat), j < l.length → j < r.length → (∀ i, i < j → l.getD i 0 = r.getD i 0) → l.getD j 0 ≠ r.getD j 0 → lx l r = decide (l.getD j 0 < r.getD j 0) := by
  intro l
  induction l with
  | nil => intro r j h; simp at h
  | cons a l ih =>
    intro r j h1 h2 h3 h4
    match r, h2 with
    | b :: r, h2 =>
      rw [lx]
      cases j with
      | zero =>
        have h4 : a ≠ b := by simpa using h4
        rw [if_neg h4]
        simp
      | succ j =>
        have e : a = b := by simpa using h3 0 (by omega)
        rw [if_pos e, ih r j (by simpa using h1) (by simpa using h2) (fun i hi => by simpa using h3 (i + 1) (by omega)) (by simpa using h4)]
        simp
theorem lx_all : ∀ (l r : List Int), l.length = r.length → (∀ i, i < l.length → l.getD i 0 = r.getD i 0) → lx l r = false := by
  intro l
  induction l with
  | nil =>
    intro r h _
    match r, h with
    | [], _ => rfl
  | cons a l ih =>
    intro r h h3
    match r, h with
    | b :: r, h =>
      rw [lx, if_pos (by simpa using h3 0 (by simp)), ih r (by simpa using h) (fun i hi => by simpa using h3 (i + 1) (by simpa using hi))]
set_option maxHeartbeats 400000 in
theorem refBLess_ (b off c b' off' c' : Nat) (l r : List Int) (w : World) (h1 : l.length = 12) (h2 : r.length = 12) (hl : ∀ i, i < 12 → w.cell? ⟨b, off + i, none⟩ = some (.int .u8 (l.getD i 0))) (hr : ∀ i, i < 12 → w.cell? ⟨b', off' + i, none⟩ = some (.int .u8 (r.getD i 0))) :
    Calls Tryd.prog 11 #[.slice (some ⟨b, off, none⟩) 12 c, .slice (some ⟨b', off', none⟩) 12 c'] w fun e w' => e = .returned (.bool (lx l r)) ∧ Below w.heap.size w w' := by
  have HL := hid hl
  have HR := hid hr
  have H1 := hid h1
  have H2 := hid h2
  clear hl hr h1 h2
  go_enter Tryd.func11, Tryd.ntmps11
  go_wp2_with fail
  go_loopw [5] (fun i wr => ∃ j : Nat, j ≤ 12 ∧ i = .int .i64 j ∧ Hid (∀ i, i < j → l.getD i 0 = r.getD i 0) ∧ Below w.heap.size w wr) (fun i _ => 12 - (intOf i).toNat)
  case atStart => exact ⟨0, by omega, rfl, fun i hi => by omega, Below.refl _ _⟩
  case round =>
    obtain ⟨j, hj, rfl, HE, B0⟩ := hrel
    by_cases hlt : j < 12
    · have hI : (j : Int) < 12 := by omega
      have c1 := (B0.cell (World.block_lt_of_cell? w _ (HL.out j hlt))).trans (HL.out j hlt)
      have c2 := (B0.cell (World.block_lt_of_cell? w _ (HR.out j hlt))).trans (HR.out j hlt)
      by_cases he : l.getD j 0 = r.getD j 0
      · have HE2 : Hid (∀ i, i < j + 1 → l.getD i 0 = r.getD i 0) := fun i hi => by
          by_cases e : i = j
          · rw [e]; exact he
          · exact HE.out i (by omega)
        rw [he] at c1
        generalize r.getD j 0 = y at *
        have hne : (y != y) = false := by simp
        clear he
        go_wp2_with fail
        go_region
        go_wp2_with fail
        go_roundw
        case rel => exact ⟨j + 1, by omega, by go_num, HE2, bel_drew1 B0⟩
        case measure => simp [intOf]; omega
      · have HX := hid (lx_at l r j (by rw [H1.out]; exact hlt) (by rw [H2.out]; exact hlt) HE.out he)
        have hne : (l.getD j 0 != r.getD j 0) = true := bne_iff_ne.2 he
        generalize l.getD j 0 = x at *
        generalize r.getD j 0 = y at *
        clear he
        go_wp2_with fail
        go_region
        go_wp2_with fail
        go_region
        go_wp2_with fail
        go_ret
        exact ⟨by rw [HX.out]; rfl, bel_drew1 (bel_drew1 B0)⟩
    · have hI : ¬ (j : Int) < 12 := by omega
      have HX := hid (lx_all l r (by rw [H1.out, H2.out]) (fun i hi => HE.out i (by rw [H1.out] at hi; omega)))
      go_wp2_with fail
      go_ret
      exact ⟨by rw [HX.out]; rfl, B0⟩
end Go.Proofs.YtajjilheellfeabDoor
