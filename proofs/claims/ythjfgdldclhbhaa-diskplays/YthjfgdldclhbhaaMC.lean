import Derived.Test.YthjfgdldclhbhaaMB
namespace Go.Proofs.Ythjfgdldclhbhaa
set_option maxRecDepth 100000
open Go.RowKit Go.Shelf
set_option linter.unusedVariables false

set_option maxHeartbeats 1000000 in
/-- m.latest. -/
theorem mlatest_ (g i : Nat) (S : Nat → List Int) (P : List (Nat × List Int)) (N : Nat → Prop) (cur : Array Value) (pa : Option Addr) (pc : Nat) (I : List It) (w : World) (h : Mk w g S P N cur pa pc I) (hi : i < 32) (hI : I.length ≤ 1000000) :
    Calls Try.prog 55 #[.pointer (some ⟨g, 0, none⟩), .int .i64 i] w fun e w' => ∃ a c, e = .returned (.slice a 512 c) ∧ Bs w' a 512 (layA S P i) ∧ Below w.heap.size w w' := by
  have HM := hid h
  have c32 := h.c32
  obtain ⟨R, HR⟩ : ∃ R, Hid (layA S P i = R) := ⟨_, rfl⟩
  rw [HR.out]
  clear h
  go_enter Try.func55, Try.ntmps55
  go_wp2_with fail
  go_loop [5] (fun s => ∃ m : Nat, m ≤ I.length ∧ s = .int .i64 ((m : Int) - 1) ∧ ∀ y ∈ dl I m, y.2.S ≠ i) (fun s => (intOf s + 1).toNat)
  case atStart => exact ⟨I.length, Nat.le_refl _, rfl, fun y hy => by rw [dl_top] at hy; simp at hy⟩
  case round =>
    obtain ⟨m, hm, rfl, hall⟩ := hrel
    have HALL := hid hall
    clear hall
    cases m with
    | zero =>
      have HRS : Hid (R = S i) := by
        show _ = _
        rw [← HR.out, HM.out.ip]
        exact lat_none HALL.out
      obtain ⟨v, hv1, hv2⟩ := HM.out.lasts i hi
      have ci := HM.out.cell hv1
      have hiI : (i : Int) < 32 := by omega
      rcases hv2 with ⟨rfl, hz⟩ | ⟨q, c, rfl, hb, _, _, _, _⟩
      · have HZ := hid hz
        clear hz hv1
        go_wp2_with (go_at_call 16; refine (full_ 0 w (by decide)).mono ?_; rintro e w1 ⟨v1, rfl, o1, g1⟩)
        obtain ⟨a1, c1, rfl, b1, _⟩ := own_form o1 (ful_sec (by decide)).2
        go_ret
        exact ⟨_, _, rfl, by rw [HRS.out, HZ.out]; exact b1, g1⟩
      · have HB := hid hb
        clear hb hv1
        go_wp2_with fail
        go_ret
        exact ⟨_, ⟨_, rfl⟩, by rw [HRS.out]; exact HB.out, Below.refl _ _⟩
    | succ m =>
      have em : (((m + 1 : Nat) : Int) - 1) = (m : Int) := by omega
      rw [em]
      have hx : I[m]? = some (I.getD m default) := by simp [List.getD, show m < I.length from by omega]
      obtain ⟨gp, hpa, hpp, hpm, d0, d1⟩ := HM.out.cellI hx
      have HST := hid (dl_step I m (by omega))
      have hitx := (HM.out.it _ (List.mem_of_getElem? hx)).2.1
      generalize I.getD m default = x at *
      have hmI : (m : Int) < (I.length : Int) := by omega
      have hm0 : ¬ (m : Int) < 0 := by omega
      rw [hpa] at c32
      by_cases hS : x.S = i
      · have e1 : ((x.S : Int) == (i : Int)) = true := by simp; omega
        have HRZ : Hid (R = x.Z) := by
          show _ = _
          rw [← HR.out, HM.out.ip]
          exact (lat_some (S := S) (m := m) (z := ((m : Int), x)) (by omega) HST.out.symm HALL.out hS).2
        have HB := hid hitx
        clear hx hitx hpa em hS
        go_wp2_with fail
        go_ret
        exact ⟨_, ⟨_, rfl⟩, by rw [HRZ.out]; exact HB.out, Below.refl _ _⟩
      · have e1 : ((x.S : Int) == (i : Int)) = false := by simp; omega
        have HAL2 : Hid (∀ y ∈ dl I m, y.2.S ≠ i) := fun y hy => by
          rw [HST.out] at hy
          rcases List.mem_append.1 hy with hy | hy
          · exact HALL.out y hy
          · rw [List.mem_singleton] at hy
            subst hy
            exact hS
        clear hx hitx hpa em hS
        go_wp2_with fail
        go_round
        case rel => exact ⟨m, by omega, rfl, HAL2.out⟩
        case measure => simp [intOf]
set_option maxHeartbeats 1000000 in
/-- m.is of what lasts. -/
theorem mis_ (g : Nat) (S : Nat → List Int) (P : List (Nat × List Int)) (N : Nat → Prop) (cur : Array Value) (pa : Option Addr) (pc : Nat) (I : List It) (a : Option Addr) (c : Nat) (w : World) (h : Mk w g S P N cur pa pc I) (hb : Bs w a 16384 (flat S 32)) (hc : 16384 ≤ c) (hcm : c ≤ maxLen) (hS : ∀ i, i < 32 → (S i).length = 512) :
    Calls Try.prog 26 #[.pointer (some ⟨g, 0, none⟩), .slice a 16384 c] w fun e w' => e = .returned (.bool true) ∧ Below w.heap.size w w' := by
  have HM := hid h
  have HB := hid hb
  have HS := hid hS
  unfold maxLen at hcm
  obtain ⟨b, off, rfl⟩ : ∃ b off, a = some ⟨b, off, none⟩ := by
    rcases hb.2.2 with h0 | ⟨b, off, e, _⟩
    · omega
    · exact ⟨b, off, e⟩
  clear h hb hS
  go_enter Try.func26, Try.ntmps26
  go_wp2_with fail
  go_loopw [5, 6, 7] (fun s _ _ wr => ∃ j : Nat, j ≤ 32 ∧ s = .int .i64 j ∧ Below w.heap.size w wr) (fun s _ _ _ => 32 - (intOf s).toNat)
  case atStart => exact ⟨0, by omega, rfl, Below.refl _ _⟩
  case round =>
    obtain ⟨j, hj, rfl, hbl⟩ := hrel
    by_cases hlt : j < 32
    · have hjI : (j : Int) < 32 := by omega
      have MW := HM.out.below hbl
      obtain ⟨v, hv1, hv2⟩ := MW.lasts j hlt
      have cj := MW.cell hv1
      have HBJ : Hid (∀ wx, Below w.heap.size w wx → Bs wx (some ⟨b, off + 512 * j, none⟩) 512 (S j)) := fun wx hx => by
        have hbx := HB.out.below hx
        refine ⟨HS.out j hlt, fun z hz => ?_, .inr ⟨b, off + 512 * j, rfl, fun k hk => ?_⟩⟩
        · have hm : z ∈ flat S 32 := by
            have := flat_cut 32 HS.out j hlt
            rw [← this] at hz
            exact List.mem_of_mem_drop (List.mem_of_mem_take hz)
          exact hbx.2.1 z hm
        · rcases hbx.2.2 with h0 | ⟨b', off', e, hcc⟩
          · omega
          · obtain ⟨rfl, rfl⟩ : b = b' ∧ off = off' := by simpa using e
            have := hcc (512 * j + k) (by omega)
            rw [flat_get 32 HS.out j hlt k hk] at this
            rw [show off + 512 * j + k = off + (512 * j + k) from by omega]
            exact this
      have q1 : (512 : Int) * (j : Int) ≤ 16384 := by omega
      have q2 : (512 : Int) * (j : Int) + 512 ≤ (c : Int) := by omega
      have q3 : (512 : Int) * (j : Int) ≤ (512 : Int) * (j : Int) + 512 := by omega
      have q4 : 512 * j + 512 - 512 * j = 512 := by omega
      have HBL := hid hbl
      rcases hv2 with ⟨rfl, hz⟩ | ⟨q, cc, rfl, hb, _, _, _, _⟩
      · have HZ := hid hz
        clear hz hv1 MW hbl
        go_wp2_with fail
        refine (full_ 0 wr (by decide)).mono ?_
        rintro e w1 ⟨v1, rfl, o1, g1⟩
        obtain ⟨a1, c1, rfl, b1, _⟩ := own_form o1 (ful_sec (by decide)).2
        have BL1 := bel_bel HBL.out HBL.out.size g1
        clear o1 g1 cj
        go_wp2_with fail
        refine (same_yes (some ⟨b, off + 512 * j, none⟩) a1 512 (c - 512 * j) 512 c1 (S j) w1 (HBJ.out _ BL1) (by rw [HZ.out]; exact b1) (by decide) (by decide)).mono ?_
        rintro e w2 ⟨rfl, g2⟩
        have BL2 := hid (bel_bel BL1 BL1.size g2.below)
        clear b1 g2 BL1
        go_wp2_with fail
        go_roundw
        case rel => exact ⟨j + 1, by omega, by go_num, BL2.out⟩
        case measure => simp [intOf]; omega
      · have HBQ := hid hb
        clear hv1 MW hbl hb
        go_wp2_with fail
        refine (same_yes (some ⟨b, off + 512 * j, none⟩) (some ⟨q, 0, none⟩) 512 (c - 512 * j) 512 cc (S j) wr (HBJ.out _ HBL.out) HBQ.out (by decide) (by decide)).mono ?_
        rintro e w2 ⟨rfl, g2⟩
        have BL2 := hid (bel_bel HBL.out HBL.out.size g2.below)
        clear g2 cj
        go_wp2_with fail
        go_roundw
        case rel => exact ⟨j + 1, by omega, by go_num, BL2.out⟩
        case measure => simp [intOf]; omega
    · have hjI : ¬ (j : Int) < 32 := by omega
      go_wp2_with fail
      go_ret
      exact ⟨rfl, hbl⟩
end Go.Proofs.Ythjfgdldclhbhaa
