import Derived.Test.YtheafbbihejdmabMB
namespace Go.Proofs.Ytheafbbihejdmab
set_option maxRecDepth 100000
open Go.RowKit Go.Shelf
set_option linter.unusedVariables false

set_option maxHeartbeats 1000000 in
/-- m.latest. -/
theorem mlatest_ (g i : Nat) (S : Nat → List Int) (P : List (Nat × List Int)) (N : Nat → Prop) (cur : Array Value) (pa : Option Addr) (pc : Nat) (I : List It) (w : World) (h : Mk w g S P N cur pa pc I) (hi : i < 32) (hI : I.length ≤ 1000000) :
    Calls Try.prog 20 #[.pointer (some ⟨g, 0, none⟩), .int .i64 i] w fun e w' => ∃ a c, e = .returned (.slice a 512 c) ∧ Bs w' a 512 (layA S P i) ∧ Below w.heap.size w w' := by
  have HM := hid h
  have c32 := h.c32
  obtain ⟨R, HR⟩ : ∃ R, Hid (layA S P i = R) := ⟨_, rfl⟩
  rw [HR.out]
  clear h
  go_enter Try.func20, Try.ntmps20
  go_wp2_with fail
  go_loop [5] (fun s => ∃ m : Nat, m ≤ I.length ∧ s = .int .i64 ((m : Int) - 1) ∧ ∀ y ∈ dl I m, y.2.S ≠ i) (fun s => (intOf s + 1).toNat)
  case atStart => exact ⟨I.length, Nat.le_refl _, rfl, fun y hy => by rw [dl_top] at hy; simp at hy⟩
  case round =>
    obtain ⟨m, hm, rfl, hall⟩ := hrel
    have HALL := hid hall
    clear hall
    cases m with
    | zero =>
      have HRS : Hid (R = S i) := by
        show _ = _
        rw [← HR.out, HM.out.ip]
        exact lat_none HALL.out
      obtain ⟨v, hv1, hv2⟩ := HM.out.lasts i hi
      have ci := HM.out.cell hv1
      have hiI : (i : Int) < 32 := by omega
      rcases hv2 with ⟨rfl, hz⟩ | ⟨q, c, rfl, hb, _, _, _, _⟩
      · have HZ := hid hz
        clear hz hv1
        go_wp2_with (go_at_call 10; refine (full_ 0 w (by decide)).mono ?_; rintro e w1 ⟨v1, rfl, o1, g1⟩)
        obtain ⟨a1, c1, rfl, b1, _⟩ := own_form o1 (ful_sec (by decide)).2
        go_ret
        exact ⟨_, _, rfl, by rw [HRS.out, HZ.out]; exact b1, g1⟩
      · have HB := hid hb
        clear hb hv1
        go_wp2_with fail
        go_ret
        exact ⟨_, ⟨_, rfl⟩, by rw [HRS.out]; exact HB.out, Below.refl _ _⟩
    | succ m =>
      have em : (((m + 1 : Nat) : Int) - 1) = (m : Int) := by omega
      rw [em]
      have hx : I[m]? = some (I.getD m default) := by simp [List.getD, show m < I.length from by omega]
      obtain ⟨gp, hpa, hpp, hpm, d0, d1⟩ := HM.out.cellI hx
      have HST := hid (dl_step I m (by omega))
      have hitx := (HM.out.it _ (List.mem_of_getElem? hx)).2.1
      generalize I.getD m default = x at *
      have hmI : (m : Int) < (I.length : Int) := by omega
      have hm0 : ¬ (m : Int) < 0 := by omega
      rw [hpa] at c32
      by_cases hS : x.S = i
      · have e1 : ((x.S : Int) == (i : Int)) = true := by simp; omega
        have HRZ : Hid (R = x.Z) := by
          show _ = _
          rw [← HR.out, HM.out.ip]
          exact (lat_some (S := S) (m := m) (z := ((m : Int), x)) (by omega) HST.out.symm HALL.out hS).2
        have HB := hid hitx
        clear hx hitx hpa em hS
        go_wp2_with fail
        go_ret
        exact ⟨_, ⟨_, rfl⟩, by rw [HRZ.out]; exact HB.out, Below.refl _ _⟩
      · have e1 : ((x.S : Int) == (i : Int)) = false := by simp; omega
        have HAL2 : Hid (∀ y ∈ dl I m, y.2.S ≠ i) := fun y hy => by
          rw [HST.out] at hy
          rcases List.mem_append.1 hy with hy | hy
          · exact HALL.out y hy
          · rw [List.mem_singleton] at hy
            subst hy
            exact hS
        clear hx hitx hpa em hS
        go_wp2_with fail
        go_round
        case rel => exact ⟨m, by omega, rfl, HAL2.out⟩
        case measure => simp [intOf]
end Go.Proofs.Ytheafbbihejdmab
