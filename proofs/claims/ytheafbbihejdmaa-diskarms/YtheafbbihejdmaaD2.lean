import Derived.Test.YtheafbbihejdmaaD1
namespace Go.Proofs.Ytheafbbihejdmaa
open Go.RowKit
set_option linter.unusedVariables false
set_option maxRecDepth 100000

theorem sectors_ (d gl N cp : Nat) (pv fv : Value) (c : Int) (on : Bool) (k : Int) (w : World) (h : Dm w d (.slice (some ⟨gl, 0, none⟩) (512 * N) cp) pv fv c on k) (hN : N ≤ 8192) :
    Calls Try.prog 47 #[.pointer (some ⟨d, 0, none⟩)] w fun e w' => e = .returned (.int .i64 N) ∧ w' = w := by
  have m0 := h.c0
  have hd : ((512 * N : Nat) : Int) / 512 = (N : Int) := by omega
  have hd' : (512 * (N : Int)) / 512 = (N : Int) := by omega
  have hb : (512 * N : Nat) ≤ 4194304 := by omega
  clear h
  go_enter Try.func47, Try.ntmps47
  go_wp2_with fail
  go_ret
  exact ⟨rfl, rfl⟩
theorem has_ (d gl N cp : Nat) (pv fv : Value) (c : Int) (on : Bool) (k i : Int) (w : World) (h : Dm w d (.slice (some ⟨gl, 0, none⟩) (512 * N) cp) pv fv c on k) (hN : N ≤ 8192) :
    Calls Try.prog 49 #[.pointer (some ⟨d, 0, none⟩), .int .i64 i] w fun e w' => e = .returned (.bool (decide (0 ≤ i ∧ i < N))) ∧ w' = w := by
  have kS := sectors_ d gl N cp pv fv c on k w h hN
  clear h
  by_cases h0 : 0 ≤ i
  · have HR : Hid (decide (0 ≤ i ∧ i < (N : Int)) = decide (i < (N : Int))) := by show _ = _; simp [h0]
    rw [HR.out]
    obtain ⟨r, hr⟩ : ∃ r, decide (i < (N : Int)) = r := ⟨_, rfl⟩
    rw [hr]
    go_enter Try.func49, Try.ntmps49
    go_wp2_with (go_at_call 47; refine kS.mono ?_; rintro e w' ⟨rfl, rfl⟩)
    go_ret
    exact ⟨rfl, rfl⟩
  · have HR : decide (0 ≤ i ∧ i < (N : Int)) = false := by simp [h0]
    rw [HR]
    clear HR
    go_enter Try.func49, Try.ntmps49
    go_wp2_with fail
    go_ret
    exact ⟨rfl, rfl⟩
theorem power_ (d : Nat) (lv pv fv : Value) (c : Int) (on : Bool) (k : Int) (w : World) (h : Dm w d lv pv fv c on k) :
    Calls Try.prog 31 #[.pointer (some ⟨d, 0, none⟩)] w fun e w' => e = .returned (.bool on) ∧ w' = w := by
  have m := h.c4
  clear h
  go_enter Try.func31, Try.ntmps31
  go_wp2_with fail
  go_ret
  exact ⟨rfl, rfl⟩
theorem done_ (d : Nat) (lv pv fv : Value) (c : Int) (on : Bool) (k : Int) (w : World) (h : Dm w d lv pv fv c on k) :
    Calls Try.prog 32 #[.pointer (some ⟨d, 0, none⟩)] w fun e w' => e = .returned (.int .i64 c) ∧ w' = w := by
  have m := h.c3
  clear h
  go_enter Try.func32, Try.ntmps32
  go_wp2_with fail
  go_ret
  exact ⟨rfl, rfl⟩
theorem claimed_ (d : Nat) (lv pv fv : Value) (c : Int) (on : Bool) (k : Int) (w : World) (h : Dm w d lv pv fv c on k) :
    Calls Try.prog 46 #[.pointer (some ⟨d, 0, none⟩)] w fun e w' => e = .returned (.int .i64 k) ∧ w' = w := by
  have m := h.c5
  clear h
  go_enter Try.func46, Try.ntmps46
  go_wp2_with fail
  go_ret
  exact ⟨rfl, rfl⟩
theorem claim_ (d : Nat) (lv pv fv : Value) (c : Int) (on : Bool) (k : Nat) (w : World) (h : Dm w d lv pv fv c on k) (hk : k ≤ 1000000) :
    Calls Try.prog 44 #[.pointer (some ⟨d, 0, none⟩)] w fun e w' => e = .returned (.int .i64 ((k + 1 : Nat) : Int)) ∧ Dm w' d lv pv fv c on ((k + 1 : Nat) : Int) ∧ w.grownBy w' (some d) := by
  have m := h.c5
  have f := h.fz 5
  have M := h.s5 ((k : Int) + 1)
  have m' := M.c5
  have HM := hid M
  have HG := hid (grown_set (grown_refl w (some d)) 5 (.int .i64 ((k : Int) + 1)))
  clear h M
  go_enter Try.func44, Try.ntmps44
  go_wp2_with fail
  go_ret
  exact ⟨by simp, by simpa using HM.out, HG.out⟩
/-- A sector of the lasting bytes. -/
theorem sector_ (d gl N i : Nat) (pv fv : Value) (c : Int) (on : Bool) (k : Int) (w : World) (h : Dm w d (.slice (some ⟨gl, 0, none⟩) (512 * N) (512 * N)) pv fv c on k) (hN : N ≤ 8192) (hi : i < N) :
    Calls Try.prog 76 #[.pointer (some ⟨d, 0, none⟩), .int .i64 i] w fun e w' => e = .returned (.slice (some ⟨gl, i * 512, none⟩) 512 (512 * N - i * 512)) ∧ w' = w := by
  have m0 := h.c0
  have hb : (512 * N : Nat) ≤ 4194304 := by omega
  have h1 : (i : Int) * 512 ≤ 4194304 := by omega
  have h2 : ((i : Int) + 1) * 512 ≤ ((512 * N : Nat) : Int) := by omega
  have h3 : (i : Int) * 512 ≤ ((i : Int) + 1) * 512 := by omega
  clear h
  go_enter Try.func76, Try.ntmps76
  go_wp2_with fail
  go_ret
  exact ⟨by rw [show (i + 1) * 512 - i * 512 = 512 from by omega]; rfl, rfl⟩
end Go.Proofs.Ytheafbbihejdmaa
