import Derived.Test.YtaplgdkefhcbhaaFirst
namespace Go.Proofs.Ytaplgdkefhcbhaa
open Go.RowKit
set_option linter.unusedVariables false

theorem is0 (q : Nat) : (q = 0 → ((q : Int) == 0) = true) ∧ (¬ q = 0 → ((q : Int) == 0) = false) :=
  ⟨fun h => by rw [h]; rfl, fun h => by simpa using h⟩

set_option maxHeartbeats 1000000 in
theorem fieldLaws8_ (a b c : Nat) (w : World) (ha : a < 256) (hb : b < 256) (hc : c < 256) :
    Calls Try.prog 7 #[.int .u8 a, .int .u8 b, .int .u8 c] w fun e w' => e = .returned (.bool true) ∧ Below w.heap.size w w' := by
  have hbc : b ^^^ c < 256 := Nat.xor_lt_two_pow (n := 8) hb hc
  have hm := mul8_lt (b := b) ha
  have hn := mul8_lt (b := c) ha
  have k1 := fun w => mul8_ a b w ha hb
  have k2 := fun w => mul8_ b a w hb ha
  have k3 := fun w => mul8_ b c w hb hc
  have k4 := fun w => mul8_ (mul8 a b) c w hm hc
  have k5 := fun w => mul8_ a (mul8 b c) w ha (mul8_lt hb)
  have k6 := fun w => mul8_ a (b ^^^ c) w ha hbc
  have k7 := fun w => mul8_ a c w ha hc
  have k8 := fun w => mul8_ a 1 w ha (by omega)
  rw [mul8_comm hb ha] at k2
  rw [mul8_assoc ha hb hc] at k4
  rw [mul8_one] at k8
  rw [mul8_xor] at k6
  have x1 := u8_xor_nat b c hb hc
  have x2 := u8_xor_nat (mul8 a b) (mul8 a c) hm hn
  have Z : Hid (mul8 a b = 0 → a = 0 ∨ b = 0) := mul8_nz ha hb
  have Z1 : Hid (a = 0 → mul8 a b = 0) := by intro h; rw [h, zero_mul8]
  have Z2 : Hid (b = 0 → mul8 a b = 0) := by intro h; rw [h, mul8_zero]
  generalize mul8 a b ^^^ mul8 a c = s at *
  generalize mul8 a (mul8 b c) = l at *
  generalize mul8 b c = bc at *
  generalize mul8 a c = ac at *
  generalize mul8 a b = m at *
  generalize b ^^^ c = d at *
  clear hbc hm hn
  go_enter Try.func7, Try.ntmps7
  go_wp2_with fail
  refine (first_ w).mono ?_
  rintro e w1 ⟨rfl, B⟩
  go_wp2_with fail
  refine (k1 _).mono ?_
  rintro e w2 ⟨rfl, rfl⟩
  go_wp2_with fail
  refine (k2 _).mono ?_
  rintro e w3 ⟨rfl, rfl⟩
  go_wp2_with fail
  refine (k3 _).mono ?_
  rintro e w4 ⟨rfl, rfl⟩
  go_wp2_with fail
  refine (k4 _).mono ?_
  rintro e w5 ⟨rfl, rfl⟩
  go_wp2_with fail
  refine (k5 _).mono ?_
  rintro e w6 ⟨rfl, rfl⟩
  go_wp2_with fail
  refine (k6 _).mono ?_
  rintro e w7 ⟨rfl, rfl⟩
  go_wp2_with fail
  refine (k7 _).mono ?_
  rintro e w8 ⟨rfl, rfl⟩
  go_wp2_with fail
  refine (k8 _).mono ?_
  rintro e w9 ⟨rfl, rfl⟩
  clear k1 k2 k3 k4 k5 k6 k7 k8
  by_cases h0 : a = 0
  · have e1 := (is0 a).1 h0
    have e2 := (is0 m).1 (Z1.out h0)
    clear h0
    go_wp2_with fail
    go_ret
    exact ⟨rfl, B⟩
  · by_cases h1 : b = 0
    · have e1 := (is0 a).2 h0
      have e2 := (is0 m).1 (Z2.out h1)
      have e3 := (is0 b).1 h1
      clear h0 h1
      go_wp2_with fail
      go_ret
      exact ⟨rfl, B⟩
    · have e1 := (is0 a).2 h0
      have e2 := (is0 m).2 (fun h => by rcases Z.out h with h | h <;> contradiction)
      have e3 := (is0 b).2 h1
      clear h0 h1
      go_wp2_with fail
      go_ret
      exact ⟨rfl, B⟩
end Go.Proofs.Ytaplgdkefhcbhaa
