import Derived.Test.YtgjamfnhkeoedaaF128
namespace Go.Proofs.Ytgjamfnhkeoedaa
open Go.RowKit

/-! Blocks as arrays of 16 bytes. -/
/-- The byte i of a block. -/
def dg (B i : Nat) : Nat := B / 2 ^ (8 * (15 - i)) % 256
def bv (B : Nat) : Array Value := ((List.range 16).map fun i => Value.int .u8 (dg B i : Nat)).toArray
theorem dg_lt (B i : Nat) : dg B i < 256 := Nat.mod_lt _ (by omega)
theorem bv_size (B : Nat) : (bv B).size = 16 := by simp [bv]
theorem bv_get (B i : Nat) (h : i < 16) : (bv B)[i]? = some (.int .u8 (dg B i : Nat)) := by simp [bv, h]
theorem bv_one (B : Nat) : (bv B).all (·.oneCell') = true := by simp [bv, Value.oneCell']
theorem dg_bit (B i r : Nat) (hr : r < 8) : (dg B i).testBit r = B.testBit (8 * (15 - i) + r) := by
  unfold dg
  rw [show (256 : Nat) = 2 ^ 8 from rfl, Nat.testBit_mod_two_pow, Nat.testBit_div_two_pow]
  simp [hr, Nat.add_comm]
theorem dg_inj {B C : Nat} (hB : B < 2 ^ 128) (hC : C < 2 ^ 128) (h : ∀ i, i < 16 → dg B i = dg C i) : B = C := by
  apply Nat.eq_of_testBit_eq
  intro j
  by_cases hj : j < 128
  · have hb := dg_bit B (15 - j / 8) (j % 8) (Nat.mod_lt _ (by omega))
    have hc := dg_bit C (15 - j / 8) (j % 8) (Nat.mod_lt _ (by omega))
    rw [show 8 * (15 - (15 - j / 8)) + j % 8 = j from by omega] at hb hc
    rw [← hb, ← hc, h _ (by omega)]
  · rw [Nat.testBit_lt_two_pow (Nat.lt_of_lt_of_le hB (Nat.pow_le_pow_right (by omega) (by omega))), Nat.testBit_lt_two_pow (Nat.lt_of_lt_of_le hC (Nat.pow_le_pow_right (by omega) (by omega)))]
theorem bv_inj {B C : Nat} (hB : B < 2 ^ 128) (hC : C < 2 ^ 128) : bv B = bv C ↔ B = C := by
  refine ⟨fun h => dg_inj hB hC fun i hi => ?_, fun h => by rw [h]⟩
  have h1 := bv_get B i hi
  rw [h, bv_get C i hi] at h1
  simp only [Option.some.injEq, Value.int.injEq, true_and, Int.ofNat_inj] at h1
  exact h1.symm
theorem dg_xor (B C i : Nat) : dg (B ^^^ C) i = dg B i ^^^ dg C i := by
  unfold dg
  rw [xor_divp, show (256 : Nat) = 2 ^ 8 from rfl, Nat.xor_mod_two_pow]
theorem bit_is (n k : Nat) : n / 2 ^ k % 2 = if n.testBit k then 1 else 0 := by
  rw [Nat.testBit_eq_decide_div_mod_eq]
  by_cases h : n / 2 ^ k % 2 = 1
  · simp [h]
  · simp [h]; omega
/-- The coefficient of X^i. -/
theorem dg_coef (B i : Nat) (hi : i < 128) : dg B (i / 8) / 2 ^ (7 - i % 8) % 2 = B / 2 ^ (127 - i) % 2 := by
  rw [bit_is, bit_is, dg_bit B (i / 8) (7 - i % 8) (by omega), show 8 * (15 - i / 8) + (7 - i % 8) = 127 - i from by omega]
/-- Half of a block. -/
theorem dg_half (B i : Nat) (hi : i < 15) : dg (B / 2) (i + 1) = dg B (i + 1) / 2 + 128 * (dg B i % 2) := by
  have e : 8 * (15 - i) = 8 * (15 - (i + 1)) + 8 := by omega
  unfold dg
  rw [e, Nat.pow_add, ← Nat.div_div_eq_div_mul, Nat.div_div_eq_div_mul B 2, Nat.mul_comm 2, ← Nat.div_div_eq_div_mul]
  generalize B / 2 ^ (8 * (15 - (i + 1))) = y
  omega
theorem dg_half0 (B : Nat) (h : B < 2 ^ 128) : dg (B / 2) 0 = dg B 0 / 2 := by
  unfold dg
  rw [Nat.div_div_eq_div_mul, Nat.mul_comm 2, ← Nat.div_div_eq_div_mul]
  have : B / 2 ^ (8 * (15 - 0)) < 256 := by
    rw [Nat.div_lt_iff_lt_mul (by omega)]
    exact h
  generalize B / 2 ^ (8 * (15 - 0)) = y at *
  omega
theorem dg_low (B : Nat) : dg B 15 % 2 = B % 2 := by
  unfold dg
  simp
theorem or7 (x y : Nat) (hx : x < 256) : x / 2 ||| y % 2 * 128 = x / 2 + 128 * (y % 2) := by
  have all : ∀ h, h < 128 → ∀ b, b < 2 → h ||| b * 128 = h + 128 * b := by decide +kernel
  exact all (x / 2) (by omega) (y % 2) (by omega)
theorem dg_poly : ∀ i, i < 16 → dg 299076299051606071403356588563077529600 i = if i = 0 then 225 else 0 := by decide +kernel

/-! Bytes that came in make a block. -/
def lval : List Nat → Nat
  | [] => 0
  | z :: zs => z + 256 * lval zs
theorem lval_dig : ∀ (zs : List Nat) (j : Nat), (∀ z ∈ zs, z < 256) → lval zs / 2 ^ (8 * j) % 256 = zs.getD j 0
  | [], j, _ => by simp [lval]
  | z :: zs, 0, h => by
    have := h z (by simp)
    simp [lval]
    omega
  | z :: zs, j + 1, h => by
    have hz := h z (by simp)
    rw [lval, show 8 * (j + 1) = 8 + 8 * j from by omega, Nat.pow_add, ← Nat.div_div_eq_div_mul, show (z + 256 * lval zs) / 2 ^ 8 = lval zs from by omega, lval_dig zs j fun z hm => h z (List.mem_cons_of_mem _ hm)]
    rfl
theorem lval_lt : ∀ (zs : List Nat), (∀ z ∈ zs, z < 256) → lval zs < 2 ^ (8 * zs.length)
  | [], _ => by simp [lval]
  | z :: zs, h => by
    have hz := h z (by simp)
    have := lval_lt zs fun z hm => h z (List.mem_cons_of_mem _ hm)
    rw [lval, List.length_cons, show 8 * (zs.length + 1) = 8 + 8 * zs.length from by omega, Nat.pow_add]
    omega
theorem of_bytes (zs : List Nat) (hl : zs.length = 16) (hz : ∀ z ∈ zs, z < 256) : ∃ B, B < 2 ^ 128 ∧ (zs.map fun z => Value.int .u8 (z : Nat)).toArray = bv B := by
  refine ⟨lval zs.reverse, ?_, ?_⟩
  · have := lval_lt zs.reverse (by simpa using hz)
    rwa [List.length_reverse, hl] at this
  · apply Array.ext_getElem?
    intro i
    by_cases hi : i < 16
    · rw [bv_get _ i hi]
      unfold dg
      rw [lval_dig zs.reverse (15 - i) (by simpa using hz)]
      have h1 : i < zs.length := by omega
      have h2 : zs.reverse.getD (15 - i) 0 = zs[i] := by
        simp only [List.getD, List.getElem?_reverse (show 15 - i < zs.length by omega), show zs.length - 1 - (15 - i) = i from by omega, List.getElem?_eq_getElem h1, Option.getD_some]
      rw [h2]
      simp [h1]
    · rw [Array.getElem?_eq_none (xs := bv _) (by rw [bv_size]; omega), Array.getElem?_eq_none (by simp; omega)]
end Go.Proofs.Ytgjamfnhkeoedaa
