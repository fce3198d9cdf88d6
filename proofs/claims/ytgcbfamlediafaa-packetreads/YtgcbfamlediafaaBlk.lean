import Derived.Test.YtgcbfamlediafaaF128
namespace Go.Proofs.Ytgcbfamlediafaa
set_option maxRecDepth 100000

/-! The field of 256 elements. -/
/-- A byte times X. -/
def t8 (r : Nat) : Nat := if r / 128 % 2 = 1 then 2 * r ^^^ 283 else 2 * r
theorem two_xor (a b : Nat) : 2 * (a ^^^ b) = 2 * a ^^^ 2 * b := by
  apply Nat.eq_of_testBit_eq
  intro i
  have h2 : ∀ x : Nat, (2 * x).testBit i = (decide (1 ≤ i) && x.testBit (i - 1)) := fun x => by
    have := Nat.testBit_two_pow_mul (a := x) (i := 1) (j := i)
    simpa using this
  rw [Nat.testBit_xor, h2, h2, h2, Nat.testBit_xor]
  cases decide (1 ≤ i) <;> simp
theorem t8_xor (a b : Nat) : t8 (a ^^^ b) = t8 a ^^^ t8 b := by
  unfold t8
  rw [show (128 : Nat) = 2 ^ 7 from rfl, xor_divp, xor_mod2, two_xor]
  have ha : a / 2 ^ 7 % 2 = 0 ∨ a / 2 ^ 7 % 2 = 1 := by omega
  have hb : b / 2 ^ 7 % 2 = 0 ∨ b / 2 ^ 7 % 2 = 1 := by omega
  generalize 2 * a = x
  generalize 2 * b = y
  rcases ha with ha | ha <;> rcases hb with hb | hb <;> simp only [ha, hb] <;> simp
  · rw [Nat.xor_assoc]
  · rw [Nat.xor_assoc, Nat.xor_assoc, Nat.xor_comm y]
  · rw [Nat.xor_assoc, xor_lc 283 y, Nat.xor_self, Nat.xor_zero]
theorem t8_zero : t8 0 = 0 := rfl
set_option maxRecDepth 100000 in
theorem t8_lt : ∀ r, r < 256 → t8 r < 256 := by decide +kernel
/-- n places of a product, from the lowest place of b on. -/
def p8 : Nat → Nat → Nat → Nat
  | 0, _, _ => 0
  | n + 1, a, b => (if b % 2 = 1 then a else 0) ^^^ p8 n (t8 a) (b / 2)
theorem p8_xor (n : Nat) : ∀ a c b, p8 n (a ^^^ c) b = p8 n a b ^^^ p8 n c b := by
  induction n with
  | zero => intro a c b; simp [p8]
  | succ n ih =>
    intro a c b
    rw [p8, p8, p8, t8_xor, ih, xor4]
    congr 1
    split <;> simp
theorem p8_xor_right (n : Nat) : ∀ a b c, p8 n a (b ^^^ c) = p8 n a b ^^^ p8 n a c := by
  induction n with
  | zero => intro a b c; simp [p8]
  | succ n ih =>
    intro a b c
    rw [p8, p8, p8, xor_div2, ih, xor4, xor_mod2]
    congr 1
    have hb : b % 2 = 0 ∨ b % 2 = 1 := by omega
    have hc : c % 2 = 0 ∨ c % 2 = 1 := by omega
    rcases hb with hb | hb <;> rcases hc with hc | hc <;> simp [hb, hc]
theorem p8_of_zero (n b : Nat) : p8 n 0 b = 0 := by
  have := p8_xor n 0 0 b
  rw [Nat.xor_self, Nat.xor_self] at this
  exact this
theorem t8_p8 (n : Nat) : ∀ a b, t8 (p8 n a b) = p8 n (t8 a) b := by
  induction n with
  | zero => intro a b; rw [p8, p8, t8_zero]
  | succ n ih =>
    intro a b
    rw [p8, p8, t8_xor, ih]
    congr 1
    split <;> simp [t8_zero]
theorem p8_swap (n k : Nat) : ∀ z x y, p8 n (p8 k z y) x = p8 k (p8 n z x) y := by
  induction n with
  | zero => intro z x y; rw [p8, p8, p8_of_zero]
  | succ n ih =>
    intro z x y
    rw [p8, p8, t8_p8, ih, p8_xor]
    congr 1
    split
    · rfl
    · rw [p8_of_zero]
/-- The product of two bytes. -/
def mul8 (a b : Nat) : Nat := p8 8 a b
theorem mul8_swap (z x y : Nat) : mul8 (mul8 z y) x = mul8 (mul8 z x) y := p8_swap 8 8 z x y
set_option maxRecDepth 100000 in
theorem one_mul8 : ∀ b, b < 256 → mul8 1 b = b := by decide +kernel
theorem mul8_one (a : Nat) : mul8 a 1 = a := by
  show (if 1 % 2 = 1 then a else 0) ^^^ p8 7 (t8 a) (1 / 2) = a
  have h : ∀ n x, p8 n x 0 = 0 := fun n => by
    induction n with
    | zero => intro x; rfl
    | succ n ih => intro x; rw [p8, ih, if_neg (by omega)]; simp
  rw [if_pos rfl, show 1 / 2 = 0 from rfl, h, Nat.xor_zero]
theorem mul8_lt {a b : Nat} (h : a < 256) : mul8 a b < 256 := by
  have all : ∀ n a b, a < 256 → p8 n a b < 256 := fun n => by
    induction n with
    | zero => intro a b _; rw [p8]; omega
    | succ n ih =>
      intro a b h
      rw [p8]
      exact Nat.xor_lt_two_pow (n := 8) (by split <;> omega) (ih _ _ (t8_lt a h))
  exact all 8 a b h
theorem mul8_comm {a b : Nat} (ha : a < 256) (hb : b < 256) : mul8 a b = mul8 b a := by
  have h := mul8_swap 1 b a
  rwa [one_mul8 a ha, one_mul8 b hb] at h
theorem mul8_assoc {a b c : Nat} (ha : a < 256) (hb : b < 256) (_hc : c < 256) : mul8 (mul8 a b) c = mul8 a (mul8 b c) := by
  rw [mul8_comm ha (mul8_lt hb), mul8_swap b a c, mul8_comm ha hb]
theorem mul8_xor (a b c : Nat) : mul8 a (b ^^^ c) = mul8 a b ^^^ mul8 a c := p8_xor_right 8 a b c
theorem mul8_xor_left (a c b : Nat) : mul8 (a ^^^ c) b = mul8 a b ^^^ mul8 c b := p8_xor 8 a c b
theorem zero_mul8 (b : Nat) : mul8 0 b = 0 := p8_of_zero 8 b
theorem mul8_zero : ∀ a, mul8 a 0 = 0 := fun a => by
  have h : ∀ n x, p8 n x 0 = 0 := fun n => by
    induction n with
    | zero => intro x; rfl
    | succ n ih => intro x; rw [p8, ih, if_neg (by omega)]; simp
  exact h 8 a
def inv8 (a : Nat) : Nat := [0, 1, 141, 246, 203, 82, 123, 209, 232, 79, 41, 192, 176, 225, 229, 199, 116, 180, 170, 75, 153, 43, 96, 95, 88, 63, 253, 204, 255, 64, 238, 178, 58, 110, 90, 241, 85, 77, 168, 201, 193, 10, 152, 21, 48, 68, 162, 194, 44, 69, 146, 108, 243, 57, 102, 66, 242, 53, 32, 111, 119, 187, 89, 25, 29, 254, 55, 103, 45, 49, 245, 105, 167, 100, 171, 19, 84, 37, 233, 9, 237, 92, 5, 202, 76, 36, 135, 191, 24, 62, 34, 240, 81, 236, 97, 23, 22, 94, 175, 211, 73, 166, 54, 67, 244, 71, 145, 223, 51, 147, 33, 59, 121, 183, 151, 133, 16, 181, 186, 60, 182, 112, 208, 6, 161, 250, 129, 130, 131, 126, 127, 128, 150, 115, 190, 86, 155, 158, 149, 217, 247, 2, 185, 164, 222, 106, 50, 109, 216, 138, 132, 114, 42, 20, 159, 136, 249, 220, 137, 154, 251, 124, 46, 195, 143, 184, 101, 72, 38, 200, 18, 74, 206, 231, 210, 98, 12, 224, 31, 239, 17, 117, 120, 113, 165, 142, 118, 61, 189, 188, 134, 87, 11, 40, 47, 163, 218, 212, 228, 15, 169, 39, 83, 4, 27, 252, 172, 230, 122, 7, 174, 99, 197, 219, 226, 234, 148, 139, 196, 213, 157, 248, 144, 107, 177, 13, 214, 235, 198, 14, 207, 173, 8, 78, 215, 227, 93, 80, 30, 179, 91, 35, 56, 52, 104, 70, 3, 140, 221, 156, 125, 160, 205, 26, 65, 28].getD a 0
set_option maxRecDepth 100000 in
theorem inv8_ok : ∀ a, a < 256 → inv8 a < 256 ∧ (a ≠ 0 → mul8 a (inv8 a) = 1) ∧ inv8 (inv8 a) = a := by decide +kernel
theorem inv8_zero : inv8 0 = 0 := rfl
theorem mul8_nz {a b : Nat} (ha : a < 256) (hb : b < 256) (h : mul8 a b = 0) : a = 0 ∨ b = 0 := by
  by_cases h0 : a = 0
  · exact .inl h0
  · obtain ⟨hi, h1, _⟩ := inv8_ok a ha
    have h2 := h1 h0
    have h3 : mul8 (mul8 a b) (inv8 a) = mul8 (mul8 a (inv8 a)) b := mul8_swap a (inv8 a) b
    rw [h, zero_mul8, h2, one_mul8 b hb] at h3
    exact .inr h3.symm
/-- The inverse is the only one. -/
theorem inv8_only {a b : Nat} (ha : a < 256) (hb : b < 256) (h : mul8 a b = 1) : b = inv8 a := by
  have h0 : a ≠ 0 := fun e => by rw [e, zero_mul8] at h; omega
  obtain ⟨hi, h1, _⟩ := inv8_ok a ha
  have h3 : mul8 (mul8 a b) (inv8 a) = mul8 (mul8 a (inv8 a)) b := mul8_swap a (inv8 a) b
  rw [h, h1 h0, one_mul8 _ hi, one_mul8 b hb] at h3
  exact h3.symm
theorem inv8_inj {a b : Nat} (ha : a < 256) (hb : b < 256) : inv8 a = inv8 b ↔ a = b :=
  ⟨fun h => by have := congrArg inv8 h; rwa [(inv8_ok a ha).2.2, (inv8_ok b hb).2.2] at this, fun h => by rw [h]⟩
def sq8 : Nat → Nat → Nat
  | 0, x => x
  | k + 1, x => sq8 k (mul8 x x)
set_option maxRecDepth 100000 in
theorem sq8_back : ∀ a, a < 256 → sq8 8 a = a := by decide +kernel
theorem sq8_xor {a b : Nat} (ha : a < 256) (hb : b < 256) : mul8 (a ^^^ b) (a ^^^ b) = mul8 a a ^^^ mul8 b b := by
  rw [mul8_xor, mul8_xor_left, mul8_xor_left, mul8_comm hb ha]
  generalize mul8 a a = p
  generalize mul8 a b = q
  generalize mul8 b b = r
  rw [Nat.xor_assoc, xor_cancel]

/-! The document's way: the whole product, then brought down. -/
def clp (a b : Nat) : Nat → Nat
  | 0 => 0
  | i + 1 => if b / 2 ^ i % 2 = 1 then clp a b i ^^^ a * 2 ^ i else clp a b i
def rdp (p : Nat) : Nat → Nat
  | 0 => p
  | k + 1 => if rdp p k / 2 ^ (14 - k) % 2 = 1 then rdp p k ^^^ 283 * 2 ^ (6 - k) else rdp p k
theorem rdp_xor (p q : Nat) : ∀ k, rdp (p ^^^ q) k = rdp p k ^^^ rdp q k
  | 0 => rfl
  | k + 1 => by
    rw [rdp, rdp, rdp, rdp_xor p q k, xor_divp, xor_mod2]
    generalize rdp p k = x
    generalize rdp q k = y
    generalize 283 * 2 ^ (6 - k) = c
    have hx : x / 2 ^ (14 - k) % 2 = 0 ∨ x / 2 ^ (14 - k) % 2 = 1 := by omega
    have hy : y / 2 ^ (14 - k) % 2 = 0 ∨ y / 2 ^ (14 - k) % 2 = 1 := by omega
    rcases hx with hx | hx <;> rcases hy with hy | hy <;> simp only [hx, hy] <;> simp
    · rw [Nat.xor_assoc]
    · rw [Nat.xor_assoc, Nat.xor_assoc, Nat.xor_comm y]
    · rw [Nat.xor_assoc, xor_lc c y, Nat.xor_self, Nat.xor_zero]
def t8s : Nat → Nat → Nat
  | 0, r => r
  | k + 1, r => t8s k (t8 r)
set_option maxRecDepth 100000 in
theorem rdp_shift : ∀ i, i < 8 → ∀ a, a < 256 → rdp (a * 2 ^ i) 7 = t8s i a := by decide +kernel
theorem p8_last (n : Nat) : ∀ a b, p8 (n + 1) a b = p8 n a b ^^^ (if b / 2 ^ n % 2 = 1 then t8s n a else 0) := by
  induction n with
  | zero => intro a b; rw [p8, p8, p8]; simp [t8s]
  | succ n ih =>
    intro a b
    rw [p8, ih, p8, ← Nat.xor_assoc, Nat.div_div_eq_div_mul, Nat.mul_comm 2, ← Nat.pow_succ]
    rfl
theorem clp_p8 {a : Nat} (b : Nat) (ha : a < 256) : ∀ i, i ≤ 8 → rdp (clp a b i) 7 = p8 i a b
  | 0, _ => by rw [clp, p8]; decide
  | i + 1, h => by
    rw [clp, p8_last]
    split
    · rw [rdp_xor, clp_p8 b ha i (by omega), rdp_shift i (by omega) a ha]
    · rw [clp_p8 b ha i (by omega), Nat.xor_zero]
theorem ref8 {a b : Nat} (ha : a < 256) : rdp (clp a b 8) 7 = mul8 a b := clp_p8 b ha 8 (Nat.le_refl _)
end Go.Proofs.Ytgcbfamlediafaa
namespace Go.Proofs.Ytgcbfamlediafaa
set_option maxRecDepth 100000
open Go.RowKit

/-! Blocks as arrays of 16 bytes. -/
/-- The byte i of a block. -/
def dg (B i : Nat) : Nat := B / 2 ^ (8 * (15 - i)) % 256
def bv (B : Nat) : Array Value := ((List.range 16).map fun i => Value.int .u8 (dg B i : Nat)).toArray
theorem dg_lt (B i : Nat) : dg B i < 256 := Nat.mod_lt _ (by omega)
theorem bv_size (B : Nat) : (bv B).size = 16 := by simp [bv]
theorem bv_get (B i : Nat) (h : i < 16) : (bv B)[i]? = some (.int .u8 (dg B i : Nat)) := by simp [bv, h]
theorem bv_one (B : Nat) : (bv B).all (·.oneCell') = true := by simp [bv, Value.oneCell']
theorem dg_bit (B i r : Nat) (hr : r < 8) : (dg B i).testBit r = B.testBit (8 * (15 - i) + r) := by
  unfold dg
  rw [show (256 : Nat) = 2 ^ 8 from rfl, Nat.testBit_mod_two_pow, Nat.testBit_div_two_pow]
  simp [hr, Nat.add_comm]
theorem dg_inj {B C : Nat} (hB : B < 2 ^ 128) (hC : C < 2 ^ 128) (h : ∀ i, i < 16 → dg B i = dg C i) : B = C := by
  apply Nat.eq_of_testBit_eq
  intro j
  by_cases hj : j < 128
  · have hb := dg_bit B (15 - j / 8) (j % 8) (Nat.mod_lt _ (by omega))
    have hc := dg_bit C (15 - j / 8) (j % 8) (Nat.mod_lt _ (by omega))
    rw [show 8 * (15 - (15 - j / 8)) + j % 8 = j from by omega] at hb hc
    rw [← hb, ← hc, h _ (by omega)]
  · rw [Nat.testBit_lt_two_pow (Nat.lt_of_lt_of_le hB (Nat.pow_le_pow_right (by omega) (by omega))), Nat.testBit_lt_two_pow (Nat.lt_of_lt_of_le hC (Nat.pow_le_pow_right (by omega) (by omega)))]
theorem bv_inj {B C : Nat} (hB : B < 2 ^ 128) (hC : C < 2 ^ 128) : bv B = bv C ↔ B = C := by
  refine ⟨fun h => dg_inj hB hC fun i hi => ?_, fun h => by rw [h]⟩
  have h1 := bv_get B i hi
  rw [h, bv_get C i hi] at h1
  simp only [Option.some.injEq, Value.int.injEq, true_and, Int.ofNat_inj] at h1
  exact h1.symm
theorem dg_xor (B C i : Nat) : dg (B ^^^ C) i = dg B i ^^^ dg C i := by
  unfold dg
  rw [xor_divp, show (256 : Nat) = 2 ^ 8 from rfl, Nat.xor_mod_two_pow]
theorem bit_is (n k : Nat) : n / 2 ^ k % 2 = if n.testBit k then 1 else 0 := by
  rw [Nat.testBit_eq_decide_div_mod_eq]
  by_cases h : n / 2 ^ k % 2 = 1
  · simp [h]
  · simp [h]; omega
/-- The coefficient of X^i. -/
theorem dg_coef (B i : Nat) (hi : i < 128) : dg B (i / 8) / 2 ^ (7 - i % 8) % 2 = B / 2 ^ (127 - i) % 2 := by
  rw [bit_is, bit_is, dg_bit B (i / 8) (7 - i % 8) (by omega), show 8 * (15 - i / 8) + (7 - i % 8) = 127 - i from by omega]
/-- Half of a block. -/
theorem dg_half (B i : Nat) (hi : i < 15) : dg (B / 2) (i + 1) = dg B (i + 1) / 2 + 128 * (dg B i % 2) := by
  have e : 8 * (15 - i) = 8 * (15 - (i + 1)) + 8 := by omega
  unfold dg
  rw [e, Nat.pow_add, ← Nat.div_div_eq_div_mul, Nat.div_div_eq_div_mul B 2, Nat.mul_comm 2, ← Nat.div_div_eq_div_mul]
  generalize B / 2 ^ (8 * (15 - (i + 1))) = y
  omega
theorem dg_half0 (B : Nat) (h : B < 2 ^ 128) : dg (B / 2) 0 = dg B 0 / 2 := by
  unfold dg
  rw [Nat.div_div_eq_div_mul, Nat.mul_comm 2, ← Nat.div_div_eq_div_mul]
  have : B / 2 ^ (8 * (15 - 0)) < 256 := by
    rw [Nat.div_lt_iff_lt_mul (by omega)]
    exact h
  generalize B / 2 ^ (8 * (15 - 0)) = y at *
  omega
theorem dg_low (B : Nat) : dg B 15 % 2 = B % 2 := by
  unfold dg
  simp
theorem or7 (x y : Nat) (hx : x < 256) : x / 2 ||| y % 2 * 128 = x / 2 + 128 * (y % 2) := by
  have all : ∀ h, h < 128 → ∀ b, b < 2 → h ||| b * 128 = h + 128 * b := by decide +kernel
  exact all (x / 2) (by omega) (y % 2) (by omega)
theorem dg_poly : ∀ i, i < 16 → dg 299076299051606071403356588563077529600 i = if i = 0 then 225 else 0 := by decide +kernel

/-! Bytes that came in make a block. -/
def lval : List Nat → Nat
  | [] => 0
  | z :: zs => z + 256 * lval zs
theorem lval_dig : ∀ (zs : List Nat) (j : Nat), (∀ z ∈ zs, z < 256) → lval zs / 2 ^ (8 * j) % 256 = zs.getD j 0
  | [], j, _ => by simp [lval]
  | z :: zs, 0, h => by
    have := h z (by simp)
    simp [lval]
    omega
  | z :: zs, j + 1, h => by
    have hz := h z (by simp)
    rw [lval, show 8 * (j + 1) = 8 + 8 * j from by omega, Nat.pow_add, ← Nat.div_div_eq_div_mul, show (z + 256 * lval zs) / 2 ^ 8 = lval zs from by omega, lval_dig zs j fun z hm => h z (List.mem_cons_of_mem _ hm)]
    rfl
theorem lval_lt : ∀ (zs : List Nat), (∀ z ∈ zs, z < 256) → lval zs < 2 ^ (8 * zs.length)
  | [], _ => by simp [lval]
  | z :: zs, h => by
    have hz := h z (by simp)
    have := lval_lt zs fun z hm => h z (List.mem_cons_of_mem _ hm)
    rw [lval, List.length_cons, show 8 * (zs.length + 1) = 8 + 8 * zs.length from by omega, Nat.pow_add]
    omega
theorem of_bytes (zs : List Nat) (hl : zs.length = 16) (hz : ∀ z ∈ zs, z < 256) : ∃ B, B < 2 ^ 128 ∧ (zs.map fun z => Value.int .u8 (z : Nat)).toArray = bv B := by
  refine ⟨lval zs.reverse, ?_, ?_⟩
  · have := lval_lt zs.reverse (by simpa using hz)
    rwa [List.length_reverse, hl] at this
  · apply Array.ext_getElem?
    intro i
    by_cases hi : i < 16
    · rw [bv_get _ i hi]
      unfold dg
      rw [lval_dig zs.reverse (15 - i) (by simpa using hz)]
      have h1 : i < zs.length := by omega
      have h2 : zs.reverse.getD (15 - i) 0 = zs[i] := by
        simp only [List.getD, List.getElem?_reverse (show 15 - i < zs.length by omega), show zs.length - 1 - (15 - i) = i from by omega, List.getElem?_eq_getElem h1, Option.getD_some]
      rw [h2]
      simp [h1]
    · rw [Array.getElem?_eq_none (xs := bv _) (by rw [bv_size]; omega), Array.getElem?_eq_none (by simp; omega)]
end Go.Proofs.Ytgcbfamlediafaa
