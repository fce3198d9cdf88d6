import Derived.Test.YtgcbfamlediafaaBlk
namespace Go.Proofs.Ytgcbfamlediafaa
set_option maxRecDepth 100000
set_option linter.unusedVariables false

/-! AES-256, one block, forward: bytes as numbers below 256, a block as a function of the places 0 to 15. -/
def sbx (x : Nat) : Nat := [99, 124, 119, 123, 242, 107, 111, 197, 48, 1, 103, 43, 254, 215, 171, 118, 202, 130, 201, 125, 250, 89, 71, 240, 173, 212, 162, 175, 156, 164, 114, 192, 183, 253, 147, 38, 54, 63, 247, 204, 52, 165, 229, 241, 113, 216, 49, 21, 4, 199, 35, 195, 24, 150, 5, 154, 7, 18, 128, 226, 235, 39, 178, 117, 9, 131, 44, 26, 27, 110, 90, 160, 82, 59, 214, 179, 41, 227, 47, 132, 83, 209, 0, 237, 32, 252, 177, 91, 106, 203, 190, 57, 74, 76, 88, 207, 208, 239, 170, 251, 67, 77, 51, 133, 69, 249, 2, 127, 80, 60, 159, 168, 81, 163, 64, 143, 146, 157, 56, 245, 188, 182, 218, 33, 16, 255, 243, 210, 205, 12, 19, 236, 95, 151, 68, 23, 196, 167, 126, 61, 100, 93, 25, 115, 96, 129, 79, 220, 34, 42, 144, 136, 70, 238, 184, 20, 222, 94, 11, 219, 224, 50, 58, 10, 73, 6, 36, 92, 194, 211, 172, 98, 145, 149, 228, 121, 231, 200, 55, 109, 141, 213, 78, 169, 108, 86, 244, 234, 101, 122, 174, 8, 186, 120, 37, 46, 28, 166, 180, 198, 232, 221, 116, 31, 75, 189, 139, 138, 112, 62, 181, 102, 72, 3, 246, 14, 97, 53, 87, 185, 134, 193, 29, 158, 225, 248, 152, 17, 105, 217, 142, 148, 155, 30, 135, 233, 206, 85, 40, 223, 140, 161, 137, 13, 191, 230, 66, 104, 65, 153, 45, 15, 176, 84, 187, 22].getD x 0
def sbi (x : Nat) : Nat := [82, 9, 106, 213, 48, 54, 165, 56, 191, 64, 163, 158, 129, 243, 215, 251, 124, 227, 57, 130, 155, 47, 255, 135, 52, 142, 67, 68, 196, 222, 233, 203, 84, 123, 148, 50, 166, 194, 35, 61, 238, 76, 149, 11, 66, 250, 195, 78, 8, 46, 161, 102, 40, 217, 36, 178, 118, 91, 162, 73, 109, 139, 209, 37, 114, 248, 246, 100, 134, 104, 152, 22, 212, 164, 92, 204, 93, 101, 182, 146, 108, 112, 72, 80, 253, 237, 185, 218, 94, 21, 70, 87, 167, 141, 157, 132, 144, 216, 171, 0, 140, 188, 211, 10, 247, 228, 88, 5, 184, 179, 69, 6, 208, 44, 30, 143, 202, 63, 15, 2, 193, 175, 189, 3, 1, 19, 138, 107, 58, 145, 17, 65, 79, 103, 220, 234, 151, 242, 207, 206, 240, 180, 230, 115, 150, 172, 116, 34, 231, 173, 53, 133, 226, 249, 55, 232, 28, 117, 223, 110, 71, 241, 26, 113, 29, 41, 197, 137, 111, 183, 98, 14, 170, 24, 190, 27, 252, 86, 62, 75, 198, 210, 121, 32, 154, 219, 192, 254, 120, 205, 90, 244, 31, 221, 168, 51, 136, 7, 199, 49, 177, 18, 16, 89, 39, 128, 236, 95, 96, 81, 127, 169, 25, 181, 74, 13, 45, 229, 122, 159, 147, 201, 156, 239, 160, 224, 59, 77, 174, 42, 245, 176, 200, 235, 187, 60, 131, 83, 153, 97, 23, 43, 4, 126, 186, 119, 214, 38, 225, 105, 20, 99, 85, 33, 12, 125].getD x 0
set_option maxRecDepth 100000 in
theorem sbx_ok : ∀ x, x < 256 → sbx x < 256 ∧ sbi (sbx x) = x ∧ sbx x ≠ x ∧ sbx x ^^^ x ≠ 255 := by decide +kernel
theorem sbx_lt {x : Nat} (h : x < 256) : sbx x < 256 := (sbx_ok x h).1
theorem sbx_inj {x y : Nat} (hx : x < 256) (hy : y < 256) (h : sbx x = sbx y) : x = y := by
  have := congrArg sbi h
  rwa [(sbx_ok x hx).2.1, (sbx_ok y hy).2.1] at this
/-- The document's way, i bits of it. -/
def sbit (v i : Nat) : Nat := v / 2 ^ i ^^^ v / 2 ^ ((i + 4) % 8) ^^^ v / 2 ^ ((i + 5) % 8) ^^^ v / 2 ^ ((i + 6) % 8) ^^^ v / 2 ^ ((i + 7) % 8) ^^^ 99 / 2 ^ i
def sgo (v : Nat) : Nat → Nat
  | 0 => 0
  | i + 1 => sgo v i ||| sbit v i % 2 * 2 ^ i
set_option maxRecDepth 100000 in
theorem sgo_ok : ∀ x, x < 256 → sgo (inv8 x) 8 = sbx x := by decide +kernel

/-! The round words. -/
def rc (n : Nat) : Nat := [0, 1, 2, 4, 8, 16, 32, 64, 128].getD n 0
/-- The byte k of the word that is xored in at the word i. -/
def tw (l : List Nat) (i k : Nat) : Nat :=
  if i % 8 = 0 then sbx (l.getD (4 * i - 4 + (k + 1) % 4) 0) ^^^ (if k = 0 then rc (i / 8) else 0)
  else if i % 4 = 0 then sbx (l.getD (4 * i - 4 + k) 0)
  else l.getD (4 * i - 4 + k) 0
def nw (l : List Nat) (i : Nat) : List Nat := (List.range 4).map fun k => l.getD (4 * i - 32 + k) 0 ^^^ tw l i k
/-- The key and n words more. -/
def kx (key : List Nat) : Nat → List Nat
  | 0 => key
  | n + 1 => kx key n ++ nw (kx key n) (n + 8)
def kf (key : List Nat) (j : Nat) : Nat := (kx key 52).getD j 0

/-! The rounds. -/
def xk (k : Nat → Nat) (r : Nat) (f : Nat → Nat) : Nat → Nat := fun i => f i ^^^ k (16 * r + i)
def tn (f : Nat → Nat) : Nat → Nat := fun i => sbx (f (4 * ((i / 4 + i % 4) % 4) + i % 4))
def mx (f : Nat → Nat) : Nat → Nat := fun i => mul8 2 (f i) ^^^ mul8 2 (f (4 * (i / 4) + (i % 4 + 1) % 4)) ^^^ f (4 * (i / 4) + (i % 4 + 1) % 4) ^^^ f (4 * (i / 4) + (i % 4 + 2) % 4) ^^^ f (4 * (i / 4) + (i % 4 + 3) % 4)
def rd (k : Nat → Nat) (r : Nat) (f : Nat → Nat) : Nat → Nat := xk k r (if r < 14 then mx (tn f) else tn f)
def bl (k : Nat → Nat) (f : Nat → Nat) : Nat → Nat → Nat
  | 0 => xk k 0 f
  | r + 1 => rd k (r + 1) (bl k f r)

/-! Bounds. -/
theorem getD_lt {l : List Nat} (h : ∀ z ∈ l, z < 256) (j : Nat) : l.getD j 0 < 256 := by
  by_cases hj : j < l.length
  · simp only [List.getD, List.getElem?_eq_getElem hj, Option.getD_some]; exact h _ (List.getElem_mem hj)
  · simp only [List.getD, List.getElem?_eq_none (by omega : l.length ≤ j), Option.getD_none]; omega
theorem xor_lt8 {a b : Nat} (ha : a < 256) (hb : b < 256) : a ^^^ b < 256 := Nat.xor_lt_two_pow (n := 8) ha hb
theorem rc_lt (n : Nat) : rc n < 256 := by
  unfold rc
  exact getD_lt (l := [0, 1, 2, 4, 8, 16, 32, 64, 128]) (by decide) n
theorem tw_lt {l : List Nat} (h : ∀ z ∈ l, z < 256) (i k : Nat) : tw l i k < 256 := by
  unfold tw
  split
  · refine xor_lt8 (sbx_lt (getD_lt h _)) ?_
    split
    · exact rc_lt _
    · omega
  · split
    · exact sbx_lt (getD_lt h _)
    · exact getD_lt h _
theorem nw_length (l : List Nat) (i : Nat) : (nw l i).length = 4 := by simp [nw]
theorem nw_lt {l : List Nat} (h : ∀ z ∈ l, z < 256) (i : Nat) : ∀ z ∈ nw l i, z < 256 := by
  intro z hz
  obtain ⟨k, _, rfl⟩ := List.mem_map.1 hz
  exact xor_lt8 (getD_lt h _) (tw_lt h i k)
theorem kx_length (key : List Nat) (n : Nat) : (kx key n).length = key.length + 4 * n := by
  induction n with
  | zero => rfl
  | succ n ih => rw [kx, List.length_append, ih, nw_length]; omega
theorem kx_lt {key : List Nat} (h : ∀ z ∈ key, z < 256) (n : Nat) : ∀ z ∈ kx key n, z < 256 := by
  induction n with
  | zero => exact h
  | succ n ih =>
    intro z hz
    rw [kx] at hz
    rcases List.mem_append.1 hz with hz | hz
    · exact ih z hz
    · exact nw_lt ih _ z hz
theorem kf_lt {key : List Nat} (h : ∀ z ∈ key, z < 256) (j : Nat) : kf key j < 256 := getD_lt (kx_lt h 52) j
theorem at16 {i : Nat} (h : i < 16) (s : Nat) : 4 * (i / 4) + (i % 4 + s) % 4 < 16 := by omega
theorem sg16 {i : Nat} (h : i < 16) : 4 * ((i / 4 + i % 4) % 4) + i % 4 < 16 := by omega
theorem xk_lt {k f : Nat → Nat} (hk : ∀ j, k j < 256) (hf : ∀ i, i < 16 → f i < 256) (r : Nat) : ∀ i, i < 16 → xk k r f i < 256 := fun i hi => xor_lt8 (hf i hi) (hk _)
theorem tn_lt {f : Nat → Nat} (hf : ∀ i, i < 16 → f i < 256) : ∀ i, i < 16 → tn f i < 256 := fun i hi => sbx_lt (hf _ (sg16 hi))
theorem mx_lt {f : Nat → Nat} (hf : ∀ i, i < 16 → f i < 256) : ∀ i, i < 16 → mx f i < 256 := fun i hi =>
  xor_lt8 (xor_lt8 (xor_lt8 (xor_lt8 (mul8_lt (by omega)) (mul8_lt (by omega))) (hf _ (at16 hi 1))) (hf _ (at16 hi 2))) (hf _ (at16 hi 3))
theorem rd_lt {k f : Nat → Nat} (hk : ∀ j, k j < 256) (hf : ∀ i, i < 16 → f i < 256) (r : Nat) : ∀ i, i < 16 → rd k r f i < 256 := by
  unfold rd
  split
  · exact xk_lt hk (mx_lt (tn_lt hf)) r
  · exact xk_lt hk (tn_lt hf) r
theorem bl_lt {k f : Nat → Nat} (hk : ∀ j, k j < 256) (hf : ∀ i, i < 16 → f i < 256) : ∀ r i, i < 16 → bl k f r i < 256
  | 0 => xk_lt hk hf 0
  | r + 1 => rd_lt hk (bl_lt hk hf r) (r + 1)

/-! Only the places 0 to 15 count. -/
theorem xk_congr {k f g : Nat → Nat} (h : ∀ i, i < 16 → f i = g i) (r : Nat) : ∀ i, i < 16 → xk k r f i = xk k r g i := fun i hi => by unfold xk; rw [h i hi]
theorem tn_congr {f g : Nat → Nat} (h : ∀ i, i < 16 → f i = g i) : ∀ i, i < 16 → tn f i = tn g i := fun i hi => by unfold tn; rw [h _ (sg16 hi)]
theorem mx_congr {f g : Nat → Nat} (h : ∀ i, i < 16 → f i = g i) : ∀ i, i < 16 → mx f i = mx g i := fun i hi => by
  unfold mx; rw [h i hi, h _ (at16 hi 1), h _ (at16 hi 2), h _ (at16 hi 3)]
theorem rd_congr {k f g : Nat → Nat} (h : ∀ i, i < 16 → f i = g i) (r : Nat) : ∀ i, i < 16 → rd k r f i = rd k r g i := by
  unfold rd
  split
  · exact xk_congr (mx_congr (tn_congr h)) r
  · exact xk_congr (tn_congr h) r
theorem bl_congr {k f g : Nat → Nat} (h : ∀ i, i < 16 → f i = g i) : ∀ r i, i < 16 → bl k f r i = bl k g r i
  | 0 => xk_congr h 0
  | r + 1 => rd_congr (bl_congr h r) (r + 1)
/-- Only the first 240 bytes of the round words count. -/
theorem bl_keys {k k' f : Nat → Nat} (h : ∀ j, j < 240 → k j = k' j) : ∀ r, r ≤ 14 → ∀ i, i < 16 → bl k f r i = bl k' f r i
  | 0, _ => fun i hi => by show f i ^^^ k (16 * 0 + i) = f i ^^^ k' (16 * 0 + i); rw [h _ (by omega)]
  | r + 1, hr => fun i hi => by
    show rd k (r + 1) (bl k f r) i = rd k' (r + 1) (bl k' f r) i
    rw [rd_congr (bl_keys h r (by omega)) (r + 1) i hi]
    unfold rd xk
    rw [h _ (by omega)]

/-! A permutation. -/
theorem xor_inj {a b c : Nat} (h : a ^^^ c = b ^^^ c) : a = b := by
  have := congrArg (· ^^^ c) h
  simpa [Nat.xor_assoc] using this
theorem xk_inj {k f g : Nat → Nat} {r : Nat} (h : ∀ i, i < 16 → xk k r f i = xk k r g i) : ∀ i, i < 16 → f i = g i := fun i hi => xor_inj (h i hi)
theorem tn_inj {f g : Nat → Nat} (hf : ∀ i, i < 16 → f i < 256) (hg : ∀ i, i < 16 → g i < 256) (h : ∀ i, i < 16 → tn f i = tn g i) : ∀ i, i < 16 → f i = g i := fun j hj => by
  have ht : 4 * ((j / 4 + (4 - j % 4)) % 4) + j % 4 < 16 := by omega
  have e := h _ ht
  unfold tn at e
  have hs : 4 * (((4 * ((j / 4 + (4 - j % 4)) % 4) + j % 4) / 4 + (4 * ((j / 4 + (4 - j % 4)) % 4) + j % 4) % 4) % 4) + (4 * ((j / 4 + (4 - j % 4)) % 4) + j % 4) % 4 = j := by omega
  rw [hs] at e
  exact sbx_inj (hf j hj) (hg j hj) e
set_option maxRecDepth 100000 in
theorem un_a : ∀ a, a < 256 → mul8 14 (mul8 2 a) ^^^ mul8 11 a ^^^ mul8 13 a ^^^ mul8 9 (mul8 2 a) ^^^ mul8 9 a = a := by decide +kernel
set_option maxRecDepth 100000 in
theorem un_b : ∀ b, b < 256 → mul8 14 (mul8 2 b) ^^^ mul8 14 b ^^^ mul8 11 (mul8 2 b) ^^^ mul8 13 b ^^^ mul8 9 b = 0 := by decide +kernel
set_option maxRecDepth 100000 in
theorem un_c : ∀ c, c < 256 → mul8 14 c ^^^ mul8 11 (mul8 2 c) ^^^ mul8 11 c ^^^ mul8 13 (mul8 2 c) ^^^ mul8 9 c = 0 := by decide +kernel
set_option maxRecDepth 100000 in
theorem un_d : ∀ d, d < 256 → mul8 14 d ^^^ mul8 11 d ^^^ mul8 13 (mul8 2 d) ^^^ mul8 13 d ^^^ mul8 9 (mul8 2 d) = 0 := by decide +kernel
theorem un_col {a b c d : Nat} (ha : a < 256) (hb : b < 256) (hc : c < 256) (hd : d < 256) :
    mul8 14 (mul8 2 a ^^^ mul8 2 b ^^^ b ^^^ c ^^^ d) ^^^ mul8 11 (mul8 2 b ^^^ mul8 2 c ^^^ c ^^^ d ^^^ a) ^^^ mul8 13 (mul8 2 c ^^^ mul8 2 d ^^^ d ^^^ a ^^^ b) ^^^ mul8 9 (mul8 2 d ^^^ mul8 2 a ^^^ a ^^^ b ^^^ c) = a := by
  have h1 := un_a a ha
  have h2 := un_b b hb
  have h3 := un_c c hc
  have h4 := un_d d hd
  simp only [mul8_xor]
  have e : (mul8 14 (mul8 2 a) ^^^ mul8 11 a ^^^ mul8 13 a ^^^ mul8 9 (mul8 2 a) ^^^ mul8 9 a) ^^^ (mul8 14 (mul8 2 b) ^^^ mul8 14 b ^^^ mul8 11 (mul8 2 b) ^^^ mul8 13 b ^^^ mul8 9 b) ^^^ (mul8 14 c ^^^ mul8 11 (mul8 2 c) ^^^ mul8 11 c ^^^ mul8 13 (mul8 2 c) ^^^ mul8 9 c) ^^^ (mul8 14 d ^^^ mul8 11 d ^^^ mul8 13 (mul8 2 d) ^^^ mul8 13 d ^^^ mul8 9 (mul8 2 d)) = a := by
    rw [h1, h2, h3, h4]; simp
  generalize mul8 14 (mul8 2 a) = a1 at *
  generalize mul8 11 a = a2 at *
  generalize mul8 13 a = a3 at *
  generalize mul8 9 (mul8 2 a) = a4 at *
  generalize mul8 9 a = a5 at *
  generalize mul8 14 (mul8 2 b) = b1 at *
  generalize mul8 14 b = b2 at *
  generalize mul8 11 (mul8 2 b) = b3 at *
  generalize mul8 13 b = b4 at *
  generalize mul8 9 b = b5 at *
  generalize mul8 14 c = c1 at *
  generalize mul8 11 (mul8 2 c) = c2 at *
  generalize mul8 11 c = c3 at *
  generalize mul8 13 (mul8 2 c) = c4 at *
  generalize mul8 9 c = c5 at *
  generalize mul8 14 d = d1 at *
  generalize mul8 11 d = d2 at *
  generalize mul8 13 (mul8 2 d) = d3 at *
  generalize mul8 13 d = d4 at *
  generalize mul8 9 (mul8 2 d) = d5 at *
  refine Eq.trans ?_ e
  ac_rfl
theorem mx_inj {f g : Nat → Nat} (hf : ∀ i, i < 16 → f i < 256) (hg : ∀ i, i < 16 → g i < 256) (h : ∀ i, i < 16 → mx f i = mx g i) : ∀ i, i < 16 → f i = g i := by
  have un : ∀ (f : Nat → Nat), (∀ i, i < 16 → f i < 256) → ∀ c, c < 4 → ∀ r, r < 4 → mul8 14 (mx f (4 * c + r)) ^^^ mul8 11 (mx f (4 * c + (r + 1) % 4)) ^^^ mul8 13 (mx f (4 * c + (r + 2) % 4)) ^^^ mul8 9 (mx f (4 * c + (r + 3) % 4)) = f (4 * c + r) := by
    intro f hf c hc r hr
    have m : ∀ s, s < 4 → mx f (4 * c + s) = mul8 2 (f (4 * c + s)) ^^^ mul8 2 (f (4 * c + (s + 1) % 4)) ^^^ f (4 * c + (s + 1) % 4) ^^^ f (4 * c + (s + 2) % 4) ^^^ f (4 * c + (s + 3) % 4) := by
      intro s hs
      unfold mx
      rw [show (4 * c + s) / 4 = c from by omega, show (4 * c + s) % 4 = s from by omega]
    have q : ∀ s, s < 4 → f (4 * c + s) < 256 := fun s hs => hf _ (by omega)
    rw [m r hr, m _ (Nat.mod_lt _ (by omega)), m _ (Nat.mod_lt _ (by omega)), m _ (Nat.mod_lt _ (by omega))]
    rcases (show r = 0 ∨ r = 1 ∨ r = 2 ∨ r = 3 by omega) with rfl | rfl | rfl | rfl
    · exact un_col (q 0 (by omega)) (q 1 (by omega)) (q 2 (by omega)) (q 3 (by omega))
    · exact un_col (q 1 (by omega)) (q 2 (by omega)) (q 3 (by omega)) (q 0 (by omega))
    · exact un_col (q 2 (by omega)) (q 3 (by omega)) (q 0 (by omega)) (q 1 (by omega))
    · exact un_col (q 3 (by omega)) (q 0 (by omega)) (q 1 (by omega)) (q 2 (by omega))
  intro i hi
  have e1 := un f hf (i / 4) (by omega) (i % 4) (by omega)
  have e2 := un g hg (i / 4) (by omega) (i % 4) (by omega)
  rw [show 4 * (i / 4) + i % 4 = i from by omega] at e1 e2
  rw [← e1, ← e2, h i hi, h _ (at16 hi 1), h _ (at16 hi 2), h _ (at16 hi 3)]
theorem rd_inj {k f g : Nat → Nat} {r : Nat} (hf : ∀ i, i < 16 → f i < 256) (hg : ∀ i, i < 16 → g i < 256) (h : ∀ i, i < 16 → rd k r f i = rd k r g i) : ∀ i, i < 16 → f i = g i := by
  unfold rd at h
  split at h
  · exact tn_inj hf hg (mx_inj (tn_lt hf) (tn_lt hg) (xk_inj h))
  · exact tn_inj hf hg (xk_inj h)
theorem bl_inj {k f g : Nat → Nat} (hk : ∀ j, k j < 256) (hf : ∀ i, i < 16 → f i < 256) (hg : ∀ i, i < 16 → g i < 256) : ∀ r, (∀ i, i < 16 → bl k f r i = bl k g r i) → ∀ i, i < 16 → f i = g i
  | 0, h => xk_inj h
  | r + 1, h => bl_inj hk hf hg r (rd_inj (bl_lt hk hf r) (bl_lt hk hg r) h)

/-! The example. -/
def exK : List Nat := [99, 99, 99, 99, 99, 99, 99, 99, 99, 99, 99, 99, 99, 99, 99, 99, 99, 99, 99, 99, 99, 99, 99, 99, 99, 99, 99, 99, 99, 99, 99, 99, 153, 152, 152, 152, 250, 251, 251, 251, 153, 152, 152, 152, 250, 251, 251, 251, 78, 108, 108, 108, 45, 15, 15, 15, 78, 108, 108, 108, 45, 15, 15, 15, 237, 238, 238, 64, 23, 21, 21, 187, 142, 141, 141, 35, 116, 118, 118, 216, 220, 84, 84, 13, 241, 91, 91, 2, 191, 55, 55, 110, 146, 56, 56, 97, 238, 233, 1, 15, 249, 252, 20, 180, 119, 113, 153, 151, 3, 7, 239, 79, 167, 145, 139, 137, 86, 202, 208, 139, 233, 253, 231, 229, 123, 197, 223, 132, 64, 119, 94, 46, 185, 139, 74, 154, 206, 250, 211, 13, 205, 253, 60, 66, 26, 197, 96, 165, 76, 15, 176, 46, 165, 242, 87, 203, 222, 55, 136, 79, 202, 179, 218, 51, 115, 56, 144, 169, 189, 194, 67, 164, 112, 63, 127, 230, 75, 176, 178, 43, 7, 191, 2, 5, 162, 77, 85, 206, 124, 122, 221, 129, 48, 114, 214, 35, 67, 74, 70, 138, 254, 136, 5, 46, 142, 183, 122, 200, 82, 25, 104, 195, 85, 166, 106, 198, 247, 235, 63, 8, 139, 145, 226, 137, 241, 234, 113, 30, 178, 160, 55, 148, 76, 40, 50, 186, 194, 159, 72, 114]
def exV : List (List Nat) := [[99, 114, 65, 80, 39, 54, 5, 20, 235, 250, 201, 216, 175, 190, 141, 156], [130, 48, 69, 10, 153, 65, 205, 250, 58, 169, 44, 129, 91, 70, 47, 1], [44, 121, 110, 167, 33, 240, 69, 218, 47, 51, 233, 109, 53, 26, 179, 17], [191, 190, 48, 114, 163, 132, 15, 5, 81, 203, 7, 192, 137, 96, 183, 14], [114, 167, 206, 143, 203, 129, 137, 147, 51, 128, 57, 73, 4, 182, 70, 157], [4, 100, 222, 111, 170, 88, 168, 82, 167, 50, 200, 86, 21, 187, 142, 225], [191, 20, 65, 107, 110, 149, 74, 42, 247, 197, 21, 132, 7, 52, 162, 92], [218, 108, 197, 118, 199, 51, 28, 83, 119, 222, 190, 23, 118, 209, 182, 66], [50, 120, 249, 226, 127, 157, 69, 232, 54, 111, 99, 80, 33, 42, 124, 61], [98, 107, 153, 43, 152, 62, 89, 208, 153, 13, 40, 149, 221, 72, 224, 39], [176, 246, 229, 211, 141, 2, 208, 172, 18, 209, 168, 209, 137, 108, 50, 94], [157, 188, 85, 28, 186, 157, 141, 51, 147, 197, 205, 62, 161, 247, 154, 61], [244, 107, 222, 108, 101, 166, 192, 176, 218, 88, 12, 88, 170, 26, 90, 217], [144, 194, 75, 169, 159, 182, 218, 101, 94, 35, 194, 155, 153, 124, 224, 119], [145, 164, 84, 235, 105, 134, 214, 71, 20, 56, 129, 247, 44, 186, 31, 102]]
set_option maxRecDepth 100000 in
theorem ex_step : ∀ n, n < 52 → nw (exK.take (32 + 4 * n)) (n + 8) = (exK.drop (32 + 4 * n)).take 4 := by decide +kernel
theorem ex_kx : ∀ n, n ≤ 52 → kx (List.replicate 32 99) n = exK.take (32 + 4 * n)
  | 0, _ => by decide +kernel
  | n + 1, h => by
    rw [kx, ex_kx n (by omega), ex_step n (by omega), show 32 + 4 * (n + 1) = (32 + 4 * n) + 4 from by omega]
    generalize 32 + 4 * n = m
    exact List.take_add.symm
theorem ex_kf (j : Nat) : kf (List.replicate 32 99) j = exK.getD j 0 := by
  unfold kf
  rw [ex_kx 52 (by omega), show 32 + 4 * 52 = exK.length from by decide +kernel, List.take_length]
set_option maxRecDepth 100000 in
theorem ex_first : ∀ i, i < 16 → xk (exK.getD · 0) 0 (fun i => 17 * i) i = (exV.getD 0 []).getD i 0 := by decide +kernel
set_option maxRecDepth 100000 in
theorem ex_round : ∀ r, r < 14 → ∀ i, i < 16 → rd (exK.getD · 0) (r + 1) (fun i => (exV.getD r []).getD i 0) i = (exV.getD (r + 1) []).getD i 0 := by decide +kernel
theorem ex_bl : ∀ r, r ≤ 14 → ∀ i, i < 16 → bl (kf (List.replicate 32 99)) (fun i => 17 * i) r i = (exV.getD r []).getD i 0
  | 0, _ => fun i hi => by
    rw [← ex_first i hi]
    unfold bl xk
    rw [ex_kf]
  | r + 1, h => fun i hi => by
    rw [← ex_round r (by omega) i hi, bl, rd_congr (ex_bl r (by omega)) (r + 1) i hi]
    unfold rd xk
    rw [ex_kf]
end Go.Proofs.Ytgcbfamlediafaa
