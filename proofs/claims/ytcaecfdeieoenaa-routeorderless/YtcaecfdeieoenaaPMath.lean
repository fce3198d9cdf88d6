import Derived.Test.YtcaecfdeieoenaaSMath
namespace Go.Proofs.Ytcaecfdeieoenaa
set_option linter.unusedVariables false

/-! Addresses as numbers. -/
/-- How many bits an address of the family has. -/
def nb (F : Int) : Nat := if F = 4 then 32 else if F = 6 then 128 else 0
/-- The address as one number. -/
def ad (H L : Int) : Int := H * 18446744073709551616 + L
def va (F H L : Int) : Bool := decide (F = 6 ∨ (F = 4 ∧ H = 0 ∧ L < 4294967296))
/-- The numbers of a uint64. -/
def InU (x : Int) : Prop := 0 ≤ x ∧ x ≤ 18446744073709551615
theorem va_in {F H L : Int} (h : va F H L = true) (hH : InU H) (hL : InU L) : (nb F = 32 ∨ nb F = 128) ∧ 0 ≤ ad H L ∧ ad H L < 2 ^ nb F := by
  have h := of_decide_eq_true (show decide _ = true from h)
  unfold InU at *
  unfold nb ad
  rcases h with rfl | ⟨rfl, rfl, h2⟩
  · rw [if_neg (by decide), if_pos rfl]
    have : (2 : Int) ^ 128 = 340282366920938463463374607431768211456 := by decide
    omega
  · rw [if_pos rfl]
    have : (2 : Int) ^ 32 = 4294967296 := by decide
    omega
/-- The i-th bit of a number of n bits. -/
def bt (n : Nat) (A : Int) (i : Nat) : Bool := decide (A / 2 ^ (n - 1 - i) % 2 = 1)
theorem pow_pos2 (m : Nat) : (0 : Int) < 2 ^ m := Int.pow_pos (by omega)
theorem emod_two (A : Int) (m : Nat) : A % 2 ^ (m + 1) = A / 2 ^ m % 2 * 2 ^ m + A % 2 ^ m := by
  have hp := pow_pos2 m
  have h1 := Int.mul_ediv_add_emod A (2 ^ m)
  have h2 := Int.mul_ediv_add_emod (A / 2 ^ m) 2
  have r0 := Int.emod_nonneg A (show (2 : Int) ^ m ≠ 0 by omega)
  have r1 := Int.emod_lt_of_pos A hp
  have q0 := Int.emod_nonneg (A / 2 ^ m) (show (2 : Int) ≠ 0 by omega)
  have q1 := Int.emod_lt_of_pos (A / 2 ^ m) (show (0 : Int) < 2 by omega)
  rw [Int.pow_succ]
  generalize (2 : Int) ^ m = p at *
  generalize A / p = q at *
  generalize A % p = r at *
  generalize q / 2 = u at *
  generalize q % 2 = v at *
  have e : A = (v * p + r) + (p * 2) * u := by
    rw [← h1, ← h2, Int.mul_add, Int.mul_assoc, Int.mul_comm p v, ← Int.mul_assoc]; omega
  have b1 : v * p + r < p * 2 := by
    have : v * p ≤ 1 * p := Int.mul_le_mul_of_nonneg_right (by omega) (by omega)
    omega
  have b0 : 0 ≤ v * p + r := by have := Int.mul_nonneg q0 (Int.le_of_lt hp); omega
  rw [e, Int.add_mul_emod_self_left, Int.emod_eq_of_lt b0 b1]
theorem ediv_two (A : Int) (m : Nat) : A / 2 ^ m = A / 2 ^ (m + 1) * 2 + A / 2 ^ m % 2 := by
  have h2 := Int.mul_ediv_add_emod (A / 2 ^ m) 2
  have e : A / 2 ^ (m + 1) = A / 2 ^ m / 2 := by rw [Int.pow_succ, Int.ediv_ediv_of_nonneg (Int.le_of_lt (pow_pos2 m))]
  rw [e]
  omega
/-- No bit from b on. -/
theorem tail_zero (n : Nat) (A : Int) : ∀ (c b : Nat), n - b = c → b ≤ n → ((∀ i, b ≤ i → i < n → bt n A i = false) ↔ A % 2 ^ (n - b) = 0) := by
  intro c
  induction c with
  | zero =>
    intro b hc hb
    obtain rfl : b = n := by omega
    rw [hc]
    refine ⟨fun _ => by rw [show (2 : Int) ^ 0 = 1 from rfl]; exact Int.emod_one A, fun _ i h1 h2 => by omega⟩
  | succ c ih =>
    intro b hc hb
    have hn := ih (b + 1) (by omega) (by omega)
    rw [show n - (b + 1) = c from by omega] at hn
    rw [hc, emod_two]
    have hp := pow_pos2 c
    have r0 := Int.emod_nonneg A (show (2 : Int) ^ c ≠ 0 by omega)
    have q : A / 2 ^ c % 2 = 0 ∨ A / 2 ^ c % 2 = 1 := by omega
    have hbt : bt n A b = decide (A / 2 ^ c % 2 = 1) := by unfold bt; rw [show n - 1 - b = c from by omega]
    constructor
    · intro h
      have h0 := h b (Nat.le_refl _) (by omega)
      rw [hbt] at h0
      have h0 := of_decide_eq_false h0
      have h1 := hn.1 (fun i h1 h2 => h i (by omega) h2)
      rcases q with q | q
      · rw [q, h1]; omega
      · exact absurd q h0
    · intro h
      have hq : A / 2 ^ c % 2 = 0 := by
        rcases q with q | q
        · exact q
        · rw [q] at h; omega
      rw [hq] at h
      have h1 : A % 2 ^ c = 0 := by omega
      intro i h2 h3
      by_cases e : i = b
      · rw [e, hbt, hq]; decide
      · exact hn.2 h1 i (by omega) h3
/-- The first b bits of both alike. -/
theorem head_same (n : Nat) (A A' : Int) (hA : 0 ≤ A ∧ A < 2 ^ n) (hA' : 0 ≤ A' ∧ A' < 2 ^ n) : ∀ b, b ≤ n → ((∀ i, i < b → bt n A i = bt n A' i) ↔ A / 2 ^ (n - b) = A' / 2 ^ (n - b)) := by
  intro b
  induction b with
  | zero =>
    intro _
    rw [Nat.sub_zero, Int.ediv_eq_zero_of_lt hA.1 hA.2, Int.ediv_eq_zero_of_lt hA'.1 hA'.2]
    exact ⟨fun _ => rfl, fun _ i h => by omega⟩
  | succ b ih =>
    intro hb
    have h0 := ih (by omega)
    obtain ⟨c, hc⟩ : ∃ c, n - (b + 1) = c := ⟨_, rfl⟩
    rw [show n - b = c + 1 from by omega] at h0
    rw [hc, ediv_two A c, ediv_two A' c]
    have e1 : bt n A b = decide (A / 2 ^ c % 2 = 1) := by unfold bt; rw [show n - 1 - b = c from by omega]
    have e2 : bt n A' b = decide (A' / 2 ^ c % 2 = 1) := by unfold bt; rw [show n - 1 - b = c from by omega]
    have q1 : A / 2 ^ c % 2 = 0 ∨ A / 2 ^ c % 2 = 1 := by omega
    have q2 : A' / 2 ^ c % 2 = 0 ∨ A' / 2 ^ c % 2 = 1 := by omega
    constructor
    · intro h
      have h1 := h0.1 (fun i hi => h i (by omega))
      have h2 := h b (by omega)
      rw [e1, e2] at h2
      have h2 := decide_eq_decide.1 h2
      rw [h1]
      generalize A / 2 ^ c % 2 = x at *
      generalize A' / 2 ^ c % 2 = y at *
      omega
    · intro h i hi
      have hq : A / 2 ^ c % 2 = A' / 2 ^ c % 2 ∧ A / 2 ^ (c + 1) = A' / 2 ^ (c + 1) := by
        generalize A / 2 ^ c % 2 = x at *
        generalize A' / 2 ^ c % 2 = y at *
        generalize A / 2 ^ (c + 1) = u at *
        generalize A' / 2 ^ (c + 1) = v at *
        omega
      by_cases e : i = b
      · rw [e, e1, e2, hq.1]
      · exact h0.2 hq.2 i (by omega)
/-- A prefix. -/
def vp (F H L B : Int) : Bool := va F H L && decide (0 ≤ B ∧ B ≤ nb F ∧ ad H L % 2 ^ (nb F - B.toNat) = 0)
/-- Does it hold this address? -/
def ho (F H L B F' H' L' : Int) : Bool := vp F H L B && (va F' H' L' && decide (F = F' ∧ ad H L / 2 ^ (nb F - B.toNat) = ad H' L' / 2 ^ (nb F - B.toNat)))
def od (a b : Int) : Int := if a < b then -1 else if b < a then 1 else 0
def cp (F H L B F' H' L' B' : Int) : Int := if F ≠ F' then od F F' else if B ≠ B' then od B B' else if H ≠ H' then od H H' else od L L'
/-- An address's bytes, a prefix's bytes. -/
def pa (F H L : Int) : List Int := if va F H L then be (nb F / 8) (ad H L) else []
def pp (F H L B : Int) : List Int := if vp F H L B then F :: B :: pa F H L else []
theorem pa_byte (F H L : Int) : ∀ z ∈ pa F H L, 0 ≤ z ∧ z ≤ 255 := by
  intro z hz
  unfold pa at hz
  split at hz
  · exact be_byte _ _ z hz
  · simp at hz
theorem vp_in {F H L B : Int} (h : vp F H L B = true) : va F H L = true ∧ 0 ≤ B ∧ B ≤ nb F ∧ ad H L % 2 ^ (nb F - B.toNat) = 0 := by
  unfold vp at h
  rw [Bool.and_eq_true] at h
  exact ⟨h.1, of_decide_eq_true h.2⟩
theorem nb_le (F : Int) : nb F ≤ 128 := by
  unfold nb
  split
  · decide
  · split <;> decide
theorem pp_byte (F H L B : Int) : ∀ z ∈ pp F H L B, 0 ≤ z ∧ z ≤ 255 := by
  intro z hz
  unfold pp at hz
  split at hz
  · rename_i h
    obtain ⟨h1, h2, h3, _⟩ := vp_in h
    have hn := nb_le F
    have hF := of_decide_eq_true (show decide _ = true from h1)
    rcases List.mem_cons.1 hz with rfl | hz
    · omega
    · rcases List.mem_cons.1 hz with rfl | hz
      · omega
      · exact pa_byte _ _ _ z hz
  · simp at hz
theorem pa_length (F H L : Int) : (pa F H L).length = if va F H L then nb F / 8 else 0 := by
  unfold pa
  split
  · rw [be_length]
  · rfl
end Go.Proofs.Ytcaecfdeieoenaa
