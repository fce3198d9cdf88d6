import Derived.Test.YtjaecokhocbdlaaWide
namespace Go.Proofs.Ytjaecokhocbdlaa
open Go.RowKit
set_option linter.unusedVariables false

/-- The bytes of the first k numbers. -/
def enc (X : Nat → Int) (F : Nat → Nat) : Nat → List Int
  | 0 => []
  | k + 1 => enc X F k ++ be (F k) (X k)
/-- How many they are. -/
def En (F : Nat → Nat) : Nat → Nat
  | 0 => 0
  | k + 1 => En F k + F k
theorem enc_length (X : Nat → Int) (F : Nat → Nat) (k : Nat) : (enc X F k).length = En F k := by
  induction k with
  | zero => rfl
  | succ k ih => simp [enc, En, ih, be_length]
theorem enc_byte (X : Nat → Int) (F : Nat → Nat) (k : Nat) : ∀ z ∈ enc X F k, 0 ≤ z ∧ z ≤ 255 := by
  induction k with
  | zero => intro z hz; simp [enc] at hz
  | succ k ih =>
    intro z hz
    rcases List.mem_append.1 hz with h | h
    · exact ih z h
    · exact be_byte _ _ z h
theorem En_le (F : Nat → Nat) (hF : ∀ i, F i ≤ 8) (k : Nat) : En F k ≤ 8 * k := by
  induction k with
  | zero => simp [En]
  | succ k ih => simp only [En]; have := hF k; omega
theorem En_mono (F : Nat → Nat) {k N : Nat} (h : k ≤ N) : En F k ≤ En F N := by
  induction N with
  | zero => have : k = 0 := by omega
            subst this; exact Nat.le_refl _
  | succ N ih =>
    by_cases e : k = N + 1
    · subst e; exact Nat.le_refl _
    · have := ih (by omega); simp only [En]; omega
theorem enc_prefix (X : Nat → Int) (F : Nat → Nat) {k N : Nat} (h : k ≤ N) : ∃ r, enc X F N = enc X F k ++ r := by
  induction N with
  | zero => have : k = 0 := by omega
            subst this; exact ⟨[], by simp⟩
  | succ N ih =>
    by_cases e : k = N + 1
    · subst e; exact ⟨[], by simp⟩
    · obtain ⟨r, hr⟩ := ih (by omega)
      exact ⟨r ++ be (F N) (X N), by rw [enc, hr, List.append_assoc]⟩
theorem enc_at (X : Nat → Int) (F : Nat → Nat) {k N C : Nat} (h : k < N) (hC : En F (k + 1) ≤ C) : (((enc X F N).take C).drop (En F k)).take (F k) = be (F k) (X k) := by
  obtain ⟨r, hr⟩ := enc_prefix X F (show k + 1 ≤ N from h)
  rw [List.drop_take, List.take_take, hr, enc]
  have e : En F (k + 1) = En F k + F k := rfl
  rw [Nat.min_eq_left (by omega), List.append_assoc, ← enc_length X F k, List.drop_left]
  rw [List.take_append_of_le_length (by rw [be_length]; exact Nat.le_refl _), List.take_of_length_le (by rw [be_length]; exact Nat.le_refl _)]
theorem enc_rest_length (X : Nat → Int) (F : Nat → Nat) {k N C : Nat} (h : k ≤ N) (hC : C ≤ En F N) : (((enc X F N).take C).drop (En F k)).length = C - En F k := by
  rw [List.length_drop, List.length_take, enc_length, Nat.min_eq_left hC]

theorem fold_val (l : List Int) : ∀ x : Int, l.foldl (fun x b => x * 256 + b) x = x * 256 ^ l.length + val l := by
  induction l with
  | nil => intro x; simp [val]
  | cons b l ih =>
    intro x
    have e : val (b :: l) = b * 256 ^ l.length + val l := by
      show List.foldl _ (0 * 256 + b) l = _
      rw [ih]; simp
    rw [List.foldl_cons, ih, e, List.length_cons, Int.pow_succ, Int.add_mul, Int.mul_assoc, Int.mul_comm 256, Int.add_assoc]
theorem val_cons (b : Int) (l : List Int) : val (b :: l) = b * 256 ^ l.length + val l := by
  show List.foldl _ (0 * 256 + b) l = _
  rw [fold_val]; simp
theorem emod_step (x m : Int) (hm : 0 < m) : x / m % 256 * m + x % m = x % (m * 256) := by
  have h1 := Int.mul_ediv_add_emod x m
  have h2 := Int.mul_ediv_add_emod (x / m) 256
  have r0 := Int.emod_nonneg x (show m ≠ 0 by omega)
  have r1 := Int.emod_lt_of_pos x hm
  have q0 := Int.emod_nonneg (x / m) (show (256 : Int) ≠ 0 by omega)
  have q1 := Int.emod_lt_of_pos (x / m) (show (0 : Int) < 256 by omega)
  generalize x / m = q at *
  generalize x % m = r at *
  generalize q / 256 = u at *
  generalize q % 256 = v at *
  have e : x = (v * m + r) + (m * 256) * u := by
    rw [← h1, ← h2, Int.mul_add, Int.mul_assoc, Int.mul_comm m v, ← Int.mul_assoc]; omega
  have b1 : v * m + r < m * 256 := by
    have : v * m ≤ 255 * m := Int.mul_le_mul_of_nonneg_right (by omega) (by omega)
    omega
  have b0 : 0 ≤ v * m + r := by have := Int.mul_nonneg q0 (Int.le_of_lt hm); omega
  rw [e, Int.add_mul_emod_self_left, Int.emod_eq_of_lt b0 b1]
theorem val_be (w : Nat) (x : Int) : val (be w x) = x % 256 ^ w := by
  induction w with
  | zero => simp [be, val]
  | succ w ih => rw [be, val_cons, be_length, ih, Int.pow_succ]; exact emod_step x _ (Int.pow_pos (by omega))
end Go.Proofs.Ytjaecokhocbdlaa
