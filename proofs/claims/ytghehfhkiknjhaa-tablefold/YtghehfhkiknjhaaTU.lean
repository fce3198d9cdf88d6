import Derived.Test.YtghehfhkiknjhaaTQ
namespace Go.Proofs.Ytghehfhkiknjhaa
set_option maxRecDepth 100000
set_option linter.unusedVariables false

theorem bez (a b : Nat) : ∃ x y : Int, (a : Int) * x + b * y = Nat.gcd a b := by
  induction a, b using Nat.gcd.induction with
  | H0 n => exact ⟨0, 1, by simp⟩
  | H1 m n hm ih =>
    obtain ⟨x, y, h⟩ := ih
    refine ⟨y - (n / m : Nat) * x, x, ?_⟩
    rw [Nat.gcd_rec, ← h]
    have e : ((n % m : Nat) : Int) = n - m * (n / m : Nat) := by
      have := Nat.div_add_mod n m
      rw [← Int.natCast_mul]
      omega
    rw [e]
    grind
theorem meets {n s f j : Nat} (hg : Nat.gcd s n = 1) (hj : j < n) : ∃ i, i < n ∧ (f + i * s) % n = j := by
  obtain ⟨x, y, h⟩ := bez s n
  rw [hg] at h
  have hn : (0 : Int) < n := by omega
  obtain ⟨q, hq⟩ : ∃ q, q = (((j : Int) - f) * x) / n := ⟨_, rfl⟩
  obtain ⟨r, hr⟩ : ∃ r, r = (((j : Int) - f) * x) % n := ⟨_, rfl⟩
  have hd := Int.mul_ediv_add_emod (((j : Int) - f) * x) n
  rw [← hq, ← hr] at hd
  have h0 : 0 ≤ r := by rw [hr]; exact Int.emod_nonneg _ (by omega)
  have h1 : r < n := by rw [hr]; exact Int.emod_lt_of_pos _ hn
  refine ⟨r.toNat, by omega, ?_⟩
  have hi : ((r.toNat : Nat) : Int) = r := Int.toNat_of_nonneg h0
  have key : ((f + r.toNat * s : Nat) : Int) = j + n * (-(((j : Int) - f) * y) - q * s) := by
    rw [Int.natCast_add, Int.natCast_mul, hi]
    grind
  have e : (((f + r.toNat * s) % n : Nat) : Int) = j := by
    rw [Int.natCast_emod, key, Int.add_mul_emod_self_left, Int.emod_eq_of_lt (by omega) (by omega)]
  omega
theorem doAll_turned {M : Tab} (hM : Srt M) {l : List Sx} (h1 : ∀ s ∈ l, s ∈ asS M) (h2 : ∀ s ∈ asS M, s ∈ l) : doAll [] l = M := by
  refine tab_ext (srt_doAll List.Pairwise.nil) hM fun k => ?_
  rw [look_doAll l List.Pairwise.nil k]
  cases h : lastS l k with
  | none =>
    show none = look M k
    cases e : look M k with
    | none => rfl
    | some v =>
      have hm : (⟨k, v, false⟩ : Sx) ∈ asS M := List.mem_map.2 ⟨(k, v), look_mem e, rfl⟩
      exact absurd rfl (lastS_none h _ (h2 _ hm))
  | some s =>
    obtain ⟨hs, hk⟩ := lastS_mem h
    obtain ⟨p, hp, rfl⟩ := List.mem_map.1 (h1 s hs)
    simp only at hk
    subst hk
    show (if (false : Bool) = true then none else some p.2) = _
    rw [if_neg (by decide)]
    exact (mem_look hM hp).symm
end Go.Proofs.Ytghehfhkiknjhaa
