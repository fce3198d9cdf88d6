import Derived.Test.YtbdkmjjjafbaoaaV0
namespace Go.Proofs.Ytbdkmjjjafbaoaa
open Go.RowKit
set_option linter.unusedVariables false
set_option maxRecDepth 100000

theorem ret_bool {a b : Bool} (h : a = b) : Ending.returned (.bool a) = .returned (.bool b) := by rw [h]
set_option maxHeartbeats 400000 in
theorem rises_ (p : Nat) (F W t : Int) (h : Bool) (g n : Nat) (c : Int) (w : World) (k : Wm w p F W t h g n) (hc : u64r c) (ht : u64r t) :
    Calls Try.prog 23 #[.pointer (some ⟨p, 0, none⟩), .int .u64 c] w fun e w' => e = .returned (.bool (!h || decide (t < c))) ∧ w' = w := by
  have c2 := k.c2
  have c3 := k.c3
  clear k
  unfold u64r at hc ht
  cases h with
  | false =>
    go_enter Try.func23, Try.ntmps23
    go_wp2_with fail
    go_ret
    exact ⟨rfl, rfl⟩
  | true =>
    go_enter Try.func23, Try.ntmps23
    go_wp2_with fail
    go_ret
    exact ⟨ret_bool (by simp), rfl⟩
set_option maxHeartbeats 400000 in
theorem floor_ (p : Nat) (F W t : Int) (h : Bool) (g n : Nat) (w : World) (k : Wm w p F W t h g n) :
    Calls Try.prog 15 #[.pointer (some ⟨p, 0, none⟩)] w fun e w' => e = .returned (.int .u64 F) ∧ w' = w := by
  have c0 := k.c0
  clear k
  go_enter Try.func15, Try.ntmps15
  go_wp2_with fail
  go_ret
  exact ⟨rfl, rfl⟩
set_option maxHeartbeats 400000 in
theorem top_ (p : Nat) (F W t : Int) (h : Bool) (g n : Nat) (w : World) (k : Wm w p F W t h g n) :
    Calls Try.prog 13 #[.pointer (some ⟨p, 0, none⟩)] w fun e w' => e = .returned (.tuple #[.int .u64 t, .bool h]) ∧ ∃ nq, w' = w.drewN nq := by
  have c2 := k.c2
  have c3 := k.c3
  clear k
  go_enter Try.func13, Try.ntmps13
  go_wp2_with fail
  go_quiet (fail)
  go_wp2_with fail
  go_ret2
  exact ⟨rfl, _, rfl⟩
theorem bit_ (c : Int) (w : World) (hc : u64r c) :
    Calls Try.prog 25 #[.int .u64 c] w fun e w' => e = .returned (.int .u64 ((2 ^ (c % 64).toNat : Nat) : Int)) ∧ w' = w := by
  unfold u64r at hc
  go_enter Try.func25, Try.ntmps25
  go_wp2_with fail
  go_ret
  refine ⟨?_, rfl⟩
  have e : IntKind.u64.wrap ((2 : Int) ^ (c % 64).toNat) = ((2 ^ (c % 64).toNat : Nat) : Int) := by
    have h2 : 2 ^ (c % 64).toNat < 2 ^ 64 := Nat.pow_lt_pow_right (by decide) (by omega)
    have h3 : ((2 : Int) ^ (c % 64).toNat) = ((2 ^ (c % 64).toNat : Nat) : Int) := by simp
    rw [h3]
    generalize 2 ^ (c % 64).toNat = z at h2
    simp [IntKind.wrap, IntKind.bits, IntKind.signed]
    omega
  rw [← e]
  rfl
set_option maxHeartbeats 400000 in
theorem word_ (p : Nat) (F W t : Int) (h : Bool) (g m : Nat) (q : Int) (w : World) (k : Wm w p F W t h g (m + 1)) (hm : m ≤ 16) (hq : u64r q) :
    Calls Try.prog 24 #[.pointer (some ⟨p, 0, none⟩), .int .u64 q] w fun e w' => e = .returned (.pointer (some ⟨g, wix m q, none⟩)) ∧ ∃ nq, w' = w.drewN nq := by
  have c4 := k.c4
  clear k
  unfold u64r at hq
  obtain ⟨n, hn⟩ : ∃ n, m + 1 = n := ⟨_, rfl⟩
  have hn1 : 1 ≤ n := by omega
  have hn2 : n ≤ 17 := by omega
  have hw : IntKind.u64.wrap (n : Int) = n := by simp [IntKind.wrap, IntKind.bits, IntKind.signed]; omega
  have hn0 : ¬ n = 0 := by omega
  rw [hn] at c4
  have hK := wix_lt m q
  have hKq : q.tmod (n : Int) = ((wix m q : Nat) : Int) := by
    rw [Int.tmod_eq_emod_of_nonneg hq.1]
    have h0 := Int.emod_nonneg q (show (n : Int) ≠ 0 by omega)
    unfold wix
    rw [hn]
    omega
  obtain ⟨K, hKe⟩ : ∃ K, wix m q = K := ⟨_, rfl⟩
  rw [hKe] at hK hKq ⊢
  rw [hn] at hK
  have hKI : (K : Int) < n := by omega
  clear hKe hn
  go_enter Try.func24, Try.ntmps24
  go_wp2_with fail
  go_quiet (fail)
  go_wp2_with fail
  go_ret
  exact ⟨by simp, _, rfl⟩
end Go.Proofs.Ytbdkmjjjafbaoaa
