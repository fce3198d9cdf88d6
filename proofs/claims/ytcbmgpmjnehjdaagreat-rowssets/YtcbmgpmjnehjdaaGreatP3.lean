import Derived.Test.YtcbmgpmjnehjdaaGreatSMath
import Derived.Test.YtcbmgpmjnehjdaaGreatRL
import Derived.Laws.Concat
import Derived.WideShapes
import Derived.Laws.ResultCell
import Derived.Laws.Tables
import Derived.Laws.Bits64b
namespace Go.Proofs.YtcbmgpmjnehjdaaGreat
set_option maxRecDepth 100000
set_option linter.unusedVariables false

/-! Addresses as numbers. -/
/-- How many bits an address of the family has. -/
def nb (F : Int) : Nat := if F = 4 then 32 else if F = 6 then 128 else 0
/-- The address as one number. -/
def ad (H L : Int) : Int := H * 18446744073709551616 + L
def va (F H L : Int) : Bool := decide (F = 6 ∨ (F = 4 ∧ H = 0 ∧ L < 4294967296))
/-- The numbers of a uint64. -/
def InU (x : Int) : Prop := 0 ≤ x ∧ x ≤ 18446744073709551615
theorem va_in {F H L : Int} (h : va F H L = true) (hH : InU H) (hL : InU L) : (nb F = 32 ∨ nb F = 128) ∧ 0 ≤ ad H L ∧ ad H L < 2 ^ nb F := by
  have h := of_decide_eq_true (show decide _ = true from h)
  unfold InU at *
  unfold nb ad
  rcases h with rfl | ⟨rfl, rfl, h2⟩
  · rw [if_neg (by decide), if_pos rfl]
    have : (2 : Int) ^ 128 = 340282366920938463463374607431768211456 := by decide
    omega
  · rw [if_pos rfl]
    have : (2 : Int) ^ 32 = 4294967296 := by decide
    omega
/-- The i-th bit of a number of n bits. -/
def bt (n : Nat) (A : Int) (i : Nat) : Bool := decide (A / 2 ^ (n - 1 - i) % 2 = 1)
theorem pow_pos2 (m : Nat) : (0 : Int) < 2 ^ m := Int.pow_pos (by omega)
theorem emod_two (A : Int) (m : Nat) : A % 2 ^ (m + 1) = A / 2 ^ m % 2 * 2 ^ m + A % 2 ^ m := by
  have hp := pow_pos2 m
  have h1 := Int.mul_ediv_add_emod A (2 ^ m)
  have h2 := Int.mul_ediv_add_emod (A / 2 ^ m) 2
  have r0 := Int.emod_nonneg A (show (2 : Int) ^ m ≠ 0 by omega)
  have r1 := Int.emod_lt_of_pos A hp
  have q0 := Int.emod_nonneg (A / 2 ^ m) (show (2 : Int) ≠ 0 by omega)
  have q1 := Int.emod_lt_of_pos (A / 2 ^ m) (show (0 : Int) < 2 by omega)
  rw [Int.pow_succ]
  generalize (2 : Int) ^ m = p at *
  generalize A / p = q at *
  generalize A % p = r at *
  generalize q / 2 = u at *
  generalize q % 2 = v at *
  have e : A = (v * p + r) + (p * 2) * u := by
    rw [← h1, ← h2, Int.mul_add, Int.mul_assoc, Int.mul_comm p v, ← Int.mul_assoc]; omega
  have b1 : v * p + r < p * 2 := by
    have : v * p ≤ 1 * p := Int.mul_le_mul_of_nonneg_right (by omega) (by omega)
    omega
  have b0 : 0 ≤ v * p + r := by have := Int.mul_nonneg q0 (Int.le_of_lt hp); omega
  rw [e, Int.add_mul_emod_self_left, Int.emod_eq_of_lt b0 b1]
theorem ediv_two (A : Int) (m : Nat) : A / 2 ^ m = A / 2 ^ (m + 1) * 2 + A / 2 ^ m % 2 := by
  have h2 := Int.mul_ediv_add_emod (A / 2 ^ m) 2
  have e : A / 2 ^ (m + 1) = A / 2 ^ m / 2 := by rw [Int.pow_succ, Int.ediv_ediv_of_nonneg (Int.le_of_lt (pow_pos2 m))]
  rw [e]
  omega
/-- No bit from b on. -/
theorem tail_zero (n : Nat) (A : Int) : ∀ (c b : Nat), n - b = c → b ≤ n → ((∀ i, b ≤ i → i < n → bt n A i = false) ↔ A % 2 ^ (n - b) = 0) := by
  intro c
  induction c with
  | zero =>
    intro b hc hb
    obtain rfl : b = n := by omega
    rw [hc]
    refine ⟨fun _ => by rw [show (2 : Int) ^ 0 = 1 from rfl]; exact Int.emod_one A, fun _ i h1 h2 => by omega⟩
  | succ c ih =>
    intro b hc hb
    have hn := ih (b + 1) (by omega) (by omega)
    rw [show n - (b + 1) = c from by omega] at hn
    rw [hc, emod_two]
    have hp := pow_pos2 c
    have r0 := Int.emod_nonneg A (show (2 : Int) ^ c ≠ 0 by omega)
    have q : A / 2 ^ c % 2 = 0 ∨ A / 2 ^ c % 2 = 1 := by omega
    have hbt : bt n A b = decide (A / 2 ^ c % 2 = 1) := by unfold bt; rw [show n - 1 - b = c from by omega]
    constructor
    · intro h
      have h0 := h b (Nat.le_refl _) (by omega)
      rw [hbt] at h0
      have h0 := of_decide_eq_false h0
      have h1 := hn.1 (fun i h1 h2 => h i (by omega) h2)
      rcases q with q | q
      · rw [q, h1]; omega
      · exact absurd q h0
    · intro h
      have hq : A / 2 ^ c % 2 = 0 := by
        rcases q with q | q
        · exact q
        · rw [q] at h; omega
      rw [hq] at h
      have h1 : A % 2 ^ c = 0 := by omega
      intro i h2 h3
      by_cases e : i = b
      · rw [e, hbt, hq]; decide
      · exact hn.2 h1 i (by omega) h3
/-- The first b bits of both alike. -/
theorem head_same (n : Nat) (A A' : Int) (hA : 0 ≤ A ∧ A < 2 ^ n) (hA' : 0 ≤ A' ∧ A' < 2 ^ n) : ∀ b, b ≤ n → ((∀ i, i < b → bt n A i = bt n A' i) ↔ A / 2 ^ (n - b) = A' / 2 ^ (n - b)) := by
  intro b
  induction b with
  | zero =>
    intro _
    rw [Nat.sub_zero, Int.ediv_eq_zero_of_lt hA.1 hA.2, Int.ediv_eq_zero_of_lt hA'.1 hA'.2]
    exact ⟨fun _ => rfl, fun _ i h => by omega⟩
  | succ b ih =>
    intro hb
    have h0 := ih (by omega)
    obtain ⟨c, hc⟩ : ∃ c, n - (b + 1) = c := ⟨_, rfl⟩
    rw [show n - b = c + 1 from by omega] at h0
    rw [hc, ediv_two A c, ediv_two A' c]
    have e1 : bt n A b = decide (A / 2 ^ c % 2 = 1) := by unfold bt; rw [show n - 1 - b = c from by omega]
    have e2 : bt n A' b = decide (A' / 2 ^ c % 2 = 1) := by unfold bt; rw [show n - 1 - b = c from by omega]
    have q1 : A / 2 ^ c % 2 = 0 ∨ A / 2 ^ c % 2 = 1 := by omega
    have q2 : A' / 2 ^ c % 2 = 0 ∨ A' / 2 ^ c % 2 = 1 := by omega
    constructor
    · intro h
      have h1 := h0.1 (fun i hi => h i (by omega))
      have h2 := h b (by omega)
      rw [e1, e2] at h2
      have h2 := decide_eq_decide.1 h2
      rw [h1]
      generalize A / 2 ^ c % 2 = x at *
      generalize A' / 2 ^ c % 2 = y at *
      omega
    · intro h i hi
      have hq : A / 2 ^ c % 2 = A' / 2 ^ c % 2 ∧ A / 2 ^ (c + 1) = A' / 2 ^ (c + 1) := by
        generalize A / 2 ^ c % 2 = x at *
        generalize A' / 2 ^ c % 2 = y at *
        generalize A / 2 ^ (c + 1) = u at *
        generalize A' / 2 ^ (c + 1) = v at *
        omega
      by_cases e : i = b
      · rw [e, e1, e2, hq.1]
      · exact h0.2 hq.2 i (by omega)
/-- A prefix. -/
def vp (F H L B : Int) : Bool := va F H L && decide (0 ≤ B ∧ B ≤ nb F ∧ ad H L % 2 ^ (nb F - B.toNat) = 0)
/-- Does it hold this address? -/
def ho (F H L B F' H' L' : Int) : Bool := vp F H L B && (va F' H' L' && decide (F = F' ∧ ad H L / 2 ^ (nb F - B.toNat) = ad H' L' / 2 ^ (nb F - B.toNat)))
def od (a b : Int) : Int := if a < b then -1 else if b < a then 1 else 0
def cp (F H L B F' H' L' B' : Int) : Int := if F ≠ F' then od F F' else if B ≠ B' then od B B' else if H ≠ H' then od H H' else od L L'
/-- An address's bytes, a prefix's bytes. -/
def pa (F H L : Int) : List Int := if va F H L then be (nb F / 8) (ad H L) else []
def pp (F H L B : Int) : List Int := if vp F H L B then F :: B :: pa F H L else []
theorem pa_byte (F H L : Int) : ∀ z ∈ pa F H L, 0 ≤ z ∧ z ≤ 255 := by
  intro z hz
  unfold pa at hz
  split at hz
  · exact be_byte _ _ z hz
  · simp at hz
theorem vp_in {F H L B : Int} (h : vp F H L B = true) : va F H L = true ∧ 0 ≤ B ∧ B ≤ nb F ∧ ad H L % 2 ^ (nb F - B.toNat) = 0 := by
  unfold vp at h
  rw [Bool.and_eq_true] at h
  exact ⟨h.1, of_decide_eq_true h.2⟩
theorem nb_le (F : Int) : nb F ≤ 128 := by
  unfold nb
  split
  · decide
  · split <;> decide
theorem pp_byte (F H L B : Int) : ∀ z ∈ pp F H L B, 0 ≤ z ∧ z ≤ 255 := by
  intro z hz
  unfold pp at hz
  split at hz
  · rename_i h
    obtain ⟨h1, h2, h3, _⟩ := vp_in h
    have hn := nb_le F
    have hF := of_decide_eq_true (show decide _ = true from h1)
    rcases List.mem_cons.1 hz with rfl | hz
    · omega
    · rcases List.mem_cons.1 hz with rfl | hz
      · omega
      · exact pa_byte _ _ _ z hz
  · simp at hz
theorem pa_length (F H L : Int) : (pa F H L).length = if va F H L then nb F / 8 else 0 := by
  unfold pa
  split
  · rw [be_length]
  · rfl
end Go.Proofs.YtcbmgpmjnehjdaaGreat
namespace Go.Proofs.YtcbmgpmjnehjdaaGreat
set_option maxRecDepth 100000
open Go.RowKit
set_option linter.unusedVariables false

/-- The numbers of an int. -/
def InI (x : Int) : Prop := -9223372036854775808 ≤ x ∧ x ≤ 9223372036854775807
end Go.Proofs.YtcbmgpmjnehjdaaGreat
namespace Go.Proofs.YtcbmgpmjnehjdaaGreat
set_option maxRecDepth 100000
open Go.RowKit
set_option linter.unusedVariables false

theorem anew (w : World) (F H L : Int) : Below w.heap.size w (w.alloc (.cells #[.int .i64 F, .int .u64 H, .int .u64 L] 119)) := (Below.refl _ _).alloc (Nat.le_refl _) _
theorem pnew (w : World) (F H L B : Int) : Below w.heap.size w (w.alloc (.cells #[.int .i64 F, .int .u64 H, .int .u64 L, .int .i64 B] 121)) := (Below.refl _ _).alloc (Nat.le_refl _) _
/-- An address in a variable; a prefix in a variable. -/
def Am (w : World) (g : Nat) (F H L : Int) : Prop := w.heap[g]? = some (.cells #[.int .i64 F, .int .u64 H, .int .u64 L] 119 (0, 0))
def Pm (w : World) (g : Nat) (F H L B : Int) : Prop := w.heap[g]? = some (.cells #[.int .i64 F, .int .u64 H, .int .u64 L, .int .i64 B] 121 (0, 0))
section
variable {w w' : World} {g : Nat} {F H L B : Int}
theorem Am.lt (h : Am w g F H L) : g < w.heap.size := (Array.getElem?_eq_some_iff.1 h).1
theorem Am.c0 (h : Am w g F H L) : w.cell? ⟨g, 0, none⟩ = some (.int .i64 F) := (cell_of_row w g 0 _ _ (0, 0) h).trans rfl
theorem Am.c1 (h : Am w g F H L) : w.cell? ⟨g, 1, none⟩ = some (.int .u64 H) := (cell_of_row w g 1 _ _ (0, 0) h).trans rfl
theorem Am.c2 (h : Am w g F H L) : w.cell? ⟨g, 2, none⟩ = some (.int .u64 L) := (cell_of_row w g 2 _ _ (0, 0) h).trans rfl
theorem Am.at (h : Am w g F H L) (e : w'.heap[g]? = w.heap[g]?) : Am w' g F H L := by unfold Am at *; rw [e]; exact h
theorem Am.kept (h : Am w g F H L) (hb : Below w.heap.size w w') : Am w' g F H L := h.at (hb.block g h.lt)
theorem Am.new (w : World) (F H L : Int) : Am (w.alloc (.cells #[.int .i64 F, .int .u64 H, .int .u64 L] 119)) w.heap.size F H L := heap_alloc_new w _
theorem Am.alloc (h : Am w g F H L) (o : Obj) : Am (w.alloc o) g F H L := h.at (Below.heap_alloc _ _ _ h.lt)
theorem Pm.lt (h : Pm w g F H L B) : g < w.heap.size := (Array.getElem?_eq_some_iff.1 h).1
theorem Pm.c0 (h : Pm w g F H L B) : w.cell? ⟨g, 0, none⟩ = some (.int .i64 F) := (cell_of_row w g 0 _ _ (0, 0) h).trans rfl
theorem Pm.c1 (h : Pm w g F H L B) : w.cell? ⟨g, 1, none⟩ = some (.int .u64 H) := (cell_of_row w g 1 _ _ (0, 0) h).trans rfl
theorem Pm.c2 (h : Pm w g F H L B) : w.cell? ⟨g, 2, none⟩ = some (.int .u64 L) := (cell_of_row w g 2 _ _ (0, 0) h).trans rfl
theorem Pm.c3 (h : Pm w g F H L B) : w.cell? ⟨g, 3, none⟩ = some (.int .i64 B) := (cell_of_row w g 3 _ _ (0, 0) h).trans rfl
theorem Pm.at (h : Pm w g F H L B) (e : w'.heap[g]? = w.heap[g]?) : Pm w' g F H L B := by unfold Pm at *; rw [e]; exact h
theorem Pm.kept (h : Pm w g F H L B) (hb : Below w.heap.size w w') : Pm w' g F H L B := h.at (hb.block g h.lt)
theorem Pm.new (w : World) (F H L B : Int) : Pm (w.alloc (.cells #[.int .i64 F, .int .u64 H, .int .u64 L, .int .i64 B] 121)) w.heap.size F H L B := heap_alloc_new w _
theorem Pm.alloc (h : Pm w g F H L B) (o : Obj) : Pm (w.alloc o) g F H L B := h.at (Below.heap_alloc _ _ _ h.lt)
end
theorem refBits_ (F : Int) (w : World) : Calls Tryz.prog 105 #[.int .i64 F] w fun e w' => e = .returned (.int .i64 (nb F)) ∧ w' = w := by
  by_cases h4 : F = 4
  · subst h4
    go_enter Tryz.func105, Tryz.ntmps105
    go_wp2_with fail
    go_ret
    exact ⟨rfl, rfl⟩
  · by_cases h6 : F = 6
    · subst h6
      go_enter Tryz.func105, Tryz.ntmps105
      go_wp2_with fail
      go_ret
      exact ⟨rfl, rfl⟩
    · have e : nb F = 0 := by unfold nb; rw [if_neg h4, if_neg h6]
      have e4 : (F == 4) = false := by simpa using h4
      have e6 : (F == 6) = false := by simpa using h6
      rw [e]
      clear e
      go_enter Tryz.func105, Tryz.ntmps105
      go_wp2_with fail
      go_ret
      exact ⟨rfl, rfl⟩
set_option maxHeartbeats 400000 in
theorem refValidAddr_ (F H L : Int) (w : World) (hL : InU L) :
    Calls Tryz.prog 141 #[.agg #[.int .i64 F, .int .u64 H, .int .u64 L]] w fun e w' => e = .returned (.bool (va F H L)) ∧ Below w.heap.size w w' := by
  have B0 := anew w F H L
  unfold InU at hL
  go_enter Tryz.func141, Tryz.ntmps141
  go_wp2_with fail
  all_goals
    go_ret
    refine ⟨ret_bool ?_, anew w _ _ _⟩
    unfold va
    first
      | exact (decide_eq_true (by simp_all)).symm
      | exact (decide_eq_false (by simp_all)).symm
      | exact decide_eq_decide.2 (by simp_all)
      | exact (decide_eq_true (by simp_all; omega)).symm
      | exact (decide_eq_false (by simp_all; omega)).symm
/-- Which of the two numbers a bit lies in. -/
theorem bt_hi {n i : Nat} {H L : Int} (hL : InU L) (h : 64 ≤ n - 1 - i) : bt n (ad H L) i = decide (H / 2 ^ (n - 1 - i - 64) % 2 = 1) := by
  unfold bt ad
  obtain ⟨k, hk⟩ : ∃ k, n - 1 - i = 64 + k := ⟨n - 1 - i - 64, by omega⟩
  rw [hk, Nat.add_sub_cancel_left]
  have e : (H * 18446744073709551616 + L) / 2 ^ (64 + k) = H / 2 ^ k := by
    rw [Int.pow_add, ← Int.ediv_ediv_of_nonneg (by decide)]
    have h1 : (H * 18446744073709551616 + L) / 2 ^ 64 = H := by
      unfold InU at hL
      have : (2 : Int) ^ 64 = 18446744073709551616 := by decide
      rw [this]
      omega
    rw [h1]
  rw [e]
theorem bt_lo {n i : Nat} {H L : Int} (h : n - 1 - i < 64) : bt n (ad H L) i = decide (L / 2 ^ (n - 1 - i) % 2 = 1) := by
  unfold bt ad
  generalize n - 1 - i = k at *
  obtain ⟨m, hm⟩ : ∃ m, 64 = k + (m + 1) := ⟨63 - k, by omega⟩
  have e : (H * 18446744073709551616 + L) / 2 ^ k = H * 2 ^ m * 2 + L / 2 ^ k := by
    have e1 : H * 18446744073709551616 = 2 ^ k * (H * 2 ^ m * 2) := by
      have : (18446744073709551616 : Int) = 2 ^ k * (2 ^ m * 2) := by
        rw [← Int.pow_succ, ← Int.pow_add, ← hm]
        decide
      rw [this, Int.mul_left_comm, Int.mul_assoc]
    rw [e1, Int.add_comm, Int.add_mul_ediv_left _ _ (by have := pow_pos2 k; omega), Int.add_comm]
  rw [e]
  refine decide_eq_decide.2 ?_
  omega
theorem and_one (x : Int) (h : InU x) : (bits BinOp.and .u64 x 1 == 1) = decide (x % 2 = 1) := by
  obtain ⟨a, rfl⟩ := Int.eq_ofNat_of_zero_le h.1
  have h2 := h.2
  have e := bits_and_u64_nat a 1 (by omega) (by omega)
  have e' : bits BinOp.and .u64 (a : Int) 1 = ((a % 2 : Nat) : Int) := by rw [← Nat.and_one_is_mod]; exact e
  rw [e', Bool.beq_eq_decide_eq]
  exact decide_eq_decide.2 (by omega)
theorem div_in {x : Int} (h : InU x) (k : Nat) : InU (x / 2 ^ k) := by
  have hp := pow_pos2 k
  exact ⟨Int.ediv_nonneg h.1 (by omega), Int.le_trans (Int.ediv_le_self _ h.1) h.2⟩
set_option maxHeartbeats 400000 in
theorem refBit_ (F H L : Int) (i : Nat) (w : World) (hL : InU L) (hH : InU H) (hn : nb F = 32 ∨ nb F = 128) (hi : i < nb F) :
    Calls Tryz.prog 142 #[.agg #[.int .i64 F, .int .u64 H, .int .u64 L], .int .i64 i] w fun e w' => e = .returned (.bool (bt (nb F) (ad H L) i)) ∧ Below w.heap.size w w' := by
  have B0 := anew w F H L
  have m0 := Am.new w F H L
  have h128 : nb F ≤ 128 := nb_le F
  have HH := hid (fun h => bt_hi (n := nb F) (i := i) (H := H) hL h)
  have HLo := hid (fun h => bt_lo (n := nb F) (i := i) (H := H) (L := L) h)
  have k1 := fun w => refBits_ F w
  generalize nb F = n at *
  have HA1 := hid (fun k => and_one _ (div_in hH k))
  have HA2 := hid (fun k => and_one _ (div_in hL k))
  unfold InU at hH hL
  have e1 : (n : Int) - 1 - (i : Int) = ((n - 1 - i : Nat) : Int) := by omega
  have hk : n - 1 - i < 128 := by omega
  clear hn
  obtain ⟨k, Hk⟩ : ∃ k, Hid (n - 1 - i = k) := ⟨_, rfl⟩
  rw [Hk.out] at e1 hk
  go_enter Tryz.func142, Tryz.ntmps142
  go_wp2_with fail
  refine (k1 _).mono ?_
  rintro e w1 ⟨rfl, rfl⟩
  by_cases h64 : 64 ≤ k
  · have hI : ¬ (k : Int) < 64 := by omega
    have hI2 : (64 : Int) ≤ (k : Int) := by omega
    have e2 : (k : Int) - 64 = ((k - 64 : Nat) : Int) := by omega
    have HX := hid (HH.out (by rw [Hk.out]; exact h64))
    rw [Hk.out] at HX
    obtain ⟨j, Hj⟩ : ∃ j, Hid (k - 64 = j) := ⟨_, rfl⟩
    rw [Hj.out] at e2 HX
    have hj : j < 64 := by have := Hj.out; omega
    clear h64
    go_wp2_with fail
    go_ret
    exact ⟨ret_bool (by rw [HX.out]; exact HA1.out j), B0⟩
  · have hI : (k : Int) < 64 := by omega
    have hI2 : ¬ (64 : Int) ≤ (k : Int) := by omega
    have HX := hid (HLo.out (by rw [Hk.out]; omega))
    rw [Hk.out] at HX
    clear h64
    go_wp2_with fail
    go_ret
    exact ⟨ret_bool (by rw [HX.out]; exact HA2.out k), B0⟩
end Go.Proofs.YtcbmgpmjnehjdaaGreat
namespace Go.Proofs.YtcbmgpmjnehjdaaGreat
set_option maxRecDepth 100000
open Go.RowKit
set_option linter.unusedVariables false

theorem va_out {F H L : Int} (h : va F H L = false) (B : Int) : vp F H L B = false := by unfold vp; rw [h]; rfl
theorem vp_iff {F H L B : Int} (h : va F H L = true) (hH : InU H) (hL : InU L) (b : Nat) (hb : B = b) (hn : b ≤ nb F) : vp F H L B = true ↔ ∀ i, b ≤ i → i < nb F → bt (nb F) (ad H L) i = false := by
  rw [tail_zero (nb F) (ad H L) _ b rfl hn]
  unfold vp
  rw [h, Bool.true_and, decide_eq_true_iff, hb, Int.toNat_natCast]
  constructor
  · exact fun h => h.2.2
  · exact fun h => ⟨by omega, by omega, h⟩
set_option maxHeartbeats 1000000 in
theorem rf7Valid_ (F H L B : Int) (w : World) (hH : InU H) (hL : InU L) (hB : InI B) :
    Calls Tryz.prog 107 #[.agg #[.int .i64 F, .int .u64 H, .int .u64 L, .int .i64 B]] w fun e w' => e = .returned (.bool (vp F H L B)) ∧ Below w.heap.size w w' := by
  have B0 := pnew w F H L B
  have m0 := Pm.new w F H L B
  have k1 := fun w => refValidAddr_ F H L w hL
  have k2 := fun w => refBits_ F w
  unfold InI at hB
  have c0 := m0.c0
  have c1 := m0.c1
  have c2 := m0.c2
  have c3 := m0.c3
  go_enter Tryz.func107, Tryz.ntmps107
  go_wp2_with fail
  clear c0 c1 c2 c3
  refine (k1 _).mono ?_
  rintro e w1 ⟨rfl, g2⟩
  replace m0 := m0.kept g2
  replace B0 := bel_bel B0 B0.size g2
  clear g2 k1
  have c0 := m0.c0
  have c1 := m0.c1
  have c2 := m0.c2
  have c3 := m0.c3
  go_wp2_with fail
  refine (k2 _).mono ?_
  rintro e w2 ⟨rfl, rfl⟩
  cases hv : va F H L with
  | false =>
    go_wp2_with fail
    go_ret
    exact ⟨ret_bool (va_out hv B).symm, B0⟩
  | true =>
    obtain ⟨hn, hA⟩ := va_in hv hH hL
    have HVI := hid (fun b hb hn => vp_iff (B := B) hv hH hL b hb hn)
    have k3 := fun i hi w => refBit_ F H L i w hL hH hn hi
    have HVN : Hid (¬ (0 ≤ B ∧ B ≤ nb F) → vp F H L B = false) := fun h => by
      unfold vp
      rw [decide_eq_false (fun h' => h ⟨h'.1, h'.2.1⟩), Bool.and_false]
    have hn128 := nb_le F
    generalize nb F = n at *
    by_cases hneg : B < 0
    · have HE := hid (HVN.out (by omega))
      go_wp2_with fail
      go_ret
      exact ⟨ret_bool HE.out.symm, B0⟩
    · by_cases hbig : (n : Int) < B
      · have HE := hid (HVN.out (by omega))
        go_wp2_with fail
        go_ret
        exact ⟨ret_bool HE.out.symm, B0⟩
      · obtain ⟨b, hb⟩ : ∃ b : Nat, B = b := ⟨B.toNat, by omega⟩
        subst hb
        have HV := hid (HVI.out b rfl (by omega))
        clear HVI HVN hneg
        have d1 : decide ((b : Int) < 0) = false := decide_eq_false (by omega)
        have d2 : decide ((n : Int) < (b : Int)) = false := decide_eq_false hbig
        have hbn : b ≤ n := by omega
        have d3 : decide (n < b) = false := decide_eq_false (by omega)
        clear hbig hB
        go_wp2_with fail
        clear c0 c1 c2 c3 d1 d2 d3
        go_loopw [5] (fun i wr => ∃ j : Nat, b ≤ j ∧ j ≤ n ∧ i = .int .i64 j ∧ Hid (∀ i, b ≤ i → i < j → bt n (ad H L) i = false) ∧ Pm wr w.heap.size F H L b ∧ Below w.heap.size w wr) (fun i _ => n - (intOf i).toNat)
        case atStart => exact ⟨b, Nat.le_refl _, by omega, rfl, fun i h1 h2 => by omega, m0, B0⟩
        case round =>
          clear m0 B0
          obtain ⟨j, hbj, hjn, rfl, HZ, m0, B0⟩ := hrel
          have c0 := m0.c0
          have c1 := m0.c1
          have c2 := m0.c2
          have c3 := m0.c3
          by_cases hlt : j < n
          · have hI : (j : Int) < (n : Int) := by omega
            have k4 := k3 j hlt
            go_wp2_with fail
            refine (k4 _).mono ?_
            rintro e w3 ⟨rfl, g2⟩
            replace m0 := m0.kept g2
            replace B0 := bel_bel B0 B0.size g2
            clear g2 c0 c1 c2 c3 k4
            cases hz : bt n (ad H L) j with
            | true =>
              have HE : Hid (vp F H L b = false) := by
                show _ = _
                cases h : vp F H L b with
                | false => rfl
                | true => rw [HV.out.1 h j hbj hlt] at hz; cases hz
              go_wp2_with fail
              go_ret
              exact ⟨ret_bool HE.out.symm, B0⟩
            | false =>
              have HZ2 : Hid (∀ i, b ≤ i → i < j + 1 → bt n (ad H L) i = false) := fun i h1 h2 => by
                by_cases e : i = j
                · rw [e]; exact hz
                · exact HZ.out i h1 (by omega)
              go_wp2_with fail
              go_roundw
              case rel => exact ⟨j + 1, by omega, by omega, by go_num, HZ2, m0, B0⟩
              case measure => simp [intOf]; omega
          · have hI : ¬ (j : Int) < (n : Int) := by omega
            have HE := hid (HV.out.2 (fun i h1 h2 => HZ.out i h1 (by omega)))
            go_wp2_with fail
            go_ret
            exact ⟨ret_bool HE.out.symm, B0⟩
end Go.Proofs.YtcbmgpmjnehjdaaGreat
namespace Go.Proofs.YtcbmgpmjnehjdaaGreat
set_option maxRecDepth 100000
open Go.RowKit
set_option linter.unusedVariables false

theorem panew (w : World) (F H L B F' H' L' : Int) : Below w.heap.size w ((w.alloc (.cells #[.int .i64 F, .int .u64 H, .int .u64 L, .int .i64 B] 121)).alloc (.cells #[.int .i64 F', .int .u64 H', .int .u64 L'] 119)) ∧ Pm ((w.alloc (.cells #[.int .i64 F, .int .u64 H, .int .u64 L, .int .i64 B] 121)).alloc (.cells #[.int .i64 F', .int .u64 H', .int .u64 L'] 119)) w.heap.size F H L B ∧ Am ((w.alloc (.cells #[.int .i64 F, .int .u64 H, .int .u64 L, .int .i64 B] 121)).alloc (.cells #[.int .i64 F', .int .u64 H', .int .u64 L'] 119)) (w.heap.size + 1) F' H' L' := by
  refine ⟨(pnew w F H L B).alloc (by simp) _, (Pm.new w F H L B).alloc _, ?_⟩
  have := Am.new (w.alloc (.cells #[.int .i64 F, .int .u64 H, .int .u64 L, .int .i64 B] 121)) F' H' L'
  simpa using this
theorem ho_bad {F H L B F' H' L' : Int} (h : vp F H L B = false ∨ va F' H' L' = false ∨ F ≠ F') : ho F H L B F' H' L' = false := by
  unfold ho
  rcases h with h | h | h
  · rw [h]; rfl
  · rw [h, Bool.false_and, Bool.and_false]
  · rw [decide_eq_false (fun h' => h h'.1), Bool.and_false, Bool.and_false]
theorem ho_iff {F H L B H' L' : Int} (h : vp F H L B = true) (h' : va F H' L' = true) (hH : InU H) (hL : InU L) (hH' : InU H') (hL' : InU L') (b : Nat) (hb : B = b) : ho F H L B F H' L' = true ↔ ∀ i, i < b → bt (nb F) (ad H L) i = bt (nb F) (ad H' L') i := by
  obtain ⟨h1, h2, h3, _⟩ := vp_in h
  rw [head_same (nb F) _ _ (va_in h1 hH hL).2 (va_in h' hH' hL').2 b (by omega)]
  unfold ho
  rw [h, h', Bool.true_and, Bool.true_and, decide_eq_true_iff, hb, Int.toNat_natCast]
  exact ⟨fun h => h.2, fun h => ⟨rfl, h⟩⟩
end Go.Proofs.YtcbmgpmjnehjdaaGreat
