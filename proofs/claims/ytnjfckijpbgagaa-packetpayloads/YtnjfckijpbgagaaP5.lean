import Derived.Test.YtnjfckijpbgagaaPTxt
import Derived.Deep.RegionHeld
namespace Go.Proofs.Ytnjfckijpbgagaa
set_option maxRecDepth 100000
open Go.RowKit
set_option linter.unusedVariables false

theorem anew (w : World) (F H L : Int) : Below w.heap.size w (w.alloc (.cells #[.int .i64 F, .int .u64 H, .int .u64 L] 43)) := (Below.refl _ _).alloc (Nat.le_refl _) _
theorem pnew (w : World) (F H L B : Int) : Below w.heap.size w (w.alloc (.cells #[.int .i64 F, .int .u64 H, .int .u64 L, .int .i64 B] 112)) := (Below.refl _ _).alloc (Nat.le_refl _) _
/-- An address in a variable; a prefix in a variable. -/
def Am (w : World) (g : Nat) (F H L : Int) : Prop := w.heap[g]? = some (.cells #[.int .i64 F, .int .u64 H, .int .u64 L] 43 (0, 0))
def Pm (w : World) (g : Nat) (F H L B : Int) : Prop := w.heap[g]? = some (.cells #[.int .i64 F, .int .u64 H, .int .u64 L, .int .i64 B] 112 (0, 0))
section
variable {w w' : World} {g : Nat} {F H L B : Int}
theorem Am.lt (h : Am w g F H L) : g < w.heap.size := (Array.getElem?_eq_some_iff.1 h).1
theorem Am.c0 (h : Am w g F H L) : w.cell? ⟨g, 0, none⟩ = some (.int .i64 F) := (cell_of_row w g 0 _ _ (0, 0) h).trans rfl
theorem Am.c1 (h : Am w g F H L) : w.cell? ⟨g, 1, none⟩ = some (.int .u64 H) := (cell_of_row w g 1 _ _ (0, 0) h).trans rfl
theorem Am.c2 (h : Am w g F H L) : w.cell? ⟨g, 2, none⟩ = some (.int .u64 L) := (cell_of_row w g 2 _ _ (0, 0) h).trans rfl
theorem Am.at (h : Am w g F H L) (e : w'.heap[g]? = w.heap[g]?) : Am w' g F H L := by unfold Am at *; rw [e]; exact h
theorem Am.kept (h : Am w g F H L) (hb : Below w.heap.size w w') : Am w' g F H L := h.at (hb.block g h.lt)
theorem Am.new (w : World) (F H L : Int) : Am (w.alloc (.cells #[.int .i64 F, .int .u64 H, .int .u64 L] 43)) w.heap.size F H L := heap_alloc_new w _
theorem Am.alloc (h : Am w g F H L) (o : Obj) : Am (w.alloc o) g F H L := h.at (Below.heap_alloc _ _ _ h.lt)
theorem Pm.lt (h : Pm w g F H L B) : g < w.heap.size := (Array.getElem?_eq_some_iff.1 h).1
theorem Pm.c0 (h : Pm w g F H L B) : w.cell? ⟨g, 0, none⟩ = some (.int .i64 F) := (cell_of_row w g 0 _ _ (0, 0) h).trans rfl
theorem Pm.c1 (h : Pm w g F H L B) : w.cell? ⟨g, 1, none⟩ = some (.int .u64 H) := (cell_of_row w g 1 _ _ (0, 0) h).trans rfl
theorem Pm.c2 (h : Pm w g F H L B) : w.cell? ⟨g, 2, none⟩ = some (.int .u64 L) := (cell_of_row w g 2 _ _ (0, 0) h).trans rfl
theorem Pm.c3 (h : Pm w g F H L B) : w.cell? ⟨g, 3, none⟩ = some (.int .i64 B) := (cell_of_row w g 3 _ _ (0, 0) h).trans rfl
theorem Pm.at (h : Pm w g F H L B) (e : w'.heap[g]? = w.heap[g]?) : Pm w' g F H L B := by unfold Pm at *; rw [e]; exact h
theorem Pm.kept (h : Pm w g F H L B) (hb : Below w.heap.size w w') : Pm w' g F H L B := h.at (hb.block g h.lt)
theorem Pm.new (w : World) (F H L B : Int) : Pm (w.alloc (.cells #[.int .i64 F, .int .u64 H, .int .u64 L, .int .i64 B] 112)) w.heap.size F H L B := heap_alloc_new w _
theorem Pm.alloc (h : Pm w g F H L B) (o : Obj) : Pm (w.alloc o) g F H L B := h.at (Below.heap_alloc _ _ _ h.lt)
end
theorem refBits_ (F : Int) (w : World) : Calls Try.prog 64 #[.int .i64 F] w fun e w' => e = .returned (.int .i64 (nb F)) ∧ w' = w := by
  by_cases h4 : F = 4
  · subst h4
    go_enter Try.func64, Try.ntmps64
    go_wp2_with fail
    go_ret
    exact ⟨rfl, rfl⟩
  · by_cases h6 : F = 6
    · subst h6
      go_enter Try.func64, Try.ntmps64
      go_wp2_with fail
      go_ret
      exact ⟨rfl, rfl⟩
    · have e : nb F = 0 := by unfold nb; rw [if_neg h4, if_neg h6]
      have e4 : (F == 4) = false := by simpa using h4
      have e6 : (F == 6) = false := by simpa using h6
      rw [e]
      clear e
      go_enter Try.func64, Try.ntmps64
      go_wp2_with fail
      go_ret
      exact ⟨rfl, rfl⟩
set_option maxHeartbeats 400000 in
theorem refValidAddr_ (F H L : Int) (w : World) (hL : InU L) :
    Calls Try.prog 63 #[.agg #[.int .i64 F, .int .u64 H, .int .u64 L]] w fun e w' => e = .returned (.bool (va F H L)) ∧ Below w.heap.size w w' := by
  have B0 := anew w F H L
  unfold InU at hL
  go_enter Try.func63, Try.ntmps63
  go_wp2_with fail
  all_goals
    go_ret
    refine ⟨ret_bool ?_, anew w _ _ _⟩
    unfold va
    first
      | exact (decide_eq_true (by simp_all)).symm
      | exact (decide_eq_false (by simp_all)).symm
      | exact decide_eq_decide.2 (by simp_all)
      | exact (decide_eq_true (by simp_all; omega)).symm
      | exact (decide_eq_false (by simp_all; omega)).symm
/-- Which of the two numbers a bit lies in. -/
theorem bt_hi {n i : Nat} {H L : Int} (hL : InU L) (h : 64 ≤ n - 1 - i) : bt n (ad H L) i = decide (H / 2 ^ (n - 1 - i - 64) % 2 = 1) := by
  unfold bt ad
  obtain ⟨k, hk⟩ : ∃ k, n - 1 - i = 64 + k := ⟨n - 1 - i - 64, by omega⟩
  rw [hk, Nat.add_sub_cancel_left]
  have e : (H * 18446744073709551616 + L) / 2 ^ (64 + k) = H / 2 ^ k := by
    rw [Int.pow_add, ← Int.ediv_ediv_of_nonneg (by decide)]
    have h1 : (H * 18446744073709551616 + L) / 2 ^ 64 = H := by
      unfold InU at hL
      have : (2 : Int) ^ 64 = 18446744073709551616 := by decide
      rw [this]
      omega
    rw [h1]
  rw [e]
theorem bt_lo {n i : Nat} {H L : Int} (h : n - 1 - i < 64) : bt n (ad H L) i = decide (L / 2 ^ (n - 1 - i) % 2 = 1) := by
  unfold bt ad
  generalize n - 1 - i = k at *
  obtain ⟨m, hm⟩ : ∃ m, 64 = k + (m + 1) := ⟨63 - k, by omega⟩
  have e : (H * 18446744073709551616 + L) / 2 ^ k = H * 2 ^ m * 2 + L / 2 ^ k := by
    have e1 : H * 18446744073709551616 = 2 ^ k * (H * 2 ^ m * 2) := by
      have : (18446744073709551616 : Int) = 2 ^ k * (2 ^ m * 2) := by
        rw [← Int.pow_succ, ← Int.pow_add, ← hm]
        decide
      rw [this, Int.mul_left_comm, Int.mul_assoc]
    rw [e1, Int.add_comm, Int.add_mul_ediv_left _ _ (by have := pow_pos2 k; omega), Int.add_comm]
  rw [e]
  refine decide_eq_decide.2 ?_
  omega
theorem and_one (x : Int) (h : InU x) : (bits BinOp.and .u64 x 1 == 1) = decide (x % 2 = 1) := by
  obtain ⟨a, rfl⟩ := Int.eq_ofNat_of_zero_le h.1
  have h2 := h.2
  have e := bits_and_u64_nat a 1 (by omega) (by omega)
  have e' : bits BinOp.and .u64 (a : Int) 1 = ((a % 2 : Nat) : Int) := by rw [← Nat.and_one_is_mod]; exact e
  rw [e', Bool.beq_eq_decide_eq]
  exact decide_eq_decide.2 (by omega)
theorem div_in {x : Int} (h : InU x) (k : Nat) : InU (x / 2 ^ k) := by
  have hp := pow_pos2 k
  exact ⟨Int.ediv_nonneg h.1 (by omega), Int.le_trans (Int.ediv_le_self _ h.1) h.2⟩
set_option maxHeartbeats 400000 in
theorem refBit_ (F H L : Int) (i : Nat) (w : World) (hL : InU L) (hH : InU H) (hn : nb F = 32 ∨ nb F = 128) (hi : i < nb F) :
    Calls Try.prog 65 #[.agg #[.int .i64 F, .int .u64 H, .int .u64 L], .int .i64 i] w fun e w' => e = .returned (.bool (bt (nb F) (ad H L) i)) ∧ Below w.heap.size w w' := by
  have B0 := anew w F H L
  have m0 := Am.new w F H L
  have h128 : nb F ≤ 128 := nb_le F
  have HH := hid (fun h => bt_hi (n := nb F) (i := i) (H := H) hL h)
  have HLo := hid (fun h => bt_lo (n := nb F) (i := i) (H := H) (L := L) h)
  have k1 := fun w => refBits_ F w
  generalize nb F = n at *
  have HA1 := hid (fun k => and_one _ (div_in hH k))
  have HA2 := hid (fun k => and_one _ (div_in hL k))
  unfold InU at hH hL
  have e1 : (n : Int) - 1 - (i : Int) = ((n - 1 - i : Nat) : Int) := by omega
  have hk : n - 1 - i < 128 := by omega
  clear hn
  obtain ⟨k, Hk⟩ : ∃ k, Hid (n - 1 - i = k) := ⟨_, rfl⟩
  rw [Hk.out] at e1 hk
  go_enter Try.func65, Try.ntmps65
  go_wp2_with fail
  refine (k1 _).mono ?_
  rintro e w1 ⟨rfl, rfl⟩
  by_cases h64 : 64 ≤ k
  · have hI : ¬ (k : Int) < 64 := by omega
    have hI2 : (64 : Int) ≤ (k : Int) := by omega
    have e2 : (k : Int) - 64 = ((k - 64 : Nat) : Int) := by omega
    have HX := hid (HH.out (by rw [Hk.out]; exact h64))
    rw [Hk.out] at HX
    obtain ⟨j, Hj⟩ : ∃ j, Hid (k - 64 = j) := ⟨_, rfl⟩
    rw [Hj.out] at e2 HX
    have hj : j < 64 := by have := Hj.out; omega
    clear h64
    go_wp2_with fail
    go_ret
    exact ⟨ret_bool (by rw [HX.out]; exact HA1.out j), B0⟩
  · have hI : (k : Int) < 64 := by omega
    have hI2 : ¬ (64 : Int) ≤ (k : Int) := by omega
    have HX := hid (HLo.out (by rw [Hk.out]; omega))
    rw [Hk.out] at HX
    clear h64
    go_wp2_with fail
    go_ret
    exact ⟨ret_bool (by rw [HX.out]; exact HA2.out k), B0⟩
end Go.Proofs.Ytnjfckijpbgagaa
namespace Go.Proofs.Ytnjfckijpbgagaa
set_option maxRecDepth 100000
open Go.RowKit
set_option linter.unusedVariables false

theorem va_out {F H L : Int} (h : va F H L = false) (B : Int) : vp F H L B = false := by unfold vp; rw [h]; rfl
theorem vp_iff {F H L B : Int} (h : va F H L = true) (hH : InU H) (hL : InU L) (b : Nat) (hb : B = b) (hn : b ≤ nb F) : vp F H L B = true ↔ ∀ i, b ≤ i → i < nb F → bt (nb F) (ad H L) i = false := by
  rw [tail_zero (nb F) (ad H L) _ b rfl hn]
  unfold vp
  rw [h, Bool.true_and, decide_eq_true_iff, hb, Int.toNat_natCast]
  constructor
  · exact fun h => h.2.2
  · exact fun h => ⟨by omega, by omega, h⟩
end Go.Proofs.Ytnjfckijpbgagaa
namespace Go.Proofs.Ytnjfckijpbgagaa
set_option maxRecDepth 100000
open Go.RowKit
set_option linter.unusedVariables false

theorem panew (w : World) (F H L B F' H' L' : Int) : Below w.heap.size w ((w.alloc (.cells #[.int .i64 F, .int .u64 H, .int .u64 L, .int .i64 B] 112)).alloc (.cells #[.int .i64 F', .int .u64 H', .int .u64 L'] 43)) ∧ Pm ((w.alloc (.cells #[.int .i64 F, .int .u64 H, .int .u64 L, .int .i64 B] 112)).alloc (.cells #[.int .i64 F', .int .u64 H', .int .u64 L'] 43)) w.heap.size F H L B ∧ Am ((w.alloc (.cells #[.int .i64 F, .int .u64 H, .int .u64 L, .int .i64 B] 112)).alloc (.cells #[.int .i64 F', .int .u64 H', .int .u64 L'] 43)) (w.heap.size + 1) F' H' L' := by
  refine ⟨(pnew w F H L B).alloc (by simp) _, (Pm.new w F H L B).alloc _, ?_⟩
  have := Am.new (w.alloc (.cells #[.int .i64 F, .int .u64 H, .int .u64 L, .int .i64 B] 112)) F' H' L'
  simpa using this
theorem ho_bad {F H L B F' H' L' : Int} (h : vp F H L B = false ∨ va F' H' L' = false ∨ F ≠ F') : ho F H L B F' H' L' = false := by
  unfold ho
  rcases h with h | h | h
  · rw [h]; rfl
  · rw [h, Bool.false_and, Bool.and_false]
  · rw [decide_eq_false (fun h' => h h'.1), Bool.and_false, Bool.and_false]
theorem ho_iff {F H L B H' L' : Int} (h : vp F H L B = true) (h' : va F H' L' = true) (hH : InU H) (hL : InU L) (hH' : InU H') (hL' : InU L') (b : Nat) (hb : B = b) : ho F H L B F H' L' = true ↔ ∀ i, i < b → bt (nb F) (ad H L) i = bt (nb F) (ad H' L') i := by
  obtain ⟨h1, h2, h3, _⟩ := vp_in h
  rw [head_same (nb F) _ _ (va_in h1 hH hL).2 (va_in h' hH' hL').2 b (by omega)]
  unfold ho
  rw [h, h', Bool.true_and, Bool.true_and, decide_eq_true_iff, hb, Int.toNat_natCast]
  exact ⟨fun h => h.2, fun h => ⟨rfl, h⟩⟩
end Go.Proofs.Ytnjfckijpbgagaa
namespace Go.Proofs.Ytnjfckijpbgagaa
set_option maxRecDepth 100000
open Go.RowKit
set_option linter.unusedVariables false

/-- What yields its value in every world that meets S may be taken first. -/
theorem take_toP {ops : Array Oper} {Q : Exit → Act → World → Prop} {md : Region.Mode} {S : World → Prop} {oi : Oper} {fuel : Nat} {listed : Array Bool} {a : Act} {w : World} (i d : Nat) (v : Value) (hi : ops[i]? = some oi) (hd : oi.dst = some d)
    (hs : Region.noSelect ops = true) (hf : Region.free md ops listed i = true) (hr : (Region.ready md ops listed).contains i = true)
    (hQ : ∀ c a w, Q (.panic c) (a.put oi.dst v) w → Q (.panic c) a w) (hy : YieldsIf Try.prog ops S oi v a) (hS : S w)
    (h : wpAnyH Try.prog md ops Q S fuel (listed.setIfInBounds i true) ⟨a.tmps.setIfInBounds d v, a.defers⟩ w) : wpAnyH Try.prog md ops Q S (fuel + 1) listed a w :=
  wpAnyH_take hi hs hf hr hQ hy hS (by rw [hd]; exact h)
theorem bel_drew1P {B : Nat} {a b : World} (h : Below B a b) : Below B a b.drew := h.trans ⟨rfl, rfl, rfl, Nat.le_refl _, fun _ _ => rfl⟩
theorem Pm.drew {w : World} {g : Nat} {F H L B : Int} (h : Pm w g F H L B) : Pm w.drew g F H L B := h
theorem Am.drew {w : World} {g : Nat} {F H L : Int} (h : Am w g F H L) : Am w.drew g F H L := h
theorem od_zero (a b : Int) : od a b = 0 ↔ a = b := by
  unfold od
  split
  · constructor <;> intro h <;> omega
  · split <;> constructor <;> intro h <;> omega
def x4 (x0 x1 x2 x3 : Int) (j : Nat) : Int := if j = 0 then x0 else if j = 1 then x1 else if j = 2 then x2 else x3
theorem x4_first {x0 x1 x2 x3 : Int} (j : Nat) (hj : j < 4) (h0 : ∀ q, q < j → x4 x0 x1 x2 x3 q = 0) (h : x4 x0 x1 x2 x3 j ≠ 0) : (if x0 ≠ 0 then x0 else if x1 ≠ 0 then x1 else if x2 ≠ 0 then x2 else x3) = x4 x0 x1 x2 x3 j := by
  have : j = 0 ∨ j = 1 ∨ j = 2 ∨ j = 3 := by omega
  rcases this with rfl | rfl | rfl | rfl
  · have h : x0 ≠ 0 := h
    rw [if_pos h]; rfl
  · have a0 : x0 = 0 := h0 0 (by omega)
    have h : x1 ≠ 0 := h
    rw [if_neg (not_not_intro a0), if_pos h]; rfl
  · have a0 : x0 = 0 := h0 0 (by omega)
    have a1 : x1 = 0 := h0 1 (by omega)
    have h : x2 ≠ 0 := h
    rw [if_neg (not_not_intro a0), if_neg (not_not_intro a1), if_pos h]; rfl
  · have a0 : x0 = 0 := h0 0 (by omega)
    have a1 : x1 = 0 := h0 1 (by omega)
    have a2 : x2 = 0 := h0 2 (by omega)
    rw [if_neg (not_not_intro a0), if_neg (not_not_intro a1), if_neg (not_not_intro a2)]; rfl
theorem x4_none {x0 x1 x2 x3 : Int} (h0 : ∀ q, q < 4 → x4 x0 x1 x2 x3 q = 0) : (if x0 ≠ 0 then x0 else if x1 ≠ 0 then x1 else if x2 ≠ 0 then x2 else x3) = 0 := by
  have a0 : x0 = 0 := h0 0 (by omega)
  have a1 : x1 = 0 := h0 1 (by omega)
  have a2 : x2 = 0 := h0 2 (by omega)
  have a3 : x3 = 0 := h0 3 (by omega)
  rw [if_neg (not_not_intro a0), if_neg (not_not_intro a1), if_neg (not_not_intro a2), a3]
theorem ppnew (w : World) (F H L B F' H' L' B' : Int) : Below w.heap.size w ((w.alloc (.cells #[.int .i64 F, .int .u64 H, .int .u64 L, .int .i64 B] 112)).alloc (.cells #[.int .i64 F', .int .u64 H', .int .u64 L', .int .i64 B'] 112)) ∧ Pm ((w.alloc (.cells #[.int .i64 F, .int .u64 H, .int .u64 L, .int .i64 B] 112)).alloc (.cells #[.int .i64 F', .int .u64 H', .int .u64 L', .int .i64 B'] 112)) w.heap.size F H L B ∧ Pm ((w.alloc (.cells #[.int .i64 F, .int .u64 H, .int .u64 L, .int .i64 B] 112)).alloc (.cells #[.int .i64 F', .int .u64 H', .int .u64 L', .int .i64 B'] 112)) (w.heap.size + 1) F' H' L' B' := by
  refine ⟨(pnew w F H L B).alloc (by simp) _, (Pm.new w F H L B).alloc _, ?_⟩
  have := Pm.new (w.alloc (.cells #[.int .i64 F, .int .u64 H, .int .u64 L, .int .i64 B] 112)) F' H' L' B'
  simpa using this
end Go.Proofs.Ytnjfckijpbgagaa
namespace Go.Proofs.Ytnjfckijpbgagaa
set_option maxRecDepth 100000
open Go.RowKit
set_option linter.unusedVariables false

theorem mod_two_step (A : Int) (m k : Nat) : A / 2 ^ m % 2 ^ (k + 1) = 2 * (A / 2 ^ (m + 1) % 2 ^ k) + A / 2 ^ m % 2 := by
  have e : A / 2 ^ (m + 1) = A / 2 ^ m / 2 := by rw [Int.pow_succ, Int.ediv_ediv_of_nonneg (Int.le_of_lt (pow_pos2 m))]
  rw [e]
  generalize A / 2 ^ m = y
  have hp := pow_pos2 k
  have h1 := Int.mul_ediv_add_emod y 2
  have h2 := Int.mul_ediv_add_emod (y / 2) (2 ^ k)
  have r0 := Int.emod_nonneg (y / 2) (show (2 : Int) ^ k ≠ 0 by omega)
  have r1 := Int.emod_lt_of_pos (y / 2) hp
  rw [Int.pow_succ]
  generalize (2 : Int) ^ k = p at *
  generalize y / 2 / p = u at *
  generalize y / 2 % p = v at *
  have e2 : y = (2 * v + y % 2) + (p * 2) * u := by
    have : p * 2 * u = 2 * (p * u) := by rw [Int.mul_comm p 2, Int.mul_assoc]
    omega
  have b : 0 ≤ 2 * v + y % 2 ∧ 2 * v + y % 2 < p * 2 := by omega
  conv => lhs; rw [e2]
  rw [Int.add_mul_emod_self_left, Int.emod_eq_of_lt b.1 b.2]
theorem be_at {n q : Nat} (A : Int) (hn : n = 32 ∨ n = 128) (hq : q < n / 8) : (be (n / 8) A).getD q 0 = A / 2 ^ (n - 8 * q - 8) % 2 ^ 8 := by
  have e : ∀ (k : Nat) (x : Int) (j : Nat), j < k → (be k x).getD j 0 = x / 256 ^ (k - 1 - j) % 256 := by
    intro k
    induction k with
    | zero => intro x j h; omega
    | succ k ih =>
      intro x j hj
      rw [be]
      cases j with
      | zero => simp
      | succ j => rw [List.getD_cons_succ, ih x j (by omega), show k + 1 - 1 - (j + 1) = k - 1 - j from by omega]
  rw [e _ _ _ hq]
  have : (256 : Int) ^ (n / 8 - 1 - q) = 2 ^ (n - 8 * q - 8) := by
    rw [show (256 : Int) = 2 ^ 8 from rfl, ← Int.pow_mul, show 8 * (n / 8 - 1 - q) = n - 8 * q - 8 from by omega]
  rw [this]
  rfl
theorem Am.at' {w w' : World} {g : Nat} {F H L : Int} (h : Am w g F H L) (e : w'.heap[g]? = w.heap[g]?) : Am w' g F H L := h.at e
theorem own_le7 {w : World} {B B' e s n : Nat} {v : Value} {xs : List Value} (h : w.ownsRow B e s v n xs) (hB : B' ≤ B) : w.ownsRow B' e s v n xs := by
  obtain ⟨h1, h2⟩ := h
  refine ⟨h1, ?_⟩
  rcases h2 with h2 | ⟨g, cap, cur, e1, hb, r⟩
  · exact .inl h2
  · exact .inr ⟨g, cap, cur, e1, Nat.le_trans hB hb, r⟩
theorem own_bel7 {w w' : World} {B e s n : Nat} {v : Value} {xs : List Value} (h : w.ownsRow B e s v n xs) (hb : Below w.heap.size w w') : w'.ownsRow B e s v n xs := by
  obtain ⟨h1, h2⟩ := h
  refine ⟨h1, ?_⟩
  rcases h2 with h2 | ⟨g, cap, cur, e1, hB, hg, r⟩
  · exact .inl h2
  · exact .inr ⟨g, cap, cur, e1, hB, by rw [hb.block g (Array.getElem?_eq_some_iff.1 hg).1]; exact hg, r⟩
set_option maxHeartbeats 2000000 in
theorem refPutAddr_ (F H L : Int) (w : World) (hH : InU H) (hL : InU L) :
    Calls Try.prog 40 #[.agg #[.int .i64 F, .int .u64 H, .int .u64 L]] w fun e w' => ∃ v, e = .returned v ∧ w'.ownsRow w.heap.size 5 1 v (pa F H L).length (cells (pa F H L)) ∧ Below w.heap.size w w' := by
  obtain ⟨i5, hi, hz0, hz1, hz2⟩ := info_parts info5
  have B0 := anew w F H L
  have m0 := Am.new w F H L
  have k1 := fun w => refValidAddr_ F H L w hL
  have k2 := fun w => refBits_ F w
  go_enter Try.func40, Try.ntmps40
  go_wp2_with fail
  refine (k1 _).mono ?_
  rintro e w1 ⟨rfl, g2⟩
  replace m0 := m0.kept g2
  replace B0 := bel_bel B0 B0.size g2
  clear g2 k1
  cases hv : va F H L with
  | false =>
    go_wp2_with fail
    go_ret
    have e : pa F H L = [] := by unfold pa; rw [hv]; rfl
    rw [e]
    exact ⟨_, rfl, World.ownsRow_nil _ _ _ _, B0⟩
  | true =>
    have HE : Hid (pa F H L = be (nb F / 8) (ad H L)) := by show _ = _; unfold pa; rw [hv]; rfl
    obtain ⟨hn, hA⟩ := va_in hv hH hL
    have k3 := fun i hi w => refBit_ F H L i w hL hH hn hi
    have HT := hid (fun q hq => be_at (n := nb F) (q := q) (ad H L) hn hq)
    have HTL : Hid ((be (nb F / 8) (ad H L)).length = nb F / 8) := be_length _ _
    have HBT : Hid (∀ i, bt (nb F) (ad H L) i = decide (ad H L / 2 ^ (nb F - 1 - i) % 2 = 1)) := fun _ => rfl
    have hn8 : nb F % 8 = 0 := by omega
    have hn128 := nb_le F
    clear hn hv
    generalize nb F = n at *
    generalize ad H L = A at *
    generalize be (n / 8) A = T at *
    go_wp2_with fail
    go_loopw [4, 5] (fun v i wr => ∃ q : Nat, 8 * q ≤ n ∧ i = .int .i64 ((8 * q : Nat) : Int) ∧ wr.ownsRow (w.heap.size + 1) 5 1 v q (cells (T.take q)) ∧ Am wr w.heap.size F H L ∧ Below w.heap.size w wr) (fun _ i _ => n - (intOf i).toNat)
    case atStart => exact ⟨0, by omega, rfl, World.ownsRow_nil _ _ _ _, m0, B0⟩
    case round =>
      clear m0 B0
      obtain ⟨q, hq, rfl, hown, m0, B0⟩ := hrel
      have c0 := m0.c0
      go_wp2_with fail
      refine (k2 _).mono ?_
      rintro e wq ⟨rfl, rfl⟩
      by_cases hlt : 8 * q < n
      · have d1 : decide (8 * q < n) = true := decide_eq_true hlt
        have d2 : decide (8 * (q : Int) < (n : Int)) = true := decide_eq_true (by omega)
        have HLT := hid hlt
        clear c0 hlt
        obtain ⟨wo, rfl⟩ : ∃ wo, wo = wq := ⟨_, rfl⟩
        go_wp2_with fail
        go_loopw [6, 7] (fun x i wr => ∃ k : Nat, k ≤ 8 ∧ i = .int .i64 k ∧ x = .int .i64 (A / 2 ^ (n - 8 * q - k) % 2 ^ k) ∧ Am wr w.heap.size F H L ∧ Below wo.heap.size wo wr) (fun _ i _ => 8 - (intOf i).toNat)
        case atStart => exact ⟨0, by omega, rfl, by rw [show (2 : Int) ^ 0 = 1 from rfl, Int.emod_one], m0, Below.refl _ _⟩
        case round =>
          have hlt := HLT.out
          obtain ⟨k, hk, rfl, rfl, m1, B1⟩ := hrel
          have hk2 : (0 : Int) ≤ A / 2 ^ (n - 8 * q - k) % 2 ^ k ∧ A / 2 ^ (n - 8 * q - k) % 2 ^ k < 256 := by
            have hp := pow_pos2 k
            have h1 := Int.emod_nonneg (A / 2 ^ (n - 8 * q - k)) (show (2 : Int) ^ k ≠ 0 by omega)
            have h2 := Int.emod_lt_of_pos (A / 2 ^ (n - 8 * q - k)) hp
            have h3 : (2 : Int) ^ k ≤ 256 := by
              have : k = 0 ∨ k = 1 ∨ k = 2 ∨ k = 3 ∨ k = 4 ∨ k = 5 ∨ k = 6 ∨ k = 7 ∨ k = 8 := by omega
              rcases this with rfl | rfl | rfl | rfl | rfl | rfl | rfl | rfl | rfl <;> decide
            omega
          by_cases hlk : k < 8
          · have hIk : (k : Int) < 8 := by omega
            have HS := hid (mod_two_step A (n - 8 * q - (k + 1)) k)
            have hbt := HBT.out (8 * q + k)
            rw [show n - 1 - (8 * q + k) = n - 8 * q - (k + 1) from by omega] at hbt
            rw [show n - 8 * q - (k + 1) + 1 = n - 8 * q - k from by omega] at HS
            have k4 := k3 (8 * q + k) (by omega)
            rw [hbt] at k4
            have k5 : ∀ w, Calls Try.prog 65 #[.agg #[.int .i64 F, .int .u64 H, .int .u64 L], .int .i64 (8 * (q : Int) + (k : Int))] w fun e w' => e = .returned (.bool (decide (A / 2 ^ (n - 8 * q - (k + 1)) % 2 = 1))) ∧ Below w.heap.size w w' := fun w => by
              have := k4 w
              rwa [show ((8 * q + k : Nat) : Int) = 8 * (q : Int) + (k : Int) from by omega] at this
            clear k4 hbt
            have hq01 : A / 2 ^ (n - 8 * q - (k + 1)) % 2 = 0 ∨ A / 2 ^ (n - 8 * q - (k + 1)) % 2 = 1 := by omega
            obtain ⟨X, HX⟩ : ∃ X, Hid (A / 2 ^ (n - 8 * q - k) % 2 ^ k = X) := ⟨_, rfl⟩
            rw [HX.out] at hk2 HS ⊢
            obtain ⟨Y, HY⟩ : ∃ Y, Hid (A / 2 ^ (n - 8 * q - (k + 1)) % 2 = Y) := ⟨_, rfl⟩
            simp only [HY.out] at k5
            rw [HY.out] at hq01 HS
            have c0 := m1.c0
            have c1 := m1.c1
            have c2 := m1.c2
            go_wp2_with fail
            refine (k5 _).mono ?_
            rintro e w5 ⟨rfl, g2⟩
            replace m1 := m1.kept g2
            replace B1 := bel_bel B1 B1.size g2
            clear g2 c0 c1 c2 k5
            rcases hq01 with rfl | rfl
            · have d : decide ((0 : Int) = 1) = false := by decide
              rw [d]
              clear d
              go_wp2_with fail
              go_roundw
              case rel => exact ⟨k + 1, by omega, by go_num, by rw [HS.out]; congr 1; omega, m1, B1⟩
              case measure => simp [intOf]; omega
            · have d : decide ((1 : Int) = 1) = true := by decide
              rw [d]
              clear d
              go_wp2_with fail
              go_roundw
              case rel => exact ⟨k + 1, by omega, by go_num, by rw [HS.out], m1, B1⟩
              case measure => simp [intOf]; omega
          · have hIk : ¬ (k : Int) < 8 := by omega
            obtain rfl : k = 8 := by omega
            have HV := hid (HT.out q (by omega))
            rw [show n - 8 * q - 8 = n - 8 * q - 8 from rfl] at HV
            have HSS : Hid (cells (T.take q) ++ [.int .u8 (A / 2 ^ (n - 8 * q - 8) % 2 ^ 8)] = cells (T.take (q + 1))) := by
              show _ = _
              rw [← HV.out]
              exact cells_take_succ T q (by rw [HTL.out]; omega)
            obtain ⟨X, HX⟩ : ∃ X, Hid (A / 2 ^ (n - 8 * q - 8) % 2 ^ 8 = X) := ⟨_, hid rfl⟩
            rw [HX.out] at hk2 HSS ⊢
            have hown1 := own_bel7 hown B1
            have HO := hid hown1
            have B2 := bel_bel B0 B0.size B1
            have hs2 := B2.size
            have hml := m1.lt
            clear hown
            go_wp2_with (at_builtin; refine wpList_append_own _ rfl _ _ 22 rfl (w.heap.size + 1) 5 i5 (.int .u8 0) 1 1 Try.underlying22 hi hz0 hz1 hz2 rfl (by decide) _ _ _ rfl (hown1.alloc _) ⟨wr.heap.size, 0, none⟩ 1 1 [.int .u8 X] rfl rfl ?c1 ?c2 ?c3 ?c4 ?c5 ?_)
            case c2 => rfl
            case c3 => unfold maxLen; omega
            case c4 => omega
            intro v' w6 hown' hgrow _
            have hown2 : w6.ownsRow (w.heap.size + 1) 5 1 v' (q + 1) (cells (T.take (q + 1))) := by rw [← HSS.out]; exact hown'
            have B3 : Below w.heap.size w w6 := (B2.alloc (by omega) _).grown hgrow (by simp; omega) fun p hp => by have := (HO.out.lt p hp).1; omega
            have m2 : Am w6 w.heap.size F H L := (m1.alloc (.cells #[.int .u8 X] 5)).at (hgrow.block _ (by simp; omega) (fun e => by have := (HO.out.lt w.heap.size e.symm).1; omega))
            clear hown' hgrow HO HSS m1 B1 B2 hown1
            go_wp2_with fail
            go_roundw
            case rel => exact ⟨q + 1, by omega, by congr 1, hown2, m2, B3⟩
            case measure => simp [intOf]; omega
      · have hI : ¬ ((8 * q : Nat) : Int) < (n : Int) := by omega
        have d1 : decide (8 * q < n) = false := decide_eq_false hlt
        have d2 : decide (8 * (q : Int) < (n : Int)) = false := decide_eq_false (by omega)
        rw [show q = n / 8 from by omega, List.take_of_length_le (by rw [HTL.out]; exact Nat.le_refl _)] at hown
        clear c0 hlt
        go_wp2_with fail
        go_ret
        exact ⟨_, rfl, by rw [HE.out, HTL.out]; exact own_le7 hown (Nat.le_succ _), B0⟩
end Go.Proofs.Ytnjfckijpbgagaa
