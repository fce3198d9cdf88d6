import Derived.Test.YtcaecfdeieoenaaPTxt
namespace Go.Proofs.Ytcaecfdeieoenaa
open Go.RowKit
set_option linter.unusedVariables false

theorem anew (w : World) (F H L : Int) : Below w.heap.size w (w.alloc (.cells #[.int .i64 F, .int .u64 H, .int .u64 L] 30)) := (Below.refl _ _).alloc (Nat.le_refl _) _
theorem pnew (w : World) (F H L B : Int) : Below w.heap.size w (w.alloc (.cells #[.int .i64 F, .int .u64 H, .int .u64 L, .int .i64 B] 32)) := (Below.refl _ _).alloc (Nat.le_refl _) _
/-- An address in a variable; a prefix in a variable. -/
def Am (w : World) (g : Nat) (F H L : Int) : Prop := w.heap[g]? = some (.cells #[.int .i64 F, .int .u64 H, .int .u64 L] 30 (0, 0))
def Pm (w : World) (g : Nat) (F H L B : Int) : Prop := w.heap[g]? = some (.cells #[.int .i64 F, .int .u64 H, .int .u64 L, .int .i64 B] 32 (0, 0))
section
variable {w w' : World} {g : Nat} {F H L B : Int}
theorem Am.lt (h : Am w g F H L) : g < w.heap.size := (Array.getElem?_eq_some_iff.1 h).1
theorem Am.c0 (h : Am w g F H L) : w.cell? ⟨g, 0, none⟩ = some (.int .i64 F) := (cell_of_row w g 0 _ _ (0, 0) h).trans rfl
theorem Am.c1 (h : Am w g F H L) : w.cell? ⟨g, 1, none⟩ = some (.int .u64 H) := (cell_of_row w g 1 _ _ (0, 0) h).trans rfl
theorem Am.c2 (h : Am w g F H L) : w.cell? ⟨g, 2, none⟩ = some (.int .u64 L) := (cell_of_row w g 2 _ _ (0, 0) h).trans rfl
theorem Am.at (h : Am w g F H L) (e : w'.heap[g]? = w.heap[g]?) : Am w' g F H L := by unfold Am at *; rw [e]; exact h
theorem Am.kept (h : Am w g F H L) (hb : Below w.heap.size w w') : Am w' g F H L := h.at (hb.block g h.lt)
theorem Am.new (w : World) (F H L : Int) : Am (w.alloc (.cells #[.int .i64 F, .int .u64 H, .int .u64 L] 30)) w.heap.size F H L := heap_alloc_new w _
theorem Am.alloc (h : Am w g F H L) (o : Obj) : Am (w.alloc o) g F H L := h.at (Below.heap_alloc _ _ _ h.lt)
theorem Pm.lt (h : Pm w g F H L B) : g < w.heap.size := (Array.getElem?_eq_some_iff.1 h).1
theorem Pm.c0 (h : Pm w g F H L B) : w.cell? ⟨g, 0, none⟩ = some (.int .i64 F) := (cell_of_row w g 0 _ _ (0, 0) h).trans rfl
theorem Pm.c1 (h : Pm w g F H L B) : w.cell? ⟨g, 1, none⟩ = some (.int .u64 H) := (cell_of_row w g 1 _ _ (0, 0) h).trans rfl
theorem Pm.c2 (h : Pm w g F H L B) : w.cell? ⟨g, 2, none⟩ = some (.int .u64 L) := (cell_of_row w g 2 _ _ (0, 0) h).trans rfl
theorem Pm.c3 (h : Pm w g F H L B) : w.cell? ⟨g, 3, none⟩ = some (.int .i64 B) := (cell_of_row w g 3 _ _ (0, 0) h).trans rfl
theorem Pm.at (h : Pm w g F H L B) (e : w'.heap[g]? = w.heap[g]?) : Pm w' g F H L B := by unfold Pm at *; rw [e]; exact h
theorem Pm.kept (h : Pm w g F H L B) (hb : Below w.heap.size w w') : Pm w' g F H L B := h.at (hb.block g h.lt)
theorem Pm.new (w : World) (F H L B : Int) : Pm (w.alloc (.cells #[.int .i64 F, .int .u64 H, .int .u64 L, .int .i64 B] 32)) w.heap.size F H L B := heap_alloc_new w _
theorem Pm.alloc (h : Pm w g F H L B) (o : Obj) : Pm (w.alloc o) g F H L B := h.at (Below.heap_alloc _ _ _ h.lt)
end
theorem refBits_ (F : Int) (w : World) : Calls Try.prog 51 #[.int .i64 F] w fun e w' => e = .returned (.int .i64 (nb F)) ∧ w' = w := by
  by_cases h4 : F = 4
  · subst h4
    go_enter Try.func51, Try.ntmps51
    go_wp2_with fail
    go_ret
    exact ⟨rfl, rfl⟩
  · by_cases h6 : F = 6
    · subst h6
      go_enter Try.func51, Try.ntmps51
      go_wp2_with fail
      go_ret
      exact ⟨rfl, rfl⟩
    · have e : nb F = 0 := by unfold nb; rw [if_neg h4, if_neg h6]
      have e4 : (F == 4) = false := by simpa using h4
      have e6 : (F == 6) = false := by simpa using h6
      rw [e]
      clear e
      go_enter Try.func51, Try.ntmps51
      go_wp2_with fail
      go_ret
      exact ⟨rfl, rfl⟩
set_option maxHeartbeats 400000 in
theorem refValidAddr_ (F H L : Int) (w : World) (hL : InU L) :
    Calls Try.prog 33 #[.agg #[.int .i64 F, .int .u64 H, .int .u64 L]] w fun e w' => e = .returned (.bool (va F H L)) ∧ Below w.heap.size w w' := by
  have B0 := anew w F H L
  unfold InU at hL
  go_enter Try.func33, Try.ntmps33
  go_wp2_with fail
  all_goals
    go_ret
    refine ⟨ret_bool ?_, anew w _ _ _⟩
    unfold va
    first
      | exact (decide_eq_true (by simp_all)).symm
      | exact (decide_eq_false (by simp_all)).symm
      | exact decide_eq_decide.2 (by simp_all)
      | exact (decide_eq_true (by simp_all; omega)).symm
      | exact (decide_eq_false (by simp_all; omega)).symm
/-- Which of the two numbers a bit lies in. -/
theorem bt_hi {n i : Nat} {H L : Int} (hL : InU L) (h : 64 ≤ n - 1 - i) : bt n (ad H L) i = decide (H / 2 ^ (n - 1 - i - 64) % 2 = 1) := by
  unfold bt ad
  obtain ⟨k, hk⟩ : ∃ k, n - 1 - i = 64 + k := ⟨n - 1 - i - 64, by omega⟩
  rw [hk, Nat.add_sub_cancel_left]
  have e : (H * 18446744073709551616 + L) / 2 ^ (64 + k) = H / 2 ^ k := by
    rw [Int.pow_add, ← Int.ediv_ediv_of_nonneg (by decide)]
    have h1 : (H * 18446744073709551616 + L) / 2 ^ 64 = H := by
      unfold InU at hL
      have : (2 : Int) ^ 64 = 18446744073709551616 := by decide
      rw [this]
      omega
    rw [h1]
  rw [e]
theorem bt_lo {n i : Nat} {H L : Int} (h : n - 1 - i < 64) : bt n (ad H L) i = decide (L / 2 ^ (n - 1 - i) % 2 = 1) := by
  unfold bt ad
  generalize n - 1 - i = k at *
  obtain ⟨m, hm⟩ : ∃ m, 64 = k + (m + 1) := ⟨63 - k, by omega⟩
  have e : (H * 18446744073709551616 + L) / 2 ^ k = H * 2 ^ m * 2 + L / 2 ^ k := by
    have e1 : H * 18446744073709551616 = 2 ^ k * (H * 2 ^ m * 2) := by
      have : (18446744073709551616 : Int) = 2 ^ k * (2 ^ m * 2) := by
        rw [← Int.pow_succ, ← Int.pow_add, ← hm]
        decide
      rw [this, Int.mul_left_comm, Int.mul_assoc]
    rw [e1, Int.add_comm, Int.add_mul_ediv_left _ _ (by have := pow_pos2 k; omega), Int.add_comm]
  rw [e]
  refine decide_eq_decide.2 ?_
  omega
theorem and_one (x : Int) (h : InU x) : (bits BinOp.and .u64 x 1 == 1) = decide (x % 2 = 1) := by
  obtain ⟨a, rfl⟩ := Int.eq_ofNat_of_zero_le h.1
  have h2 := h.2
  have e := bits_and_u64_nat a 1 (by omega) (by omega)
  have e' : bits BinOp.and .u64 (a : Int) 1 = ((a % 2 : Nat) : Int) := by rw [← Nat.and_one_is_mod]; exact e
  rw [e', Bool.beq_eq_decide_eq]
  exact decide_eq_decide.2 (by omega)
theorem div_in {x : Int} (h : InU x) (k : Nat) : InU (x / 2 ^ k) := by
  have hp := pow_pos2 k
  exact ⟨Int.ediv_nonneg h.1 (by omega), Int.le_trans (Int.ediv_le_self _ h.1) h.2⟩
set_option maxHeartbeats 400000 in
theorem refBit_ (F H L : Int) (i : Nat) (w : World) (hL : InU L) (hH : InU H) (hn : nb F = 32 ∨ nb F = 128) (hi : i < nb F) :
    Calls Try.prog 34 #[.agg #[.int .i64 F, .int .u64 H, .int .u64 L], .int .i64 i] w fun e w' => e = .returned (.bool (bt (nb F) (ad H L) i)) ∧ Below w.heap.size w w' := by
  have B0 := anew w F H L
  have m0 := Am.new w F H L
  have h128 : nb F ≤ 128 := nb_le F
  have HH := hid (fun h => bt_hi (n := nb F) (i := i) (H := H) hL h)
  have HLo := hid (fun h => bt_lo (n := nb F) (i := i) (H := H) (L := L) h)
  have k1 := fun w => refBits_ F w
  generalize nb F = n at *
  have HA1 := hid (fun k => and_one _ (div_in hH k))
  have HA2 := hid (fun k => and_one _ (div_in hL k))
  unfold InU at hH hL
  have e1 : (n : Int) - 1 - (i : Int) = ((n - 1 - i : Nat) : Int) := by omega
  have hk : n - 1 - i < 128 := by omega
  clear hn
  obtain ⟨k, Hk⟩ : ∃ k, Hid (n - 1 - i = k) := ⟨_, rfl⟩
  rw [Hk.out] at e1 hk
  go_enter Try.func34, Try.ntmps34
  go_wp2_with fail
  refine (k1 _).mono ?_
  rintro e w1 ⟨rfl, rfl⟩
  by_cases h64 : 64 ≤ k
  · have hI : ¬ (k : Int) < 64 := by omega
    have hI2 : (64 : Int) ≤ (k : Int) := by omega
    have e2 : (k : Int) - 64 = ((k - 64 : Nat) : Int) := by omega
    have HX := hid (HH.out (by rw [Hk.out]; exact h64))
    rw [Hk.out] at HX
    obtain ⟨j, Hj⟩ : ∃ j, Hid (k - 64 = j) := ⟨_, rfl⟩
    rw [Hj.out] at e2 HX
    have hj : j < 64 := by have := Hj.out; omega
    clear h64
    go_wp2_with fail
    go_ret
    exact ⟨ret_bool (by rw [HX.out]; exact HA1.out j), B0⟩
  · have hI : (k : Int) < 64 := by omega
    have hI2 : ¬ (64 : Int) ≤ (k : Int) := by omega
    have HX := hid (HLo.out (by rw [Hk.out]; omega))
    rw [Hk.out] at HX
    clear h64
    go_wp2_with fail
    go_ret
    exact ⟨ret_bool (by rw [HX.out]; exact HA2.out k), B0⟩
end Go.Proofs.Ytcaecfdeieoenaa
