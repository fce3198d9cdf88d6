import Derived.Test.YtfgnllfgccbolaaDoorJoinC
import Derived.Lib.SlBytesConst
namespace Go.Proofs.YtfgnllfgccbolaaDoor
open Go.RowKit
set_option linter.unusedVariables false

theorem Bs.const (w : World) (zs : List Int) (n : Nat) (fr : Nat × Nat) (hn : zs.length = n) (hb : ∀ z ∈ zs, 0 ≤ z ∧ z ≤ 255) : Bs (w.alloc (.cells (cells zs).toArray 5 fr)) (some ⟨w.heap.size, 0, none⟩) n zs := by
  refine ⟨hn, hb, .inr ⟨_, 0, rfl, fun i hi => ?_⟩⟩
  rw [Nat.zero_add, cell_of_row _ _ i _ 5 fr (heap_alloc_new w _)]
  simpa using cells_get zs i (by omega)
theorem Bs.nil (w : World) : Bs w none 0 [] := ⟨rfl, by simp, .inl rfl⟩
theorem sum1 : updc 0 [49, 50, 51, 52, 53, 54, 55, 56, 57] = 3808858755 := by decide +kernel
theorem sum2 : updc 0 [49, 50, 51, 52, 53] = 416359221 := by decide +kernel
theorem sum3 : updc 416359221 [54, 55, 56, 57] = 3808858755 := by decide +kernel
theorem sum4 : updc 0 [54, 55, 56, 57] = 3263061426 := by decide +kernel
theorem sum5 : stps (8 * 4) 416359221 ^^^ 3263061426 = 3808858755 := by decide +kernel
theorem sum6 : stps (8 * 1) 1 ^^^ 0 = 4067132163 := by decide +kernel
theorem sum0 : updc 0 [] = 0 := by decide

theorem sumConst (w : World) (zs : List Int) (n : Nat) (fr : Nat × Nat) (r : Nat) (hT : Tab w) (hn : zs.length = n) (hb : ∀ z ∈ zs, 0 ≤ z ∧ z ≤ 255) (hm : n ≤ 1000) (hr : updc 0 zs = r) :
    Calls Tryd.prog 11 #[.slice (some ⟨w.heap.size, 0, none⟩) n n] (w.alloc (.cells (cells zs).toArray 5 fr)) fun e w' => e = .returned (.int .u32 r) ∧ Below w.heap.size w w' ∧ Tab w' := by
  have B : Below w.heap.size w (w.alloc (.cells (cells zs).toArray 5 fr)) := (Below.refl _ _).alloc (Nat.le_refl _) _
  refine (sum_ _ n n zs _ (hT.bel B) (Bs.const w zs n fr hn hb) (by unfold maxLen; omega)).mono ?_
  rintro e w1 ⟨rfl, rfl⟩
  exact ⟨by rw [hr], B, hT.bel B⟩
theorem updConst (w : World) (c : Nat) (zs : List Int) (n : Nat) (fr : Nat × Nat) (r : Nat) (hT : Tab w) (hc : c < 4294967296) (hn : zs.length = n) (hb : ∀ z ∈ zs, 0 ≤ z ∧ z ≤ 255) (hm : n ≤ 1000) (hr : updc c zs = r) :
    Calls Tryd.prog 14 #[.int .u32 c, .slice (some ⟨w.heap.size, 0, none⟩) n n] (w.alloc (.cells (cells zs).toArray 5 fr)) fun e w' => e = .returned (.int .u32 r) ∧ Below w.heap.size w w' ∧ Tab w' := by
  have B : Below w.heap.size w (w.alloc (.cells (cells zs).toArray 5 fr)) := (Below.refl _ _).alloc (Nat.le_refl _) _
  refine (update_ c _ n n zs _ (hT.bel B) (Bs.const w zs n fr hn hb) hc (by unfold maxLen; omega)).mono ?_
  rintro e w1 ⟨rfl, rfl⟩
  exact ⟨by rw [hr], B, hT.bel B⟩
theorem sumNil (w : World) (hT : Tab w) : Calls Tryd.prog 11 #[.slice none 0 0] w fun e w' => e = .returned (.int .u32 0) ∧ Below w.heap.size w w' ∧ Tab w' := by
  refine (sum_ none 0 0 _ _ hT (Bs.nil _) (by unfold maxLen; omega)).mono ?_
  rintro e w1 ⟨rfl, rfl⟩
  exact ⟨by rw [sum0]; rfl, Below.refl _ _, hT⟩
theorem joinLit (a b n r : Nat) (w : World) (hT : Tab w) (ha : a < 4294967296) (hb : b < 4294967296) (hn : n < 9223372036854775808) (hr : stps (8 * n) a ^^^ b = r) :
    Calls Tryd.prog 16 #[.int .u32 a, .int .u32 b, .int .i64 n] w fun e w' => e = .returned (.int .u32 r) ∧ Below w.heap.size w w' ∧ Tab w' := by
  refine (join_ a b n w hT ha hb hn).mono ?_
  rintro e w1 ⟨rfl, B⟩
  exact ⟨by rw [hr], B, hT.bel B⟩

set_option maxHeartbeats 1000000 in
theorem first_ (w : World) (hT : Tab w) :
    Calls Tryd.prog 9 #[] w fun e w' => e = .returned (.bool true) ∧ Below w.heap.size w w' := by
  have kc := fun (w : World) (C : Array Value) (n c : Nat) => Lib.run_convert_bytes_const (P := Tryd.prog) w 22 5 C n c Tryd.underlying22 Tryd.underlying5
  go_enter Tryd.func9, Tryd.ntmps9
  go_wp2_with fail
  refine (sumConst w [49, 50, 51, 52, 53, 54, 55, 56, 57] 9 (9, 10) _ hT rfl (by decide) (by omega) sum1).mono ?_
  rintro e w1 ⟨rfl, B1, t1⟩
  have S1 := B1.size
  go_wp2_with fail
  refine (sumNil w1 t1).mono ?_
  rintro e w2 ⟨rfl, b, t2⟩
  have B2 := bel_bel B1 S1 b
  have S2 := B2.size
  clear b B1 S1 t1
  go_wp2_with fail
  refine (sumConst w2 [49, 50, 51, 52, 53] 5 (5, 6) _ t2 rfl (by decide) (by omega) sum2).mono ?_
  rintro e w3 ⟨rfl, b, t3⟩
  have B3 := bel_bel B2 S2 b
  have S3 := B3.size
  clear b B2 S2 t2
  go_wp2_with fail
  refine (updConst w3 416359221 [54, 55, 56, 57] 4 (4, 5) _ t3 (by omega) rfl (by decide) (by omega) sum3).mono ?_
  rintro e w4 ⟨rfl, b, t4⟩
  have B4 := bel_bel B3 S3 b
  have S4 := B4.size
  clear b B3 S3 t3
  go_wp2_with fail
  refine (sumConst w4 [49, 50, 51, 52, 53] 5 (5, 6) _ t4 rfl (by decide) (by omega) sum2).mono ?_
  rintro e w5 ⟨rfl, b, t5⟩
  have B5 := bel_bel B4 S4 b
  have S5 := B5.size
  clear b B4 S4 t4
  go_wp2_with fail
  refine (sumConst w5 [54, 55, 56, 57] 4 (4, 5) _ t5 rfl (by decide) (by omega) sum4).mono ?_
  rintro e w6 ⟨rfl, b, t6⟩
  have B6 := bel_bel B5 S5 b
  have S6 := B6.size
  clear b B5 S5 t5
  go_wp2_with fail
  refine (joinLit 416359221 3263061426 4 _ w6 t6 (by omega) (by omega) (by omega) sum5).mono ?_
  rintro e w7 ⟨rfl, b, t7⟩
  have B7 := bel_bel B6 S6 b
  have S7 := B7.size
  clear b B6 S6 t6
  go_wp2_with fail
  refine (join_neg 1 5 (-1) w7 (by omega)).mono ?_
  rintro e w8 ⟨rfl, b⟩
  have t8 := t7.bel b
  have B8 := bel_bel B7 S7 b
  have S8 := B8.size
  clear b B7 S7 t7
  go_wp2_with fail
  refine (joinLit 1 0 1 _ w8 t8 (by omega) (by omega) (by omega) sum6).mono ?_
  rintro e w9 ⟨rfl, b, t9⟩
  have B9 := bel_bel B8 S8 b
  clear b B8 S8 t8
  go_wp2_with fail
  go_ret
  exact ⟨rfl, B9⟩
end Go.Proofs.YtfgnllfgccbolaaDoor
