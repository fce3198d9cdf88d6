import Derived.Test.YtjaecokhocbdlaaGreatDoorGet
import Derived.Test.YtjaecokhocbdlaaGreatDoorSame
namespace Go.Proofs.YtjaecokhocbdlaaGreatDoor
open Go.RowKit
set_option linter.unusedVariables false

theorem Bs.ofCells {w : World} {g n : Nat} {zs : List Int} {t : TypeId} (h : w.heap[g]? = some (.cells (cells zs).toArray t (0, 0))) (hn : zs.length = n) (hb : ∀ z ∈ zs, 0 ≤ z ∧ z ≤ 255) : Bs w (some ⟨g, 0, none⟩) n zs := by
  refine ⟨hn, hb, .inr ⟨g, 0, rfl, fun i hi => ?_⟩⟩
  rw [Nat.zero_add, cell_of_row w g i _ t (0, 0) h]
  simpa using cells_get zs i (by omega)
theorem Bs.new (w : World) (zs : List Int) (t : TypeId) (hb : ∀ z ∈ zs, 0 ≤ z ∧ z ≤ 255) : Bs (w.alloc (.cells (cells zs).toArray t)) (some ⟨w.heap.size, 0, none⟩) zs.length zs :=
  Bs.ofCells (heap_alloc_new w _) rfl hb
theorem Bs.len {w : World} {a : Option Addr} {n m : Nat} {zs : List Int} (h : Bs w a n zs) (e : n = m) : Bs w a m zs := e ▸ h

/-- The frame over one more call. -/
theorem bel_grow {B : Nat} {a b c : World} (h : Below B a b) (hB : B ≤ b.heap.size) (hg : b.grownBy c none) : Below B a c :=
  h.trans ⟨hg.os, hg.tape, hg.output, hg.size, fun k hk => hg.block k (by omega) (by simp)⟩
theorem bel_only {B r : Nat} {a b c : World} (h : Below B a b) (hr : B ≤ r) (ho : Only r b c) : Below B a c := h.trans (ho.below hr)
theorem bel_drawn {B : Nat} {a b : World} (h : Below B a b) (n : Nat) : Below B a (b.drewN n) := h.trans ⟨rfl, rfl, rfl, Nat.le_refl _, fun _ _ => rfl⟩

set_option maxHeartbeats 1000000 in
theorem first_ (w : World) : Calls Tryz.prog 4 #[] w fun en w' => en = .returned (.bool true) ∧ Below w.heap.size w w' := by
  go_enter Tryz.func4, Tryz.ntmps4
  go_wp2_with fail
  refine (put16 (some ⟨w.heap.size, 0, none⟩) 1 1 [7] 258 _ (Bs.new w [7] 5 (by decide)) (by omega) (by omega) (by omega)).mono ?_
  rintro en w1 ⟨rfl, hr1, hg1⟩
  rw [show ([7] : List Int) ++ be 2 258 = [7, 1, 2] from by decide] at hr1
  have B1 : Below w.heap.size w w1 := bel_grow ((Below.refl _ w).alloc (Nat.le_refl _) _) (by simp) hg1
  have b1 : Bs w1 (some ⟨w.heap.size + 1, 0, none⟩) 3 [7, 1, 2] := Bs.ofCells (t := 5) (by simpa [Row] using hr1) rfl (by decide)
  have s1 : w.heap.size + 1 < w1.heap.size := by have := hr1.lt; simpa using this
  clear hr1 hg1
  go_wp2_with fail
  refine (put64 (some ⟨w.heap.size + 1, 0, none⟩) 3 3 [7, 1, 2] 9223372036854775808 w1 b1 (by omega) (by omega) (by omega)).mono ?_
  rintro en w2 ⟨rfl, hr2, hg2⟩
  rw [show ([7, 1, 2] : List Int) ++ be 8 9223372036854775808 = [7, 1, 2, 128, 0, 0, 0, 0, 0, 0, 0] from by decide] at hr2
  have B2 := bel_grow B1 (by omega) hg2
  have b2 : Bs w2 (some ⟨w1.heap.size, 0, none⟩) 11 [7, 1, 2, 128, 0, 0, 0, 0, 0, 0, 0] := Bs.ofCells (t := 5) hr2 rfl (by decide)
  have s2 : w1.heap.size < w2.heap.size := hr2.lt
  clear hr2 hg2 b1 B1
  go_wp2_with fail
  refine (same (some ⟨w1.heap.size, 0, none⟩) (some ⟨w2.heap.size, 0, none⟩) 11 11 11 11 [7, 1, 2, 128, 0, 0, 0, 0, 0, 0, 0] [7, 1, 2, 128, 0, 0, 0, 0, 0, 0, 0] _ (b2.kept (World.grownBy_alloc w2 _ none) (Off.none _ _)) (Bs.new w2 [7, 1, 2, 128, 0, 0, 0, 0, 0, 0, 0] 5 (by decide)) (by unfold maxLen; omega) (by unfold maxLen; omega)).mono ?_
  rintro en w3 ⟨rfl, nq, hw3⟩
  rw [sameB_self]
  have B3 : Below w.heap.size w w3 := hw3 ▸ bel_drawn (B2.alloc (by omega) _) nq
  have s3 : w2.heap.size < w3.heap.size := by rw [hw3]; simp
  clear b2 B2 hw3
  go_wp2_with fail
  refine (newReader (some ⟨w3.heap.size, 0, none⟩) 5 5 [1, 2, 3, 4, 5] _ (Bs.new w3 [1, 2, 3, 4, 5] 5 (by decide)) (fun h => by cases h) (by omega) (by omega)).mono ?_
  rintro en w4 ⟨r, g, rfl, hR4, hr, hg, _, hg4⟩
  have B4 : Below w.heap.size w w4 := bel_grow (B3.alloc (by omega) _) (by simp; omega) hg4
  have hrB : w.heap.size ≤ r := by simp at hr; omega
  clear hr hg hg4 B3
  go_wp2_with fail
  refine (get16_whole r g [1, 2, 3, 4, 5] 0 w4 hR4 (by decide) (by decide) (by omega) (by omega)).mono ?_
  rintro en w5 ⟨rfl, hR5, ho5⟩
  rw [show val ([1, 2, 3, 4, 5].take 2) = 258 from by decide]
  have B5 := bel_only B4 hrB ho5
  clear ho5 B4 hR4
  go_wp2_with fail
  refine (bytes_whole r g 2 [3, 4, 5] 2 w5 hR5 (by decide) (by decide) (by omega) (by omega)).mono ?_
  rintro en w6 ⟨a, rfl, hL6, hR6, ho6⟩
  have B6 := bel_only B5 hrB ho6
  clear ho6 B5 hR5
  go_wp2_with fail
  refine (left_whole r g [5] 4 w6 hR6).mono ?_
  rintro en w' ⟨rfl, hw⟩
  obtain rfl := hw.symm
  clear hw
  go_wp2_with fail
  refine (get16_short r g [5] 4 w6 hR6 (by decide)).mono ?_
  rintro en w7 ⟨rfl, hR7, ho7⟩
  have B7 := bel_only B6 hrB ho7
  have hL7 := hL6.kept fun _ => ho7.block g hR6.1
  clear B6 hR6 ho7 hL6
  go_wp2_with fail
  refine (err_broken r 4 10 w7 hR7).mono ?_
  rintro en w8 ⟨rfl, nq8, hw8⟩
  have B8 : Below w.heap.size w w8 := hw8 ▸ bel_drawn B7 nq8
  have hR8 : Rb w8 r 4 10 := hR7.kept (by rw [hw8]; rfl)
  obtain ⟨_, _, h0 | ⟨b, off, rfl, hc⟩⟩ := (hL7.kept (w' := w8) (fun _ => by rw [hw8]; rfl)).bs
  · omega
  have k0 : w8.cell? ⟨b, off, none⟩ = some (.int .u8 3) := by simpa using hc 0 (by omega)
  have k1 : w8.cell? ⟨b, off + 1, none⟩ = some (.int .u8 4) := by simpa using hc 1 (by omega)
  clear B7 hw8 hL7 hc hR7
  go_wp2_with (first
    | (go_at_call 18; refine (num_ _ _).mono ?_; rintro en w' ⟨rfl, hw⟩; obtain rfl := hw.symm; clear hw)
    | (go_at_call 13; refine (left_broken r 4 10 _ hR8).mono ?_; rintro en w' ⟨rfl, hw⟩; obtain rfl := hw.symm; clear hw))
  go_ret
  exact ⟨rfl, B8⟩
end Go.Proofs.YtjaecokhocbdlaaGreatDoor
