import Derived.Test.YtgjamfnhkeoedaaABase
import Derived.Test.YtgjamfnhkeoedaaRefS
namespace Go.Proofs.Ytgjamfnhkeoedaa
open Go.RowKit
set_option linter.unusedVariables false

/-- The document's cipher: the substitutions, the doubles, the round words. -/
structure Ci (w : World) (g : Nat) (k : Nat → Nat) : Prop where
  lt : g < w.heap.size
  box : ∀ x, x < 256 → w.cell? ⟨g, x, none⟩ = some (.int .u8 (sbx x : Nat))
  dbl : ∀ x, x < 256 → w.cell? ⟨g, 256 + x, none⟩ = some (.int .u8 (mul8 2 x : Nat))
  keys : ∀ j, j < 240 → w.cell? ⟨g, 512 + j, none⟩ = some (.int .u8 (k j : Nat))
theorem Ci.keep {w w' : World} {g B : Nat} {k : Nat → Nat} (h : Ci w g k) (hb : Below B w w') (hB : g < B) : Ci w' g k :=
  ⟨Nat.lt_of_lt_of_le h.lt hb.size, fun x hx => (hb.cell hB).trans (h.box x hx), fun x hx => (hb.cell hB).trans (h.dbl x hx), fun j hj => (hb.cell hB).trans (h.keys j hj)⟩

set_option maxRecDepth 100000 in
set_option maxHeartbeats 1000000 in
theorem keyed_ (g r : Nat) (k f : Nat → Nat) (w : World) (hc : Ci w g k) (hr : r ≤ 14) (hk : ∀ j, k j < 256) (hf : ∀ i, i < 16 → f i < 256) :
    Calls Try.prog 47 #[.pointer (some ⟨g, 0, none⟩), .agg (av f), .int .i64 r] w fun e w' => e = .returned (.agg (av (xk k r f))) ∧ Below w.heap.size w w' := by
  have hgl := hc.lt
  go_enter Try.func47, Try.ntmps47
  go_wp2_with fail
  rw [zeros16a]
  obtain ⟨A0, A1, B0⟩ := new2 w (av f) (av fun _ => 0)
  generalize (w.alloc (.cells (av f) 44)).alloc (.cells (av fun _ => 0) 44) = w1 at *
  go_loopw [7] (fun i wr => ∃ j : Nat, j ≤ 16 ∧ i = .int .i64 j ∧ Ar wr w.heap.size (av (mix j (xk k r f) f)) ∧ Ar wr (w.heap.size + 1) (av fun _ => 0) ∧ Below w.heap.size w wr) (fun i _ => 16 - (intOf i).toNat)
  case atStart => exact ⟨0, by omega, rfl, by rw [mix_zero]; exact A0, A1, B0⟩
  case round =>
    obtain ⟨j, hj, rfl, a0, a1, b0⟩ := hrel
    clear A0 A1 B0
    by_cases hlt : j < 16
    · have c0 := a0.byte j hlt
      rw [mix_at] at c0
      have cc := (hc.keep b0 hgl).keys (16 * r + j) (by omega)
      have hf0 := a0.fz j
      have HX : Hid (bits .xor .u8 (f j : Int) (k (16 * r + j) : Int) = ((xk k r f j : Nat) : Int)) := u8x (hf j hlt) (hk _)
      have HS := hid (mix_set j (xk k r f) f)
      generalize f j = x at *
      generalize k (16 * r + j) = y at *
      go_wp2_with fail
      go_region
      rw [HX.out]
      have A3 := a0.set j (.int .u8 (xk k r f j : Nat))
      rw [HS.out] at A3
      have A4 := a1.other (g' := w.heap.size) (by omega) j (.int .u8 (xk k r f j : Nat))
      have B3 : Below w.heap.size w (wr.setCell ⟨w.heap.size, j, none⟩ (.int .u8 (xk k r f j : Nat))) := b0.setCell (Nat.le_refl _) _
      generalize xk k r f j = z at *
      clear a0 a1 b0 c0 cc hf0 HS HX
      go_wp2_with fail
      go_roundw
      case rel => exact ⟨j + 1, by omega, by go_num, A3, A4, bel_drawn B3 1⟩
      case measure => simp [intOf]; omega
    · obtain rfl : j = 16 := by omega
      rw [mix_all] at a0
      go_wp2_with (first | (refine wpList_lda rfl _ rfl w.heap.size rfl _ a0 ?_) | (refine wpList_sta rfl rfl _ _ rfl (w.heap.size + 1) (xk k r f) rfl rfl _ a1 ?_))
      refine bodyPost_ret (v := .agg (av (xk k r f))) ?_ rfl ⟨rfl, bel_row b0 (by omega) _⟩
      exact results_av rfl _ _ (w.heap.size + 1) (xk k r f) rfl (a1.row _)

set_option maxRecDepth 100000 in
set_option maxHeartbeats 1000000 in
theorem turned_ (g : Nat) (k f : Nat → Nat) (w : World) (hc : Ci w g k) (hf : ∀ i, i < 16 → f i < 256) :
    Calls Try.prog 48 #[.pointer (some ⟨g, 0, none⟩), .agg (av f)] w fun e w' => e = .returned (.agg (av (tn f))) ∧ Below w.heap.size w w' := by
  have hgl := hc.lt
  go_enter Try.func48, Try.ntmps48
  go_wp2_with fail
  rw [zeros16a]
  obtain ⟨A0, A1, A2, B0⟩ := new3 w (av f) (av fun _ => 0) (av fun _ => 0)
  generalize ((w.alloc (.cells (av f) 44)).alloc (.cells (av fun _ => 0) 44)).alloc (.cells (av fun _ => 0) 44) = w1 at *
  go_loopw [6] (fun i wr => ∃ c : Nat, c ≤ 4 ∧ i = .int .i64 c ∧ Ar wr w.heap.size (av f) ∧ Ar wr (w.heap.size + 1) (av fun _ => 0) ∧ Ar wr (w.heap.size + 1 + 1) (av (mix (4 * c) (tn f) fun _ => 0)) ∧ Below w.heap.size w wr) (fun i _ => 4 - (intOf i).toNat)
  case atStart => exact ⟨0, by omega, rfl, A0, A1, by rw [Nat.mul_zero, mix_zero]; exact A2, B0⟩
  case round =>
    obtain ⟨c, hcl, rfl, a0, a1, a2, b0⟩ := hrel
    clear A0 A1 A2 B0
    by_cases hlt : c < 4
    · obtain ⟨wq, rfl⟩ : ∃ wq, wq = wr := ⟨_, rfl⟩
      go_wp2_with fail
      go_loopw [7] (fun i wr => ∃ r : Nat, r ≤ 4 ∧ i = .int .i64 r ∧ Ar wr w.heap.size (av f) ∧ Ar wr (w.heap.size + 1) (av fun _ => 0) ∧ Ar wr (w.heap.size + 1 + 1) (av (mix (4 * c + r) (tn f) fun _ => 0)) ∧ Below w.heap.size w wr) (fun i _ => 4 - (intOf i).toNat)
      case atStart => exact ⟨0, by omega, rfl, a0, a1, a2, b0⟩
      case round =>
        obtain ⟨r, hrl, rfl, a0, a1, a2, b0⟩ := hrel
        by_cases hr : r < 4
        · have c0 := a0.byte (4 * ((c + r) % 4) + r) (by omega)
          have hx := hf (4 * ((c + r) % 4) + r) (by omega)
          have HT : Hid (tn f (4 * c + r) = sbx (f (4 * ((c + r) % 4) + r))) := by
            show _ = _
            unfold tn
            rw [show (4 * c + r) / 4 = c from by omega, show (4 * c + r) % 4 = r from by omega]
          have cb := (hc.keep b0 hgl).box _ hx
          have c2 := a2.byte (4 * c + r) (by omega)
          have hf0 := a2.fz (4 * c + r)
          have A3 := a2.set (4 * c + r) (.int .u8 (sbx (f (4 * ((c + r) % 4) + r)) : Nat))
          have HS := hid (mix_set (4 * c + r) (tn f) fun _ => 0)
          rw [HT.out] at HS
          rw [HS.out] at A3
          have A4 := a0.other (g' := w.heap.size + 1 + 1) (by omega) (4 * c + r) (.int .u8 (sbx (f (4 * ((c + r) % 4) + r)) : Nat))
          have A5 := a1.other (g' := w.heap.size + 1 + 1) (by omega) (4 * c + r) (.int .u8 (sbx (f (4 * ((c + r) % 4) + r)) : Nat))
          have B3 : Below w.heap.size w (wr.setCell ⟨w.heap.size + 1 + 1, 4 * c + r, none⟩ (.int .u8 (sbx (f (4 * ((c + r) % 4) + r)) : Nat))) := b0.setCell (by show _ ≤ w.heap.size + 1 + 1; omega) _
          clear a0 a1 a2 b0 HS HT
          generalize mix (4 * c + r) (tn f) (fun _ => 0) (4 * c + r) = o at *
          generalize sbx (f (4 * ((c + r) % 4) + r)) = y at *
          generalize f (4 * ((c + r) % 4) + r) = x at *
          go_wp2_with fail
          go_region
          go_wp2_with fail
          go_roundw
          case rel => exact ⟨r + 1, by omega, by go_num, A4, A5, A3, bel_drawn B3 1⟩
          case measure => simp [intOf]; omega
        · have hge : ¬ (r : Int) < 4 := by omega
          have e : 4 * c + r = 4 * (c + 1) := by omega
          rw [e] at a2
          clear e hr hrl
          go_wp2_with fail
          go_roundw
          case rel => exact ⟨c + 1, by omega, by go_num, a0, a1, a2, b0⟩
          case measure => simp [intOf]; omega
    · obtain rfl : c = 4 := by omega
      rw [mix_all] at a2
      go_wp2_with (first | (refine wpList_lda rfl _ rfl (w.heap.size + 1 + 1) rfl _ a2 ?_) | (refine wpList_sta rfl rfl _ _ rfl (w.heap.size + 1) (tn f) rfl rfl _ a1 ?_))
      refine bodyPost_ret (v := .agg (av (tn f))) ?_ rfl ⟨rfl, bel_row b0 (by omega) _⟩
      exact results_av rfl _ _ (w.heap.size + 1) (tn f) rfl (a1.row _)
end Go.Proofs.Ytgjamfnhkeoedaa
