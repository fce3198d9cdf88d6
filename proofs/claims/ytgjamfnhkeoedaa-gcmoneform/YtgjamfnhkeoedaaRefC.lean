import Derived.Test.YtgjamfnhkeoedaaRefB
namespace Go.Proofs.Ytgjamfnhkeoedaa
open Go.RowKit
set_option linter.unusedVariables false

theorem mx_spell {a b c d p q : Nat} (ha : a < 256) (hb : b < 256) (hc : c < 256) (hp : p < 256) (hq : q < 256) :
    bits .xor .u8 (bits .xor .u8 (bits .xor .u8 (bits .xor .u8 (p : Int) (q : Int)) (a : Int)) (b : Int)) (c : Int) = ((p ^^^ q ^^^ a ^^^ b ^^^ c : Nat) : Int) := by
  rw [u8x hp hq, u8x (xor_lt8 hp hq) ha, u8x (xor_lt8 (xor_lt8 hp hq) ha) hb, u8x (xor_lt8 (xor_lt8 (xor_lt8 hp hq) ha) hb) hc]

set_option maxRecDepth 100000 in
set_option maxHeartbeats 4000000 in
theorem mixed_ (g : Nat) (k f : Nat → Nat) (w : World) (hc : Ci w g k) (hf : ∀ i, i < 16 → f i < 256) :
    Calls Try.prog 49 #[.pointer (some ⟨g, 0, none⟩), .agg (av f)] w fun e w' => e = .returned (.agg (av (mx f))) ∧ Below w.heap.size w w' := by
  have hgl := hc.lt
  go_enter Try.func49, Try.ntmps49
  go_wp2_with fail
  rw [zeros16a]
  obtain ⟨A0, A1, A2, B0⟩ := new3 w (av f) (av fun _ => 0) (av fun _ => 0)
  generalize ((w.alloc (.cells (av f) 44)).alloc (.cells (av fun _ => 0) 44)).alloc (.cells (av fun _ => 0) 44) = w1 at *
  go_loopw [6] (fun i wr => ∃ c : Nat, c ≤ 4 ∧ i = .int .i64 c ∧ Ar wr w.heap.size (av f) ∧ Ar wr (w.heap.size + 1) (av fun _ => 0) ∧ Ar wr (w.heap.size + 1 + 1) (av (mix (4 * c) (mx f) fun _ => 0)) ∧ Below w.heap.size w wr) (fun i _ => 4 - (intOf i).toNat)
  case atStart => exact ⟨0, by omega, rfl, A0, A1, by rw [Nat.mul_zero, mix_zero]; exact A2, B0⟩
  case round =>
    obtain ⟨c, hcl, rfl, a0, a1, a2, b0⟩ := hrel
    clear A0 A1 A2 B0
    by_cases hlt : c < 4
    · obtain ⟨wq, rfl⟩ : ∃ wq, wq = wr := ⟨_, rfl⟩
      go_wp2_with fail
      go_loopw [7] (fun i wr => ∃ r : Nat, r ≤ 4 ∧ i = .int .i64 r ∧ Ar wr w.heap.size (av f) ∧ Ar wr (w.heap.size + 1) (av fun _ => 0) ∧ Ar wr (w.heap.size + 1 + 1) (av (mix (4 * c + r) (mx f) fun _ => 0)) ∧ Below w.heap.size w wr) (fun i _ => 4 - (intOf i).toNat)
      case atStart => exact ⟨0, by omega, rfl, a0, a1, a2, b0⟩
      case round =>
        obtain ⟨r, hrl, rfl, a0, a1, a2, b0⟩ := hrel
        by_cases hr : r < 4
        · have c0 := a0.byte (4 * c + r) (by omega)
          have c1 := a0.byte (4 * c + (r + 1) % 4) (by omega)
          have c2 := a0.byte (4 * c + (r + 2) % 4) (by omega)
          have c3 := a0.byte (4 * c + (r + 3) % 4) (by omega)
          have h0 := hf (4 * c + r) (by omega)
          have h1 := hf (4 * c + (r + 1) % 4) (by omega)
          have h2 := hf (4 * c + (r + 2) % 4) (by omega)
          have h3 := hf (4 * c + (r + 3) % 4) (by omega)
          have HT : Hid (mx f (4 * c + r) = mul8 2 (f (4 * c + r)) ^^^ mul8 2 (f (4 * c + (r + 1) % 4)) ^^^ f (4 * c + (r + 1) % 4) ^^^ f (4 * c + (r + 2) % 4) ^^^ f (4 * c + (r + 3) % 4)) := by
            show _ = _
            unfold mx
            rw [show (4 * c + r) / 4 = c from by omega, show (4 * c + r) % 4 = r from by omega]
          have ci := hc.keep b0 hgl
          have d0 := ci.dbl _ h0
          have d1 := ci.dbl _ h1
          have HX := hid (mx_spell (d := 0) h1 h2 h3 (mul8_lt (a := 2) (b := f (4 * c + r)) (by omega)) (mul8_lt (a := 2) (b := f (4 * c + (r + 1) % 4)) (by omega)))
          rw [← HT.out] at HX
          have cz := a2.byte (4 * c + r) (by omega)
          have hf0 := a2.fz (4 * c + r)
          have A3 := a2.set (4 * c + r) (.int .u8 (mx f (4 * c + r) : Nat))
          have HS := hid (mix_set (4 * c + r) (mx f) fun _ => 0)
          rw [HS.out] at A3
          have A4 := a0.other (g' := w.heap.size + 1 + 1) (by omega) (4 * c + r) (.int .u8 (mx f (4 * c + r) : Nat))
          have A5 := a1.other (g' := w.heap.size + 1 + 1) (by omega) (4 * c + r) (.int .u8 (mx f (4 * c + r) : Nat))
          have B3 : Below w.heap.size w (wr.setCell ⟨w.heap.size + 1 + 1, 4 * c + r, none⟩ (.int .u8 (mx f (4 * c + r) : Nat))) := b0.setCell (by show _ ≤ w.heap.size + 1 + 1; omega) _
          clear a0 a1 a2 b0 HS HT ci
          generalize mix (4 * c + r) (mx f) (fun _ => 0) (4 * c + r) = o at *
          generalize mx f (4 * c + r) = y at *
          generalize mul8 2 (f (4 * c + r)) = p at *
          generalize mul8 2 (f (4 * c + (r + 1) % 4)) = q at *
          generalize f (4 * c + r) = x0 at *
          generalize f (4 * c + (r + 1) % 4) = x1 at *
          generalize f (4 * c + (r + 2) % 4) = x2 at *
          generalize f (4 * c + (r + 3) % 4) = x3 at *
          go_wp2_with fail
          go_region
          rw [HX.out]
          go_wp2_with fail
          go_roundw
          case rel => exact ⟨r + 1, by omega, by go_num, A4, A5, A3, bel_drawn B3 1⟩
          case measure => simp [intOf]; omega
        · have hge : ¬ (r : Int) < 4 := by omega
          have e : 4 * c + r = 4 * (c + 1) := by omega
          rw [e] at a2
          clear e hr hrl
          go_wp2_with fail
          go_roundw
          case rel => exact ⟨c + 1, by omega, by go_num, a0, a1, a2, b0⟩
          case measure => simp [intOf]; omega
    · obtain rfl : c = 4 := by omega
      rw [mix_all] at a2
      go_wp2_with (first | (refine wpList_lda rfl _ rfl (w.heap.size + 1 + 1) rfl _ a2 ?_) | (refine wpList_sta rfl rfl _ _ rfl (w.heap.size + 1) (mx f) rfl rfl _ a1 ?_))
      refine bodyPost_ret (v := .agg (av (mx f))) ?_ rfl ⟨rfl, bel_row b0 (by omega) _⟩
      exact results_av rfl _ _ (w.heap.size + 1) (mx f) rfl (a1.row _)
end Go.Proofs.Ytgjamfnhkeoedaa
