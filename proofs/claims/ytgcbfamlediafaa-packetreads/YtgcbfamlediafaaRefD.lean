import Derived.Test.YtgcbfamlediafaaRefE
import Derived.Test.YtgcbfamlediafaaAes
import Derived.Test.YtgcbfamlediafaaNBase
namespace Go.Proofs.Ytgcbfamlediafaa
set_option maxRecDepth 100000
open Go.RowKit
set_option linter.unusedVariables false

theorem castdiv (v m : Nat) : (v : Int) / 2 ^ m = ((v / 2 ^ m : Nat) : Int) := by rw [Int.natCast_ediv, Int.natCast_pow]; rfl
theorem div_lt8 {v : Nat} (h : v < 256) (m : Nat) : v / 2 ^ m < 256 := Nat.lt_of_le_of_lt (Nat.div_le_self _ _) h
theorem sbit_lt {v : Nat} (h : v < 256) (i : Nat) : sbit v i < 256 :=
  xor_lt8 (xor_lt8 (xor_lt8 (xor_lt8 (xor_lt8 (div_lt8 h _) (div_lt8 h _)) (div_lt8 h _)) (div_lt8 h _)) (div_lt8 h _)) (div_lt8 (by omega) _)
theorem xor5 {v : Nat} (h : v < 256) (i : Nat) : bits .xor .u8 (bits .xor .u8 (bits .xor .u8 (bits .xor .u8 (bits .xor .u8 ((v : Int) / 2 ^ i) ((v : Int) / 2 ^ ((i + 4) % 8))) ((v : Int) / 2 ^ ((i + 5) % 8))) ((v : Int) / 2 ^ ((i + 6) % 8))) ((v : Int) / 2 ^ ((i + 7) % 8))) (99 / 2 ^ i) = ((sbit v i : Nat) : Int) := by
  have h99 : (99 : Int) / 2 ^ i = ((99 / 2 ^ i : Nat) : Int) := castdiv 99 i
  have d := div_lt8 h
  rw [h99, castdiv, castdiv, castdiv, castdiv, castdiv, u8_xor_nat _ _ (d _) (d _), u8_xor_nat _ _ (xor_lt8 (d _) (d _)) (d _), u8_xor_nat _ _ (xor_lt8 (xor_lt8 (d _) (d _)) (d _)) (d _), u8_xor_nat _ _ (xor_lt8 (xor_lt8 (xor_lt8 (d _) (d _)) (d _)) (d _)) (d _), u8_xor_nat _ _ (xor_lt8 (xor_lt8 (xor_lt8 (xor_lt8 (d _) (d _)) (d _)) (d _)) (d _)) (div_lt8 (by omega) _)]
  rfl
theorem sgo_lt {v : Nat} : ∀ i, i ≤ 8 → sgo v i < 256
  | 0, _ => by rw [sgo]; omega
  | i + 1, h => by
    rw [sgo]
    refine Nat.or_lt_two_pow (n := 8) (sgo_lt i (by omega)) ?_
    have h1 : 2 ^ i ≤ 2 ^ 7 := Nat.pow_le_pow_right (by omega) (by omega)
    have h2 := Nat.mul_le_mul (show sbit v i % 2 ≤ 1 by omega) h1
    omega
theorem or_spell (s q i : Nat) (hs : s < 256) (hq : q < 256) (hi : i < 8) : bits .or .u8 (s : Int) (bits .and .u8 (q : Int) 1 * 2 ^ i % 256) = ((s ||| q % 2 * 2 ^ i : Nat) : Int) := by
  have ha := u8_and_nat q 1 hq (by omega)
  rw [show q &&& 1 = q % 2 from Nat.and_two_pow_sub_one_eq_mod q 1] at ha
  have h1 : 2 ^ i ≤ 2 ^ 7 := Nat.pow_le_pow_right (by omega) (by omega)
  have h2 := Nat.mul_le_mul (show q % 2 ≤ 1 by omega) h1
  have e : bits .and .u8 (q : Int) 1 * 2 ^ i % 256 = ((q % 2 * 2 ^ i : Nat) : Int) := by
    rw [show (1 : Int) = ((1 : Nat) : Int) from rfl, ha, show (2 : Int) ^ i = ((2 ^ i : Nat) : Int) from by rw [Int.natCast_pow]; rfl, ← Int.natCast_mul]
    omega
  rw [e]
  exact u8_or_nat _ _ hs (by omega)

set_option maxRecDepth 100000 in
set_option maxHeartbeats 1000000 in
theorem refSBox_ (x : Nat) (w : World) (hx : x < 256) :
    Calls Try.prog 83 #[.int .u8 x] w fun e w' => e = .returned (.int .u8 (sbx x)) ∧ w' = w := by
  have HE := hid (sgo_ok x hx)
  have k1 := fun w => refInv8_ x w hx
  have hv : inv8 x < 256 := (inv8_ok x hx).1
  generalize inv8 x = v at *
  go_enter Try.func83, Try.ntmps83
  go_wp2_with fail
  refine (k1 _).mono ?_
  rintro e w2 ⟨rfl, rfl⟩
  clear k1
  go_wp2_with fail
  go_loopw [5, 4] (fun i o wr => ∃ j : Nat, j ≤ 8 ∧ i = .int .i64 j ∧ o = .int .u8 (sgo v j : Nat) ∧ wr = w2) (fun i _ _ => 8 - (intOf i).toNat)
  case atStart => exact ⟨0, by omega, rfl, rfl, rfl⟩
  case round =>
    obtain ⟨j, hj, rfl, rfl, rfl⟩ := hrel
    by_cases hlt : j < 8
    · have H5 := hid (xor5 hv j)
      have HO := hid (or_spell (sgo v j) (sbit v j) j (sgo_lt j hj) (sbit_lt hv j) hlt)
      have HN : Hid (sgo v (j + 1) = sgo v j ||| sbit v j % 2 * 2 ^ j) := rfl
      go_wp2_with fail
      go_roundw
      case rel => exact ⟨j + 1, by omega, by go_num, by rw [H5.out, HO.out, HN.out], trivial⟩
      case measure => simp [intOf]; omega
    · obtain rfl : j = 8 := by omega
      rw [HE.out]
      go_wp2_with fail
      go_ret
      exact ⟨rfl, rfl⟩
end Go.Proofs.Ytgcbfamlediafaa
namespace Go.Proofs.Ytgcbfamlediafaa
set_option maxRecDepth 100000
open Go.RowKit
set_option linter.unusedVariables false

/-- The document's cipher: the substitutions, the doubles, the round words. -/
structure Ci (w : World) (g : Nat) (k : Nat → Nat) : Prop where
  lt : g < w.heap.size
  box : ∀ x, x < 256 → w.cell? ⟨g, x, none⟩ = some (.int .u8 (sbx x : Nat))
  dbl : ∀ x, x < 256 → w.cell? ⟨g, 256 + x, none⟩ = some (.int .u8 (mul8 2 x : Nat))
  keys : ∀ j, j < 240 → w.cell? ⟨g, 512 + j, none⟩ = some (.int .u8 (k j : Nat))
theorem Ci.keep {w w' : World} {g B : Nat} {k : Nat → Nat} (h : Ci w g k) (hb : Below B w w') (hB : g < B) : Ci w' g k :=
  ⟨Nat.lt_of_lt_of_le h.lt hb.size, fun x hx => (hb.cell hB).trans (h.box x hx), fun x hx => (hb.cell hB).trans (h.dbl x hx), fun j hj => (hb.cell hB).trans (h.keys j hj)⟩

set_option maxRecDepth 100000 in
set_option maxHeartbeats 1000000 in
theorem keyed_ (g r : Nat) (k f : Nat → Nat) (w : World) (hc : Ci w g k) (hr : r ≤ 14) (hk : ∀ j, k j < 256) (hf : ∀ i, i < 16 → f i < 256) :
    Calls Try.prog 104 #[.pointer (some ⟨g, 0, none⟩), .agg (av f), .int .i64 r] w fun e w' => e = .returned (.agg (av (xk k r f))) ∧ Below w.heap.size w w' := by
  have hgl := hc.lt
  go_enter Try.func104, Try.ntmps104
  go_wp2_with fail
  rw [zeros16a]
  obtain ⟨A0, A1, B0⟩ := new2 w (av f) (av fun _ => 0)
  generalize (w.alloc (.cells (av f) 98)).alloc (.cells (av fun _ => 0) 98) = w1 at *
  go_loopw [7] (fun i wr => ∃ j : Nat, j ≤ 16 ∧ i = .int .i64 j ∧ Ar wr w.heap.size (av (mix j (xk k r f) f)) ∧ Ar wr (w.heap.size + 1) (av fun _ => 0) ∧ Below w.heap.size w wr) (fun i _ => 16 - (intOf i).toNat)
  case atStart => exact ⟨0, by omega, rfl, by rw [mix_zero]; exact A0, A1, B0⟩
  case round =>
    obtain ⟨j, hj, rfl, a0, a1, b0⟩ := hrel
    clear A0 A1 B0
    by_cases hlt : j < 16
    · have c0 := a0.byte j hlt
      rw [mix_at] at c0
      have cc := (hc.keep b0 hgl).keys (16 * r + j) (by omega)
      have hf0 := a0.fz j
      have HX : Hid (bits .xor .u8 (f j : Int) (k (16 * r + j) : Int) = ((xk k r f j : Nat) : Int)) := u8x (hf j hlt) (hk _)
      have HS := hid (mix_set j (xk k r f) f)
      generalize f j = x at *
      generalize k (16 * r + j) = y at *
      go_wp2_with fail
      go_region
      rw [HX.out]
      have A3 := a0.set j (.int .u8 (xk k r f j : Nat))
      rw [HS.out] at A3
      have A4 := a1.other (g' := w.heap.size) (by omega) j (.int .u8 (xk k r f j : Nat))
      have B3 : Below w.heap.size w (wr.setCell ⟨w.heap.size, j, none⟩ (.int .u8 (xk k r f j : Nat))) := b0.setCell (Nat.le_refl _) _
      generalize xk k r f j = z at *
      clear a0 a1 b0 c0 cc hf0 HS HX
      go_wp2_with fail
      go_roundw
      case rel => exact ⟨j + 1, by omega, by go_num, A3, A4, bel_drawn B3 1⟩
      case measure => simp [intOf]; omega
    · obtain rfl : j = 16 := by omega
      rw [mix_all] at a0
      go_wp2_with (first | (refine wpList_lda rfl _ rfl w.heap.size rfl _ a0 ?_) | (refine wpList_sta rfl rfl _ _ rfl (w.heap.size + 1) (xk k r f) rfl rfl _ a1 ?_))
      refine bodyPost_ret (v := .agg (av (xk k r f))) ?_ rfl ⟨rfl, bel_row b0 (by omega) _⟩
      exact results_av rfl _ _ (w.heap.size + 1) (xk k r f) rfl (a1.row _)

set_option maxRecDepth 100000 in
set_option maxHeartbeats 1000000 in
theorem turned_ (g : Nat) (k f : Nat → Nat) (w : World) (hc : Ci w g k) (hf : ∀ i, i < 16 → f i < 256) :
    Calls Try.prog 105 #[.pointer (some ⟨g, 0, none⟩), .agg (av f)] w fun e w' => e = .returned (.agg (av (tn f))) ∧ Below w.heap.size w w' := by
  have hgl := hc.lt
  go_enter Try.func105, Try.ntmps105
  go_wp2_with fail
  rw [zeros16a]
  obtain ⟨A0, A1, A2, B0⟩ := new3 w (av f) (av fun _ => 0) (av fun _ => 0)
  generalize ((w.alloc (.cells (av f) 98)).alloc (.cells (av fun _ => 0) 98)).alloc (.cells (av fun _ => 0) 98) = w1 at *
  go_loopw [6] (fun i wr => ∃ c : Nat, c ≤ 4 ∧ i = .int .i64 c ∧ Ar wr w.heap.size (av f) ∧ Ar wr (w.heap.size + 1) (av fun _ => 0) ∧ Ar wr (w.heap.size + 1 + 1) (av (mix (4 * c) (tn f) fun _ => 0)) ∧ Below w.heap.size w wr) (fun i _ => 4 - (intOf i).toNat)
  case atStart => exact ⟨0, by omega, rfl, A0, A1, by rw [Nat.mul_zero, mix_zero]; exact A2, B0⟩
  case round =>
    obtain ⟨c, hcl, rfl, a0, a1, a2, b0⟩ := hrel
    clear A0 A1 A2 B0
    by_cases hlt : c < 4
    · obtain ⟨wq, rfl⟩ : ∃ wq, wq = wr := ⟨_, rfl⟩
      go_wp2_with fail
      go_loopw [7] (fun i wr => ∃ r : Nat, r ≤ 4 ∧ i = .int .i64 r ∧ Ar wr w.heap.size (av f) ∧ Ar wr (w.heap.size + 1) (av fun _ => 0) ∧ Ar wr (w.heap.size + 1 + 1) (av (mix (4 * c + r) (tn f) fun _ => 0)) ∧ Below w.heap.size w wr) (fun i _ => 4 - (intOf i).toNat)
      case atStart => exact ⟨0, by omega, rfl, a0, a1, a2, b0⟩
      case round =>
        obtain ⟨r, hrl, rfl, a0, a1, a2, b0⟩ := hrel
        by_cases hr : r < 4
        · have c0 := a0.byte (4 * ((c + r) % 4) + r) (by omega)
          have hx := hf (4 * ((c + r) % 4) + r) (by omega)
          have HT : Hid (tn f (4 * c + r) = sbx (f (4 * ((c + r) % 4) + r))) := by
            show _ = _
            unfold tn
            rw [show (4 * c + r) / 4 = c from by omega, show (4 * c + r) % 4 = r from by omega]
          have cb := (hc.keep b0 hgl).box _ hx
          have c2 := a2.byte (4 * c + r) (by omega)
          have hf0 := a2.fz (4 * c + r)
          have A3 := a2.set (4 * c + r) (.int .u8 (sbx (f (4 * ((c + r) % 4) + r)) : Nat))
          have HS := hid (mix_set (4 * c + r) (tn f) fun _ => 0)
          rw [HT.out] at HS
          rw [HS.out] at A3
          have A4 := a0.other (g' := w.heap.size + 1 + 1) (by omega) (4 * c + r) (.int .u8 (sbx (f (4 * ((c + r) % 4) + r)) : Nat))
          have A5 := a1.other (g' := w.heap.size + 1 + 1) (by omega) (4 * c + r) (.int .u8 (sbx (f (4 * ((c + r) % 4) + r)) : Nat))
          have B3 : Below w.heap.size w (wr.setCell ⟨w.heap.size + 1 + 1, 4 * c + r, none⟩ (.int .u8 (sbx (f (4 * ((c + r) % 4) + r)) : Nat))) := b0.setCell (by show _ ≤ w.heap.size + 1 + 1; omega) _
          clear a0 a1 a2 b0 HS HT
          generalize mix (4 * c + r) (tn f) (fun _ => 0) (4 * c + r) = o at *
          generalize sbx (f (4 * ((c + r) % 4) + r)) = y at *
          generalize f (4 * ((c + r) % 4) + r) = x at *
          go_wp2_with fail
          go_region
          go_wp2_with fail
          go_roundw
          case rel => exact ⟨r + 1, by omega, by go_num, A4, A5, A3, bel_drawn B3 1⟩
          case measure => simp [intOf]; omega
        · have hge : ¬ (r : Int) < 4 := by omega
          have e : 4 * c + r = 4 * (c + 1) := by omega
          rw [e] at a2
          clear e hr hrl
          go_wp2_with fail
          go_roundw
          case rel => exact ⟨c + 1, by omega, by go_num, a0, a1, a2, b0⟩
          case measure => simp [intOf]; omega
    · obtain rfl : c = 4 := by omega
      rw [mix_all] at a2
      go_wp2_with (first | (refine wpList_lda rfl _ rfl (w.heap.size + 1 + 1) rfl _ a2 ?_) | (refine wpList_sta rfl rfl _ _ rfl (w.heap.size + 1) (tn f) rfl rfl _ a1 ?_))
      refine bodyPost_ret (v := .agg (av (tn f))) ?_ rfl ⟨rfl, bel_row b0 (by omega) _⟩
      exact results_av rfl _ _ (w.heap.size + 1) (tn f) rfl (a1.row _)
end Go.Proofs.Ytgcbfamlediafaa
namespace Go.Proofs.Ytgcbfamlediafaa
set_option maxRecDepth 100000
open Go.RowKit
set_option linter.unusedVariables false

theorem mx_spell {a b c d p q : Nat} (ha : a < 256) (hb : b < 256) (hc : c < 256) (hp : p < 256) (hq : q < 256) :
    bits .xor .u8 (bits .xor .u8 (bits .xor .u8 (bits .xor .u8 (p : Int) (q : Int)) (a : Int)) (b : Int)) (c : Int) = ((p ^^^ q ^^^ a ^^^ b ^^^ c : Nat) : Int) := by
  rw [u8x hp hq, u8x (xor_lt8 hp hq) ha, u8x (xor_lt8 (xor_lt8 hp hq) ha) hb, u8x (xor_lt8 (xor_lt8 (xor_lt8 hp hq) ha) hb) hc]

set_option maxRecDepth 100000 in
set_option maxHeartbeats 4000000 in
theorem mixed_ (g : Nat) (k f : Nat → Nat) (w : World) (hc : Ci w g k) (hf : ∀ i, i < 16 → f i < 256) :
    Calls Try.prog 106 #[.pointer (some ⟨g, 0, none⟩), .agg (av f)] w fun e w' => e = .returned (.agg (av (mx f))) ∧ Below w.heap.size w w' := by
  have hgl := hc.lt
  go_enter Try.func106, Try.ntmps106
  go_wp2_with fail
  rw [zeros16a]
  obtain ⟨A0, A1, A2, B0⟩ := new3 w (av f) (av fun _ => 0) (av fun _ => 0)
  generalize ((w.alloc (.cells (av f) 98)).alloc (.cells (av fun _ => 0) 98)).alloc (.cells (av fun _ => 0) 98) = w1 at *
  go_loopw [6] (fun i wr => ∃ c : Nat, c ≤ 4 ∧ i = .int .i64 c ∧ Ar wr w.heap.size (av f) ∧ Ar wr (w.heap.size + 1) (av fun _ => 0) ∧ Ar wr (w.heap.size + 1 + 1) (av (mix (4 * c) (mx f) fun _ => 0)) ∧ Below w.heap.size w wr) (fun i _ => 4 - (intOf i).toNat)
  case atStart => exact ⟨0, by omega, rfl, A0, A1, by rw [Nat.mul_zero, mix_zero]; exact A2, B0⟩
  case round =>
    obtain ⟨c, hcl, rfl, a0, a1, a2, b0⟩ := hrel
    clear A0 A1 A2 B0
    by_cases hlt : c < 4
    · obtain ⟨wq, rfl⟩ : ∃ wq, wq = wr := ⟨_, rfl⟩
      go_wp2_with fail
      go_loopw [7] (fun i wr => ∃ r : Nat, r ≤ 4 ∧ i = .int .i64 r ∧ Ar wr w.heap.size (av f) ∧ Ar wr (w.heap.size + 1) (av fun _ => 0) ∧ Ar wr (w.heap.size + 1 + 1) (av (mix (4 * c + r) (mx f) fun _ => 0)) ∧ Below w.heap.size w wr) (fun i _ => 4 - (intOf i).toNat)
      case atStart => exact ⟨0, by omega, rfl, a0, a1, a2, b0⟩
      case round =>
        obtain ⟨r, hrl, rfl, a0, a1, a2, b0⟩ := hrel
        by_cases hr : r < 4
        · have c0 := a0.byte (4 * c + r) (by omega)
          have c1 := a0.byte (4 * c + (r + 1) % 4) (by omega)
          have c2 := a0.byte (4 * c + (r + 2) % 4) (by omega)
          have c3 := a0.byte (4 * c + (r + 3) % 4) (by omega)
          have h0 := hf (4 * c + r) (by omega)
          have h1 := hf (4 * c + (r + 1) % 4) (by omega)
          have h2 := hf (4 * c + (r + 2) % 4) (by omega)
          have h3 := hf (4 * c + (r + 3) % 4) (by omega)
          have HT : Hid (mx f (4 * c + r) = mul8 2 (f (4 * c + r)) ^^^ mul8 2 (f (4 * c + (r + 1) % 4)) ^^^ f (4 * c + (r + 1) % 4) ^^^ f (4 * c + (r + 2) % 4) ^^^ f (4 * c + (r + 3) % 4)) := by
            show _ = _
            unfold mx
            rw [show (4 * c + r) / 4 = c from by omega, show (4 * c + r) % 4 = r from by omega]
          have ci := hc.keep b0 hgl
          have d0 := ci.dbl _ h0
          have d1 := ci.dbl _ h1
          have HX := hid (mx_spell (d := 0) h1 h2 h3 (mul8_lt (a := 2) (b := f (4 * c + r)) (by omega)) (mul8_lt (a := 2) (b := f (4 * c + (r + 1) % 4)) (by omega)))
          rw [← HT.out] at HX
          have cz := a2.byte (4 * c + r) (by omega)
          have hf0 := a2.fz (4 * c + r)
          have A3 := a2.set (4 * c + r) (.int .u8 (mx f (4 * c + r) : Nat))
          have HS := hid (mix_set (4 * c + r) (mx f) fun _ => 0)
          rw [HS.out] at A3
          have A4 := a0.other (g' := w.heap.size + 1 + 1) (by omega) (4 * c + r) (.int .u8 (mx f (4 * c + r) : Nat))
          have A5 := a1.other (g' := w.heap.size + 1 + 1) (by omega) (4 * c + r) (.int .u8 (mx f (4 * c + r) : Nat))
          have B3 : Below w.heap.size w (wr.setCell ⟨w.heap.size + 1 + 1, 4 * c + r, none⟩ (.int .u8 (mx f (4 * c + r) : Nat))) := b0.setCell (by show _ ≤ w.heap.size + 1 + 1; omega) _
          clear a0 a1 a2 b0 HS HT ci
          generalize mix (4 * c + r) (mx f) (fun _ => 0) (4 * c + r) = o at *
          generalize mx f (4 * c + r) = y at *
          generalize mul8 2 (f (4 * c + r)) = p at *
          generalize mul8 2 (f (4 * c + (r + 1) % 4)) = q at *
          generalize f (4 * c + r) = x0 at *
          generalize f (4 * c + (r + 1) % 4) = x1 at *
          generalize f (4 * c + (r + 2) % 4) = x2 at *
          generalize f (4 * c + (r + 3) % 4) = x3 at *
          go_wp2_with fail
          go_region
          rw [HX.out]
          go_wp2_with fail
          go_roundw
          case rel => exact ⟨r + 1, by omega, by go_num, A4, A5, A3, bel_drawn B3 1⟩
          case measure => simp [intOf]; omega
        · have hge : ¬ (r : Int) < 4 := by omega
          have e : 4 * c + r = 4 * (c + 1) := by omega
          rw [e] at a2
          clear e hr hrl
          go_wp2_with fail
          go_roundw
          case rel => exact ⟨c + 1, by omega, by go_num, a0, a1, a2, b0⟩
          case measure => simp [intOf]; omega
    · obtain rfl : c = 4 := by omega
      rw [mix_all] at a2
      go_wp2_with (first | (refine wpList_lda rfl _ rfl (w.heap.size + 1 + 1) rfl _ a2 ?_) | (refine wpList_sta rfl rfl _ _ rfl (w.heap.size + 1) (mx f) rfl rfl _ a1 ?_))
      refine bodyPost_ret (v := .agg (av (mx f))) ?_ rfl ⟨rfl, bel_row b0 (by omega) _⟩
      exact results_av rfl _ _ (w.heap.size + 1) (mx f) rfl (a1.row _)
end Go.Proofs.Ytgcbfamlediafaa
namespace Go.Proofs.Ytgcbfamlediafaa
set_option maxRecDepth 100000
open Go.RowKit
set_option linter.unusedVariables false

set_option maxRecDepth 100000 in
set_option maxHeartbeats 4000000 in
theorem refBlock_ (g : Nat) (k f : Nat → Nat) (w : World) (hc : Ci w g k) (hk : ∀ j, k j < 256) (hf : ∀ i, i < 16 → f i < 256) :
    Calls Try.prog 86 #[.pointer (some ⟨g, 0, none⟩), .agg (av f)] w fun e w' => e = .returned (.agg (av (bl k f 14))) ∧ Below w.heap.size w w' := by
  have hgl := hc.lt
  have C1 := fun w hc => keyed_ g 0 k f w hc (by omega) hk hf
  rw [show xk k 0 f = bl k f 0 from rfl] at C1
  obtain ⟨A0, A1, B0⟩ := new2 w (av f) (av fun _ => 0)
  go_enter Try.func86, Try.ntmps86
  go_wp2_with (refine wpList_lda rfl _ rfl w.heap.size rfl _ (by exact A0) ?_)
  rw [zeros16a]
  generalize (w.alloc (.cells (av f) 98)).alloc (.cells (av fun _ => 0) 98) = w1 at *
  have S0 := B0.size
  have l1 := A1.lt
  refine (C1 _ (hc.keep B0 hgl)).mono ?_
  rintro e w2 ⟨rfl, g2⟩
  have A1 := (A1.kept g2).alloc (.cells (av (bl k f 0)) 98)
  have A2 := Ar.new w2 (av (bl k f 0))
  have S2 := g2.size
  have B0 := bel_bel B0 S0 g2
  have B0 := B0.alloc B0.size (.cells (av (bl k f 0)) 98)
  clear g2 C1 A0 S0
  have hn : w.heap.size + 1 < w2.heap.size := by omega
  go_wp2_with (refine wpList_stna rfl rfl _ _ rfl _ _ _ rfl rfl rfl (by rfl) ?_)
  generalize hgb : w2.heap.size = gb at *
  generalize w2.alloc (.cells (av (bl k f 0)) 98) = w3 at *
  clear hgb l1 S2
  go_loopw [6] (fun i wr => ∃ q : Nat, q ≤ 14 ∧ i = .int .i64 ((q : Int) + 1) ∧ Ar wr (w.heap.size + 1) (av fun _ => 0) ∧ Ar wr gb (av (bl k f q)) ∧ Below w.heap.size w wr) (fun i _ => 15 - (intOf i).toNat)
  case atStart => exact ⟨0, by omega, rfl, A1, A2, B0⟩
  case round =>
    obtain ⟨q, hq, rfl, a1, a2, b0⟩ := hrel
    clear A1 A2 B0
    by_cases hlt : q < 14
    · have hfl := bl_lt hk hf q
      have S := b0.size
      have HN : Hid (bl k f (q + 1) = xk k (q + 1) (if q + 1 < 14 then mx (tn (bl k f q)) else tn (bl k f q))) := rfl
      have k1 := fun w hc => turned_ g k (bl k f q) w hc hfl
      have k2 := fun w hc => mixed_ g k (tn (bl k f q)) w hc (tn_lt hfl)
      have k3 := fun w hc => keyed_ g (q + 1) k (if q + 1 < 14 then mx (tn (bl k f q)) else tn (bl k f q)) w hc (by omega) hk (by split; exact mx_lt (tn_lt hfl); exact tn_lt hfl)
      rw [← HN.out, show ((q + 1 : Nat) : Int) = (q : Int) + 1 from rfl] at k3
      go_wp2_with (refine wpList_lda rfl _ rfl gb rfl _ (by exact a2) ?_)
      refine (k1 _ (hc.keep b0 hgl)).mono ?_
      rintro e wa ⟨rfl, g2⟩
      have a1 := (a1.kept g2).orow (g' := gb) (by omega) (av (tn (bl k f q)))
      have a2' := a2.kept g2
      have a2 := a2'.row (av (tn (bl k f q)))
      have b0 := bel_row (bel_bel b0 S g2) (g := gb) (by omega) (av (tn (bl k f q)))
      have S := b0.size
      clear g2 k1
      by_cases h14 : q + 1 < 14
      · have i14 : (q : Int) + 1 < 14 := by omega
        simp only [if_pos h14] at k3
        obtain ⟨n, Hn⟩ : ∃ n, Hid (bl k f (q + 1) = n) := ⟨_, rfl⟩
        rw [Hn.out] at k3
        clear HN
        generalize tn (bl k f q) = t at *
        generalize mx t = m at *
        go_wp2_with (first | (refine wpList_sta rfl rfl _ _ rfl gb t rfl rfl _ (by exact a2') ?_) | (refine wpList_lda rfl _ rfl gb rfl _ (by exact a2) ?_))
        clear a2'
        generalize wa.setRow gb (av t) = wb at *
        refine (k2 _ (hc.keep b0 hgl)).mono ?_
        rintro e wc ⟨rfl, g2⟩
        have a1 := (a1.kept g2).orow (g' := gb) (by omega) (av m)
        have a2' := a2.kept g2
        have a2 := a2'.row (av m)
        have b0 := bel_row (bel_bel b0 S g2) (g := gb) (by omega) (av m)
        have S := b0.size
        clear g2 k2
        go_wp2_with (first | (refine wpList_sta rfl rfl _ _ rfl gb m rfl rfl _ (by exact a2') ?_) | (refine wpList_lda rfl _ rfl gb rfl _ (by exact a2) ?_))
        clear a2'
        generalize wc.setRow gb (av m) = wd at *
        refine (k3 _ (hc.keep b0 hgl)).mono ?_
        rintro e we ⟨rfl, g2⟩
        have a1 := (a1.kept g2).orow (g' := gb) (by omega) (av n)
        have a2' := a2.kept g2
        have a2 := a2'.row (av n)
        have b0 := bel_row (bel_bel b0 S g2) (g := gb) (by omega) (av n)
        clear g2 k3 S
        go_wp2_with (refine wpList_sta rfl rfl _ _ rfl gb n rfl rfl _ (by exact a2') ?_)
        go_roundw
        case rel => exact ⟨q + 1, by omega, by go_num, a1, by rw [Hn.out]; exact a2, b0⟩
        case measure => simp [intOf]; omega
      · have i14 : ¬ (q : Int) + 1 < 14 := by omega
        simp only [if_neg h14] at k3
        obtain ⟨n, Hn⟩ : ∃ n, Hid (bl k f (q + 1) = n) := ⟨_, rfl⟩
        rw [Hn.out] at k3
        clear HN
        generalize tn (bl k f q) = t at *
        go_wp2_with (first | (refine wpList_sta rfl rfl _ _ rfl gb t rfl rfl _ (by exact a2') ?_) | (refine wpList_lda rfl _ rfl gb rfl _ (by exact a2) ?_))
        clear a2'
        generalize wa.setRow gb (av t) = wb at *
        refine (k3 _ (hc.keep b0 hgl)).mono ?_
        rintro e we ⟨rfl, g2⟩
        have a1 := (a1.kept g2).orow (g' := gb) (by omega) (av n)
        have a2' := a2.kept g2
        have a2 := a2'.row (av n)
        have b0 := bel_row (bel_bel b0 S g2) (g := gb) (by omega) (av n)
        clear g2 k3 k2 S
        go_wp2_with (refine wpList_sta rfl rfl _ _ rfl gb n rfl rfl _ (by exact a2') ?_)
        go_roundw
        case rel => exact ⟨q + 1, by omega, by go_num, a1, by rw [Hn.out]; exact a2, b0⟩
        case measure => simp [intOf]; omega
    · obtain rfl : q = 14 := by omega
      go_wp2_with (first | (refine wpList_lda rfl _ rfl gb rfl _ (by exact a2) ?_) | (refine wpList_sta rfl rfl _ _ rfl (w.heap.size + 1) (bl k f 14) rfl rfl _ (by exact a1) ?_))
      refine bodyPost_ret (v := .agg (av (bl k f 14))) ?_ rfl ⟨rfl, bel_row b0 (by omega) _⟩
      exact results_av rfl _ _ (w.heap.size + 1) (bl k f 14) rfl (a1.row _)
end Go.Proofs.Ytgcbfamlediafaa
