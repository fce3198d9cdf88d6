import Derived.Test.YtnjfckijpbgagaaMul
import Derived.Test.YtnjfckijpbgagaaGcm
import Derived.Test.YtnjfckijpbgagaaABase
namespace Go.Proofs.Ytnjfckijpbgagaa
set_option maxRecDepth 100000
open Go.RowKit
set_option linter.unusedVariables false

theorem clp_lt {a b : Nat} (ha : a < 256) : ∀ i, i ≤ 8 → clp a b i < 65536
  | 0, _ => by rw [clp]; omega
  | i + 1, h => by
    have h1 := clp_lt (b := b) ha i (by omega)
    rw [clp]
    split
    · refine Nat.xor_lt_two_pow (n := 16) h1 ?_
      have : 2 ^ i ≤ 2 ^ 8 := Nat.pow_le_pow_right (by omega) (by omega)
      have := Nat.mul_le_mul (show a ≤ 255 by omega) this
      omega
    · exact h1
theorem rdp_lt {p : Nat} (hp : p < 65536) : ∀ k, rdp p k < 65536
  | 0 => hp
  | k + 1 => by
    have h1 := rdp_lt hp k
    rw [rdp]
    split
    · refine Nat.xor_lt_two_pow (n := 16) h1 ?_
      have : 2 ^ (6 - k) ≤ 2 ^ 6 := Nat.pow_le_pow_right (by omega) (by omega)
      have := Nat.mul_le_mul (Nat.le_refl 283) this
      omega
    · exact h1

theorem xor64 (s q : Nat) (hs : s < 65536) (hq : q < 65536) : bits .xor .u64 (s : Int) (IntKind.u64.wrap ((q : Nat) : Int)) = ((s ^^^ q : Nat) : Int) := by
  have e : IntKind.u64.wrap ((q : Nat) : Int) = ((q : Nat) : Int) := by simp [IntKind.wrap, IntKind.bits, IntKind.signed]; omega
  rw [e]
  exact u64_xor_nat s q (by omega) (by omega)
theorem xor_shl (s a j : Nat) (hs : s < 65536) (ha : a < 256) (hj : j < 8) : bits .xor .u64 (s : Int) (IntKind.u64.wrap ((a : Int) * 2 ^ j)) = ((s ^^^ a * 2 ^ j : Nat) : Int) := by
  have h1 : 2 ^ j ≤ 2 ^ 7 := Nat.pow_le_pow_right (by omega) (by omega)
  have h2 := Nat.mul_le_mul (show a ≤ 255 by omega) h1
  have := xor64 s (a * 2 ^ j) hs (by omega)
  rwa [Int.natCast_mul, Int.natCast_pow] at this

theorem xor_shl2 (s j : Nat) (hs : s < 65536) (hj : j < 7) : bits .xor .u64 (s : Int) (IntKind.u64.wrap (283 * 2 ^ j)) = ((s ^^^ 283 * 2 ^ j : Nat) : Int) := by
  have h1 : 2 ^ j ≤ 2 ^ 6 := Nat.pow_le_pow_right (by omega) (by omega)
  have h2 := Nat.mul_le_mul (Nat.le_refl 283) h1
  have := xor64 s (283 * 2 ^ j) hs (by omega)
  rwa [Int.natCast_mul, Int.natCast_pow] at this
theorem bit64 (s m : Nat) (h : s < 65536) : (s / 2 ^ m % 2 = 1 → bits .and .u64 ((s : Int) / 2 ^ m) 1 = 1) ∧ (¬ s / 2 ^ m % 2 = 1 → bits .and .u64 ((s : Int) / 2 ^ m) 1 = 0) := by
  have hl : s / 2 ^ m < 65536 := Nat.lt_of_le_of_lt (Nat.div_le_self _ _) h
  have := u64_and_nat (s / 2 ^ m) 1 (by omega) (by omega)
  rw [show s / 2 ^ m &&& 1 = s / 2 ^ m % 2 from Nat.and_two_pow_sub_one_eq_mod _ 1, Int.natCast_ediv, Int.natCast_pow] at this
  have e : bits .and .u64 ((s : Int) / 2 ^ m) 1 = ((s / 2 ^ m % 2 : Nat) : Int) := this
  exact ⟨fun h1 => by rw [e, h1]; rfl, fun h0 => by rw [e, show s / 2 ^ m % 2 = 0 from by omega]; rfl⟩

set_option maxHeartbeats 400000 in
theorem refMul8_ (a b : Nat) (w : World) (ha : a < 256) (hb : b < 256) :
    Calls Try.prog 78 #[.int .u8 a, .int .u8 b] w fun e w' => e = .returned (.int .u8 (mul8 a b)) ∧ w' = w := by
  go_enter Try.func78, Try.ntmps78
  go_wp2
  go_loopw [7, 6] (fun i s wr => ∃ j : Nat, j ≤ 8 ∧ i = .int .i64 j ∧ s = .int .u64 (clp a b j : Nat) ∧ wr = w) (fun i _ _ => 8 - (intOf i).toNat)
  case atStart => exact ⟨0, by omega, rfl, rfl, rfl⟩
  case round =>
    obtain ⟨j, hj, rfl, rfl, rfl⟩ := hrel
    by_cases hlt : j < 8
    · obtain ⟨e1, e2⟩ := bit8 b j hb
      have hs := clp_lt (b := b) ha j (by omega)
      have HN : Hid (clp a b (j + 1) = if b / 2 ^ j % 2 = 1 then clp a b j ^^^ a * 2 ^ j else clp a b j) := rfl
      have HX := hid (xor_shl (clp a b j) a j hs ha hlt)
      generalize clp a b j = s at *
      by_cases hc : b / 2 ^ j % 2 = 1
      · have e3 := e1 hc
        rw [if_pos hc] at HN
        clear e1 e2 hc
        go_wp2
        go_roundw
        case rel => exact ⟨j + 1, by omega, by go_num, by rw [HX.out, HN.out], trivial⟩
        case measure => simp [intOf]; omega
      · have e3 := e2 hc
        rw [if_neg hc] at HN
        clear e1 e2 hc
        go_wp2
        go_roundw
        case rel => exact ⟨j + 1, by omega, by go_num, by rw [HN.out], trivial⟩
        case measure => simp [intOf]; omega
    · have hge : ¬ (j : Int) < 8 := by omega
      have HE : Hid (rdp (clp a b j) 7 = mul8 a b) := by show _ = _; rw [show j = 8 from by omega]; exact ref8 ha
      have hP := clp_lt (b := b) ha j hj
      have hm : mul8 a b < 256 := mul8_lt ha
      generalize clp a b j = P at *
      obtain ⟨M, HMM⟩ : ∃ M, Hid (mul8 a b = M) := ⟨_, rfl⟩
      rw [HMM.out] at HE hm
      clear hj hlt
      obtain ⟨wq, rfl⟩ : ∃ wq, wq = wr := ⟨_, rfl⟩
      go_wp2
      go_loopw [8, 6] (fun i s wr => ∃ m : Nat, 7 ≤ m ∧ m ≤ 14 ∧ i = .int .i64 m ∧ s = .int .u64 (rdp P (14 - m) : Nat) ∧ wr = wq) (fun i _ _ => (intOf i).toNat)
      case atStart => exact ⟨14, by omega, by omega, rfl, rfl, rfl⟩
      case round =>
        obtain ⟨m, hm1, hm2, rfl, rfl, rfl⟩ := hrel
        by_cases hlt : 8 ≤ m
        · have hs := rdp_lt hP (14 - m)
          have HN : Hid (rdp P (14 - (m - 1)) = if rdp P (14 - m) / 2 ^ m % 2 = 1 then rdp P (14 - m) ^^^ 283 * 2 ^ (m - 8) else rdp P (14 - m)) := by
            show _ = _
            rw [show 14 - (m - 1) = (14 - m) + 1 from by omega, rdp, show 14 - (14 - m) = m from by omega, show 6 - (14 - m) = m - 8 from by omega]
          obtain ⟨e1, e2⟩ := bit64 (rdp P (14 - m)) m hs
          have HX := hid (xor_shl2 (rdp P (14 - m)) (m - 8) hs (by omega))
          generalize rdp P (14 - m) = s at *
          by_cases hc : s / 2 ^ m % 2 = 1
          · have e3 := e1 hc
            rw [if_pos hc] at HN
            clear e1 e2 hc
            go_wp2
            go_roundw
            case rel => exact ⟨m - 1, by omega, by omega, by go_num, by rw [HX.out, HN.out], trivial⟩
            case measure => simp [intOf]; omega
          · have e3 := e2 hc
            rw [if_neg hc] at HN
            clear e1 e2 hc
            go_wp2
            go_roundw
            case rel => exact ⟨m - 1, by omega, by omega, by go_num, by rw [HN.out], trivial⟩
            case measure => simp [intOf]; omega
        · obtain rfl : m = 7 := by omega
          rw [show 14 - 7 = 7 from rfl, HE.out]
          have HM : Hid ((M : Int) % 256 = (M : Int)) := by show _ = _; omega
          go_wp2
          go_ret
          exact ⟨by rw [HMM.out]; first | rfl | exact ret_i8 HM.out, rfl⟩

set_option maxRecDepth 100000 in
set_option maxHeartbeats 400000 in
theorem refInv8_ (a : Nat) (w : World) (ha : a < 256) :
    Calls Try.prog 100 #[.int .u8 a] w fun e w' => e = .returned (.int .u8 (inv8 a)) ∧ w' = w := by
  obtain ⟨hi, h1, _⟩ := inv8_ok a ha
  have HI : Hid (inv8 a < 256) := hi
  have H1 : Hid (a ≠ 0 → mul8 a (inv8 a) = 1) := h1
  clear hi h1
  go_enter Try.func100, Try.ntmps100
  go_wp2
  go_loopw [3] (fun i wr => ∃ b : Nat, 1 ≤ b ∧ b ≤ 256 ∧ i = .int .i64 b ∧ Hid (∀ c, 1 ≤ c → c < b → mul8 a c ≠ 1) ∧ wr = w) (fun i _ => 256 - (intOf i).toNat)
  case atStart => exact ⟨1, by omega, by omega, rfl, fun c h1 h2 => by omega, rfl⟩
  case round =>
    obtain ⟨b, hb1, hb2, rfl, HN, rfl⟩ := hrel
    by_cases hlt : b < 256
    · have k1 := fun w => refMul8_ a b w ha hlt
      have HO := fun h => inv8_only ha hlt h
      have HQ : Hid (mul8 a b = 1 → b = inv8 a) := HO
      have HW : Hid (∀ h : mul8 a b ≠ 1, ∀ c, 1 ≤ c → c < b + 1 → mul8 a c ≠ 1) := by
        intro h c c1 c2
        by_cases e : c = b
        · rw [e]; exact h
        · exact HN.out c c1 (by omega)
      clear HO
      generalize hq : mul8 a b = q at *
      have HM : Hid ((b : Int) % 256 = (b : Int)) := by show _ = _; omega
      clear hq HN
      go_wp2_with fail
      refine (k1 _).mono ?_
      rintro e w2 ⟨rfl, rfl⟩
      by_cases hc : q = 1
      · have HE : Hid (b = inv8 a) := HQ.out hc
        rw [hc]
        go_wp2
        go_ret
        exact ⟨by first | exact ret_u8 HE.out | (rw [← HE.out]; exact ret_i8 HM.out), rfl⟩
      · have hne : ¬ (q : Int) = 1 := by omega
        have hnb : ((q : Int) == 1) = false := by simpa using hne
        have HW2 := hid (HW.out hc)
        go_wp2
        go_roundw
        case rel => exact ⟨b + 1, by omega, by omega, by go_num, HW2, trivial⟩
        case measure => simp [intOf]; omega
    · obtain rfl : b = 256 := by omega
      have HZ : Hid (inv8 a = 0) := by
        show _ = _
        by_cases h0 : a = 0
        · rw [h0]; rfl
        · have h := H1.out h0
          by_cases hz : inv8 a = 0
          · exact hz
          · exact absurd h (HN.out _ (by omega) HI.out)
      go_wp2
      go_ret
      exact ⟨ret_u8 HZ.out.symm, rfl⟩
end Go.Proofs.Ytnjfckijpbgagaa
namespace Go.Proofs.Ytnjfckijpbgagaa
set_option maxRecDepth 100000
open Go.RowKit
set_option linter.unusedVariables false

theorem castdiv (v m : Nat) : (v : Int) / 2 ^ m = ((v / 2 ^ m : Nat) : Int) := by rw [Int.natCast_ediv, Int.natCast_pow]; rfl
theorem div_lt8 {v : Nat} (h : v < 256) (m : Nat) : v / 2 ^ m < 256 := Nat.lt_of_le_of_lt (Nat.div_le_self _ _) h
theorem sbit_lt {v : Nat} (h : v < 256) (i : Nat) : sbit v i < 256 :=
  xor_lt8 (xor_lt8 (xor_lt8 (xor_lt8 (xor_lt8 (div_lt8 h _) (div_lt8 h _)) (div_lt8 h _)) (div_lt8 h _)) (div_lt8 h _)) (div_lt8 (by omega) _)
theorem xor5 {v : Nat} (h : v < 256) (i : Nat) : bits .xor .u8 (bits .xor .u8 (bits .xor .u8 (bits .xor .u8 (bits .xor .u8 ((v : Int) / 2 ^ i) ((v : Int) / 2 ^ ((i + 4) % 8))) ((v : Int) / 2 ^ ((i + 5) % 8))) ((v : Int) / 2 ^ ((i + 6) % 8))) ((v : Int) / 2 ^ ((i + 7) % 8))) (99 / 2 ^ i) = ((sbit v i : Nat) : Int) := by
  have h99 : (99 : Int) / 2 ^ i = ((99 / 2 ^ i : Nat) : Int) := castdiv 99 i
  have d := div_lt8 h
  rw [h99, castdiv, castdiv, castdiv, castdiv, castdiv, u8_xor_nat _ _ (d _) (d _), u8_xor_nat _ _ (xor_lt8 (d _) (d _)) (d _), u8_xor_nat _ _ (xor_lt8 (xor_lt8 (d _) (d _)) (d _)) (d _), u8_xor_nat _ _ (xor_lt8 (xor_lt8 (xor_lt8 (d _) (d _)) (d _)) (d _)) (d _), u8_xor_nat _ _ (xor_lt8 (xor_lt8 (xor_lt8 (xor_lt8 (d _) (d _)) (d _)) (d _)) (d _)) (div_lt8 (by omega) _)]
  rfl
theorem sgo_lt {v : Nat} : ∀ i, i ≤ 8 → sgo v i < 256
  | 0, _ => by rw [sgo]; omega
  | i + 1, h => by
    rw [sgo]
    refine Nat.or_lt_two_pow (n := 8) (sgo_lt i (by omega)) ?_
    have h1 : 2 ^ i ≤ 2 ^ 7 := Nat.pow_le_pow_right (by omega) (by omega)
    have h2 := Nat.mul_le_mul (show sbit v i % 2 ≤ 1 by omega) h1
    omega
theorem or_spell (s q i : Nat) (hs : s < 256) (hq : q < 256) (hi : i < 8) : bits .or .u8 (s : Int) (bits .and .u8 (q : Int) 1 * 2 ^ i % 256) = ((s ||| q % 2 * 2 ^ i : Nat) : Int) := by
  have ha := u8_and_nat q 1 hq (by omega)
  rw [show q &&& 1 = q % 2 from Nat.and_two_pow_sub_one_eq_mod q 1] at ha
  have h1 : 2 ^ i ≤ 2 ^ 7 := Nat.pow_le_pow_right (by omega) (by omega)
  have h2 := Nat.mul_le_mul (show q % 2 ≤ 1 by omega) h1
  have e : bits .and .u8 (q : Int) 1 * 2 ^ i % 256 = ((q % 2 * 2 ^ i : Nat) : Int) := by
    rw [show (1 : Int) = ((1 : Nat) : Int) from rfl, ha, show (2 : Int) ^ i = ((2 ^ i : Nat) : Int) from by rw [Int.natCast_pow]; rfl, ← Int.natCast_mul]
    omega
  rw [e]
  exact u8_or_nat _ _ hs (by omega)

set_option maxRecDepth 100000 in
set_option maxHeartbeats 1000000 in
theorem refSBox_ (x : Nat) (w : World) (hx : x < 256) :
    Calls Try.prog 77 #[.int .u8 x] w fun e w' => e = .returned (.int .u8 (sbx x)) ∧ w' = w := by
  have HE := hid (sgo_ok x hx)
  have k1 := fun w => refInv8_ x w hx
  have hv : inv8 x < 256 := (inv8_ok x hx).1
  generalize inv8 x = v at *
  go_enter Try.func77, Try.ntmps77
  go_wp2_with fail
  refine (k1 _).mono ?_
  rintro e w2 ⟨rfl, rfl⟩
  clear k1
  go_wp2_with fail
  go_loopw [5, 4] (fun i o wr => ∃ j : Nat, j ≤ 8 ∧ i = .int .i64 j ∧ o = .int .u8 (sgo v j : Nat) ∧ wr = w2) (fun i _ _ => 8 - (intOf i).toNat)
  case atStart => exact ⟨0, by omega, rfl, rfl, rfl⟩
  case round =>
    obtain ⟨j, hj, rfl, rfl, rfl⟩ := hrel
    by_cases hlt : j < 8
    · have H5 := hid (xor5 hv j)
      have HO := hid (or_spell (sgo v j) (sbit v j) j (sgo_lt j hj) (sbit_lt hv j) hlt)
      have HN : Hid (sgo v (j + 1) = sgo v j ||| sbit v j % 2 * 2 ^ j) := rfl
      go_wp2_with fail
      go_roundw
      case rel => exact ⟨j + 1, by omega, by go_num, by rw [H5.out, HO.out, HN.out], trivial⟩
      case measure => simp [intOf]; omega
    · obtain rfl : j = 8 := by omega
      rw [HE.out]
      go_wp2_with fail
      go_ret
      exact ⟨rfl, rfl⟩
end Go.Proofs.Ytnjfckijpbgagaa
namespace Go.Proofs.Ytnjfckijpbgagaa
set_option maxRecDepth 100000
open Go.RowKit
set_option linter.unusedVariables false

/-- The document's cipher: the substitutions, the doubles, the round words. -/
structure Ci (w : World) (g : Nat) (k : Nat → Nat) : Prop where
  lt : g < w.heap.size
  box : ∀ x, x < 256 → w.cell? ⟨g, x, none⟩ = some (.int .u8 (sbx x : Nat))
  dbl : ∀ x, x < 256 → w.cell? ⟨g, 256 + x, none⟩ = some (.int .u8 (mul8 2 x : Nat))
  keys : ∀ j, j < 240 → w.cell? ⟨g, 512 + j, none⟩ = some (.int .u8 (k j : Nat))
theorem Ci.keep {w w' : World} {g B : Nat} {k : Nat → Nat} (h : Ci w g k) (hb : Below B w w') (hB : g < B) : Ci w' g k :=
  ⟨Nat.lt_of_lt_of_le h.lt hb.size, fun x hx => (hb.cell hB).trans (h.box x hx), fun x hx => (hb.cell hB).trans (h.dbl x hx), fun j hj => (hb.cell hB).trans (h.keys j hj)⟩

set_option maxRecDepth 100000 in
set_option maxHeartbeats 1000000 in
theorem keyed_ (g r : Nat) (k f : Nat → Nat) (w : World) (hc : Ci w g k) (hr : r ≤ 14) (hk : ∀ j, k j < 256) (hf : ∀ i, i < 16 → f i < 256) :
    Calls Try.prog 101 #[.pointer (some ⟨g, 0, none⟩), .agg (av f), .int .i64 r] w fun e w' => e = .returned (.agg (av (xk k r f))) ∧ Below w.heap.size w w' := by
  have hgl := hc.lt
  go_enter Try.func101, Try.ntmps101
  go_wp2_with fail
  rw [zeros16a]
  obtain ⟨A0, A1, B0⟩ := new2 w (av f) (av fun _ => 0)
  generalize (w.alloc (.cells (av f) 96)).alloc (.cells (av fun _ => 0) 96) = w1 at *
  go_loopw [7] (fun i wr => ∃ j : Nat, j ≤ 16 ∧ i = .int .i64 j ∧ Ar wr w.heap.size (av (mix j (xk k r f) f)) ∧ Ar wr (w.heap.size + 1) (av fun _ => 0) ∧ Below w.heap.size w wr) (fun i _ => 16 - (intOf i).toNat)
  case atStart => exact ⟨0, by omega, rfl, by rw [mix_zero]; exact A0, A1, B0⟩
  case round =>
    obtain ⟨j, hj, rfl, a0, a1, b0⟩ := hrel
    clear A0 A1 B0
    by_cases hlt : j < 16
    · have c0 := a0.byte j hlt
      rw [mix_at] at c0
      have cc := (hc.keep b0 hgl).keys (16 * r + j) (by omega)
      have hf0 := a0.fz j
      have HX : Hid (bits .xor .u8 (f j : Int) (k (16 * r + j) : Int) = ((xk k r f j : Nat) : Int)) := u8x (hf j hlt) (hk _)
      have HS := hid (mix_set j (xk k r f) f)
      generalize f j = x at *
      generalize k (16 * r + j) = y at *
      go_wp2_with fail
      go_region
      rw [HX.out]
      have A3 := a0.set j (.int .u8 (xk k r f j : Nat))
      rw [HS.out] at A3
      have A4 := a1.other (g' := w.heap.size) (by omega) j (.int .u8 (xk k r f j : Nat))
      have B3 : Below w.heap.size w (wr.setCell ⟨w.heap.size, j, none⟩ (.int .u8 (xk k r f j : Nat))) := b0.setCell (Nat.le_refl _) _
      generalize xk k r f j = z at *
      clear a0 a1 b0 c0 cc hf0 HS HX
      go_wp2_with fail
      go_roundw
      case rel => exact ⟨j + 1, by omega, by go_num, A3, A4, bel_drawn B3 1⟩
      case measure => simp [intOf]; omega
    · obtain rfl : j = 16 := by omega
      rw [mix_all] at a0
      go_wp2_with (first | (refine wpList_lda rfl _ rfl w.heap.size rfl _ a0 ?_) | (refine wpList_sta rfl rfl _ _ rfl (w.heap.size + 1) (xk k r f) rfl rfl _ a1 ?_))
      refine bodyPost_ret (v := .agg (av (xk k r f))) ?_ rfl ⟨rfl, bel_row b0 (by omega) _⟩
      exact results_av rfl _ _ (w.heap.size + 1) (xk k r f) rfl (a1.row _)

set_option maxRecDepth 100000 in
set_option maxHeartbeats 1000000 in
theorem turned_ (g : Nat) (k f : Nat → Nat) (w : World) (hc : Ci w g k) (hf : ∀ i, i < 16 → f i < 256) :
    Calls Try.prog 102 #[.pointer (some ⟨g, 0, none⟩), .agg (av f)] w fun e w' => e = .returned (.agg (av (tn f))) ∧ Below w.heap.size w w' := by
  have hgl := hc.lt
  go_enter Try.func102, Try.ntmps102
  go_wp2_with fail
  rw [zeros16a]
  obtain ⟨A0, A1, A2, B0⟩ := new3 w (av f) (av fun _ => 0) (av fun _ => 0)
  generalize ((w.alloc (.cells (av f) 96)).alloc (.cells (av fun _ => 0) 96)).alloc (.cells (av fun _ => 0) 96) = w1 at *
  go_loopw [6] (fun i wr => ∃ c : Nat, c ≤ 4 ∧ i = .int .i64 c ∧ Ar wr w.heap.size (av f) ∧ Ar wr (w.heap.size + 1) (av fun _ => 0) ∧ Ar wr (w.heap.size + 1 + 1) (av (mix (4 * c) (tn f) fun _ => 0)) ∧ Below w.heap.size w wr) (fun i _ => 4 - (intOf i).toNat)
  case atStart => exact ⟨0, by omega, rfl, A0, A1, by rw [Nat.mul_zero, mix_zero]; exact A2, B0⟩
  case round =>
    obtain ⟨c, hcl, rfl, a0, a1, a2, b0⟩ := hrel
    clear A0 A1 A2 B0
    by_cases hlt : c < 4
    · obtain ⟨wq, rfl⟩ : ∃ wq, wq = wr := ⟨_, rfl⟩
      go_wp2_with fail
      go_loopw [7] (fun i wr => ∃ r : Nat, r ≤ 4 ∧ i = .int .i64 r ∧ Ar wr w.heap.size (av f) ∧ Ar wr (w.heap.size + 1) (av fun _ => 0) ∧ Ar wr (w.heap.size + 1 + 1) (av (mix (4 * c + r) (tn f) fun _ => 0)) ∧ Below w.heap.size w wr) (fun i _ => 4 - (intOf i).toNat)
      case atStart => exact ⟨0, by omega, rfl, a0, a1, a2, b0⟩
      case round =>
        obtain ⟨r, hrl, rfl, a0, a1, a2, b0⟩ := hrel
        by_cases hr : r < 4
        · have c0 := a0.byte (4 * ((c + r) % 4) + r) (by omega)
          have hx := hf (4 * ((c + r) % 4) + r) (by omega)
          have HT : Hid (tn f (4 * c + r) = sbx (f (4 * ((c + r) % 4) + r))) := by
            show _ = _
            unfold tn
            rw [show (4 * c + r) / 4 = c from by omega, show (4 * c + r) % 4 = r from by omega]
          have cb := (hc.keep b0 hgl).box _ hx
          have c2 := a2.byte (4 * c + r) (by omega)
          have hf0 := a2.fz (4 * c + r)
          have A3 := a2.set (4 * c + r) (.int .u8 (sbx (f (4 * ((c + r) % 4) + r)) : Nat))
          have HS := hid (mix_set (4 * c + r) (tn f) fun _ => 0)
          rw [HT.out] at HS
          rw [HS.out] at A3
          have A4 := a0.other (g' := w.heap.size + 1 + 1) (by omega) (4 * c + r) (.int .u8 (sbx (f (4 * ((c + r) % 4) + r)) : Nat))
          have A5 := a1.other (g' := w.heap.size + 1 + 1) (by omega) (4 * c + r) (.int .u8 (sbx (f (4 * ((c + r) % 4) + r)) : Nat))
          have B3 : Below w.heap.size w (wr.setCell ⟨w.heap.size + 1 + 1, 4 * c + r, none⟩ (.int .u8 (sbx (f (4 * ((c + r) % 4) + r)) : Nat))) := b0.setCell (by show _ ≤ w.heap.size + 1 + 1; omega) _
          clear a0 a1 a2 b0 HS HT
          generalize mix (4 * c + r) (tn f) (fun _ => 0) (4 * c + r) = o at *
          generalize sbx (f (4 * ((c + r) % 4) + r)) = y at *
          generalize f (4 * ((c + r) % 4) + r) = x at *
          go_wp2_with fail
          go_region
          go_wp2_with fail
          go_roundw
          case rel => exact ⟨r + 1, by omega, by go_num, A4, A5, A3, bel_drawn B3 1⟩
          case measure => simp [intOf]; omega
        · have hge : ¬ (r : Int) < 4 := by omega
          have e : 4 * c + r = 4 * (c + 1) := by omega
          rw [e] at a2
          clear e hr hrl
          go_wp2_with fail
          go_roundw
          case rel => exact ⟨c + 1, by omega, by go_num, a0, a1, a2, b0⟩
          case measure => simp [intOf]; omega
    · obtain rfl : c = 4 := by omega
      rw [mix_all] at a2
      go_wp2_with (first | (refine wpList_lda rfl _ rfl (w.heap.size + 1 + 1) rfl _ a2 ?_) | (refine wpList_sta rfl rfl _ _ rfl (w.heap.size + 1) (tn f) rfl rfl _ a1 ?_))
      refine bodyPost_ret (v := .agg (av (tn f))) ?_ rfl ⟨rfl, bel_row b0 (by omega) _⟩
      exact results_av rfl _ _ (w.heap.size + 1) (tn f) rfl (a1.row _)
end Go.Proofs.Ytnjfckijpbgagaa
namespace Go.Proofs.Ytnjfckijpbgagaa
set_option maxRecDepth 100000
open Go.RowKit
set_option linter.unusedVariables false

theorem mx_spell {a b c d p q : Nat} (ha : a < 256) (hb : b < 256) (hc : c < 256) (hp : p < 256) (hq : q < 256) :
    bits .xor .u8 (bits .xor .u8 (bits .xor .u8 (bits .xor .u8 (p : Int) (q : Int)) (a : Int)) (b : Int)) (c : Int) = ((p ^^^ q ^^^ a ^^^ b ^^^ c : Nat) : Int) := by
  rw [u8x hp hq, u8x (xor_lt8 hp hq) ha, u8x (xor_lt8 (xor_lt8 hp hq) ha) hb, u8x (xor_lt8 (xor_lt8 (xor_lt8 hp hq) ha) hb) hc]

set_option maxRecDepth 100000 in
set_option maxHeartbeats 4000000 in
theorem mixed_ (g : Nat) (k f : Nat → Nat) (w : World) (hc : Ci w g k) (hf : ∀ i, i < 16 → f i < 256) :
    Calls Try.prog 103 #[.pointer (some ⟨g, 0, none⟩), .agg (av f)] w fun e w' => e = .returned (.agg (av (mx f))) ∧ Below w.heap.size w w' := by
  have hgl := hc.lt
  go_enter Try.func103, Try.ntmps103
  go_wp2_with fail
  rw [zeros16a]
  obtain ⟨A0, A1, A2, B0⟩ := new3 w (av f) (av fun _ => 0) (av fun _ => 0)
  generalize ((w.alloc (.cells (av f) 96)).alloc (.cells (av fun _ => 0) 96)).alloc (.cells (av fun _ => 0) 96) = w1 at *
  go_loopw [6] (fun i wr => ∃ c : Nat, c ≤ 4 ∧ i = .int .i64 c ∧ Ar wr w.heap.size (av f) ∧ Ar wr (w.heap.size + 1) (av fun _ => 0) ∧ Ar wr (w.heap.size + 1 + 1) (av (mix (4 * c) (mx f) fun _ => 0)) ∧ Below w.heap.size w wr) (fun i _ => 4 - (intOf i).toNat)
  case atStart => exact ⟨0, by omega, rfl, A0, A1, by rw [Nat.mul_zero, mix_zero]; exact A2, B0⟩
  case round =>
    obtain ⟨c, hcl, rfl, a0, a1, a2, b0⟩ := hrel
    clear A0 A1 A2 B0
    by_cases hlt : c < 4
    · obtain ⟨wq, rfl⟩ : ∃ wq, wq = wr := ⟨_, rfl⟩
      go_wp2_with fail
      go_loopw [7] (fun i wr => ∃ r : Nat, r ≤ 4 ∧ i = .int .i64 r ∧ Ar wr w.heap.size (av f) ∧ Ar wr (w.heap.size + 1) (av fun _ => 0) ∧ Ar wr (w.heap.size + 1 + 1) (av (mix (4 * c + r) (mx f) fun _ => 0)) ∧ Below w.heap.size w wr) (fun i _ => 4 - (intOf i).toNat)
      case atStart => exact ⟨0, by omega, rfl, a0, a1, a2, b0⟩
      case round =>
        obtain ⟨r, hrl, rfl, a0, a1, a2, b0⟩ := hrel
        by_cases hr : r < 4
        · have c0 := a0.byte (4 * c + r) (by omega)
          have c1 := a0.byte (4 * c + (r + 1) % 4) (by omega)
          have c2 := a0.byte (4 * c + (r + 2) % 4) (by omega)
          have c3 := a0.byte (4 * c + (r + 3) % 4) (by omega)
          have h0 := hf (4 * c + r) (by omega)
          have h1 := hf (4 * c + (r + 1) % 4) (by omega)
          have h2 := hf (4 * c + (r + 2) % 4) (by omega)
          have h3 := hf (4 * c + (r + 3) % 4) (by omega)
          have HT : Hid (mx f (4 * c + r) = mul8 2 (f (4 * c + r)) ^^^ mul8 2 (f (4 * c + (r + 1) % 4)) ^^^ f (4 * c + (r + 1) % 4) ^^^ f (4 * c + (r + 2) % 4) ^^^ f (4 * c + (r + 3) % 4)) := by
            show _ = _
            unfold mx
            rw [show (4 * c + r) / 4 = c from by omega, show (4 * c + r) % 4 = r from by omega]
          have ci := hc.keep b0 hgl
          have d0 := ci.dbl _ h0
          have d1 := ci.dbl _ h1
          have HX := hid (mx_spell (d := 0) h1 h2 h3 (mul8_lt (a := 2) (b := f (4 * c + r)) (by omega)) (mul8_lt (a := 2) (b := f (4 * c + (r + 1) % 4)) (by omega)))
          rw [← HT.out] at HX
          have cz := a2.byte (4 * c + r) (by omega)
          have hf0 := a2.fz (4 * c + r)
          have A3 := a2.set (4 * c + r) (.int .u8 (mx f (4 * c + r) : Nat))
          have HS := hid (mix_set (4 * c + r) (mx f) fun _ => 0)
          rw [HS.out] at A3
          have A4 := a0.other (g' := w.heap.size + 1 + 1) (by omega) (4 * c + r) (.int .u8 (mx f (4 * c + r) : Nat))
          have A5 := a1.other (g' := w.heap.size + 1 + 1) (by omega) (4 * c + r) (.int .u8 (mx f (4 * c + r) : Nat))
          have B3 : Below w.heap.size w (wr.setCell ⟨w.heap.size + 1 + 1, 4 * c + r, none⟩ (.int .u8 (mx f (4 * c + r) : Nat))) := b0.setCell (by show _ ≤ w.heap.size + 1 + 1; omega) _
          clear a0 a1 a2 b0 HS HT ci
          generalize mix (4 * c + r) (mx f) (fun _ => 0) (4 * c + r) = o at *
          generalize mx f (4 * c + r) = y at *
          generalize mul8 2 (f (4 * c + r)) = p at *
          generalize mul8 2 (f (4 * c + (r + 1) % 4)) = q at *
          generalize f (4 * c + r) = x0 at *
          generalize f (4 * c + (r + 1) % 4) = x1 at *
          generalize f (4 * c + (r + 2) % 4) = x2 at *
          generalize f (4 * c + (r + 3) % 4) = x3 at *
          go_wp2_with fail
          go_region
          rw [HX.out]
          go_wp2_with fail
          go_roundw
          case rel => exact ⟨r + 1, by omega, by go_num, A4, A5, A3, bel_drawn B3 1⟩
          case measure => simp [intOf]; omega
        · have hge : ¬ (r : Int) < 4 := by omega
          have e : 4 * c + r = 4 * (c + 1) := by omega
          rw [e] at a2
          clear e hr hrl
          go_wp2_with fail
          go_roundw
          case rel => exact ⟨c + 1, by omega, by go_num, a0, a1, a2, b0⟩
          case measure => simp [intOf]; omega
    · obtain rfl : c = 4 := by omega
      rw [mix_all] at a2
      go_wp2_with (first | (refine wpList_lda rfl _ rfl (w.heap.size + 1 + 1) rfl _ a2 ?_) | (refine wpList_sta rfl rfl _ _ rfl (w.heap.size + 1) (mx f) rfl rfl _ a1 ?_))
      refine bodyPost_ret (v := .agg (av (mx f))) ?_ rfl ⟨rfl, bel_row b0 (by omega) _⟩
      exact results_av rfl _ _ (w.heap.size + 1) (mx f) rfl (a1.row _)
end Go.Proofs.Ytnjfckijpbgagaa
