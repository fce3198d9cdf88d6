import Derived.Test.YtgcbfamlediafaaTimes
import Derived.Test.YtgcbfamlediafaaRefM
import Derived.Test.YtgcbfamlediafaaPTxt
import Derived.Test.YtgcbfamlediafaaNBase
import Derived.Deep.RegionLaw
import Derived.Deep.AppendLies
namespace Go.Proofs.Ytgcbfamlediafaa
set_option maxRecDepth 100000
open Go.RowKit
set_option linter.unusedVariables false

/-- Numbers as Go's. -/
def ic (l : List Nat) : List Int := l.map fun x : Nat => (x : Int)
theorem ic_length (l : List Nat) : (ic l).length = l.length := by simp [ic]
theorem ic_get (l : List Nat) (i : Nat) : (ic l).getD i 0 = ((l.getD i 0 : Nat) : Int) := by
  simp only [ic, List.getD, List.getElem?_map]
  cases l[i]? <;> rfl
theorem ic_append (a b : List Nat) : ic (a ++ b) = ic a ++ ic b := by simp [ic]
theorem ic_bytes {l : List Nat} (h : ∀ x ∈ l, x < 256) : ∀ z ∈ ic l, 0 ≤ z ∧ z ≤ 255 := by
  intro z hz
  obtain ⟨x, hx, rfl⟩ := List.mem_map.1 hz
  have := h x hx
  omega
theorem ic_toNat {zs : List Int} (h : ∀ z ∈ zs, 0 ≤ z ∧ z ≤ 255) : ic (zs.map Int.toNat) = zs := by
  unfold ic
  rw [List.map_map]
  conv => rhs; rw [← List.map_id zs]
  apply List.map_congr_left
  intro z hz
  have := h z hz
  show ((Int.toNat z : Nat) : Int) = z
  omega
theorem Bs.byte {w : World} {a : Option Addr} {n : Nat} {t : List Nat} (h : Bs w a n (ic t)) (i : Nat) (hi : i < n) : ∃ b off, a = some ⟨b, off, none⟩ ∧ w.cell? ⟨b, off + i, none⟩ = some (.int .u8 (t.getD i 0 : Nat)) := by
  rcases h.2.2 with h0 | ⟨b, off, e, hc⟩
  · omega
  · exact ⟨b, off, e, by rw [hc i hi, ic_get]⟩
theorem refMulA_ (f h : Nat → Nat) (w : World) (hf : ∀ i, i < 16 → f i < 256) (hh : ∀ i, i < 16 → h i < 256) :
    Calls Try.prog 107 #[.agg (av f), .agg (av h)] w fun e w' => e = .returned (.agg (av (gm f h))) ∧ Below w.heap.size w w' := by
  rw [av_pk hf, av_pk hh]
  exact refMul128_ (pk f) (pk h) w (pk_lt hh)
theorem refXorA_ (f h : Nat → Nat) (w : World) (hf : ∀ i, i < 16 → f i < 256) (hh : ∀ i, i < 16 → h i < 256) :
    Calls Try.prog 88 #[.agg (av f), .agg (av h)] w fun e w' => e = .returned (.agg (av fun i => f i ^^^ h i)) ∧ Below w.heap.size w w' := by
  have e : av (fun i => f i ^^^ h i) = bv (pk f ^^^ pk h) := by
    rw [← av_bv]
    exact av_ext fun i hi => by rw [dg_xor, dg_pk hf i hi, dg_pk hh i hi]
  rw [e, av_pk hf, av_pk hh]
  exact refXor_ (pk f) (pk h) w

theorem shr_cast (n m : Nat) : ((n : Int) / 2 ^ m % 256) = ((n / 2 ^ m % 256 : Nat) : Int) := by
  rw [Int.natCast_emod, Int.natCast_ediv, Int.natCast_pow]; rfl
set_option maxHeartbeats 1000000 in
theorem counter_ (a : Option Addr) (cap : Nat) (nz : List Nat) (n : Nat) (w : World) (hb : Bs w a 12 (ic nz)) (hn : n < 2 ^ 31) :
    Calls Try.prog 85 #[.slice a 12 cap, .int .i64 n] w fun e w' => e = .returned (.agg (av (cb nz n))) ∧ Below w.heap.size w w' := by
  obtain ⟨A0, A1, B0⟩ := new2 w (av fun _ => 0) (av fun _ => 0)
  go_enter Try.func85, Try.ntmps85
  go_wp2_with fail
  rw [zeros16a]
  generalize (w.alloc (.cells (av fun _ => 0) 98)).alloc (.cells (av fun _ => 0) 98) = w1 at *
  go_loopw [6] (fun i wr => ∃ j : Nat, j ≤ 12 ∧ i = .int .i64 j ∧ Ar wr w.heap.size (av fun _ => 0) ∧ Ar wr (w.heap.size + 1) (av (mix j (cb nz n) fun _ => 0)) ∧ Below w.heap.size w wr) (fun i _ => 12 - (intOf i).toNat)
  case atStart => exact ⟨0, by omega, rfl, A0, by rw [mix_zero]; exact A1, B0⟩
  case round =>
    obtain ⟨j, hj, rfl, a0, a1, b0⟩ := hrel
    clear A0 A1 B0
    by_cases hlt : j < 12
    · obtain ⟨b, off, rfl, hc⟩ := hb.byte j hlt
      have hck := (b0.cell (World.block_lt_of_cell? w _ hc)).trans hc
      have c1 := a1.byte j (by omega)
      have f1 := a1.fz j
      have HC : Hid (cb nz n j = nz.getD j 0) := by show _ = _; unfold cb; rw [if_pos hlt]
      have HS := hid (mix_set j (cb nz n) fun _ => 0)
      have A1 := a1.set j (.int .u8 (cb nz n j : Nat))
      rw [HS.out, HC.out] at A1
      have A0 := a0.other (g' := w.heap.size + 1) (by omega) j (.int .u8 (nz.getD j 0 : Nat))
      have B3 : Below w.heap.size w (wr.setCell ⟨w.heap.size + 1, j, none⟩ (.int .u8 (nz.getD j 0 : Nat))) := b0.setCell (by show _ ≤ w.heap.size + 1; omega) _
      clear a0 a1 b0 HS HC hc
      generalize mix j (cb nz n) (fun _ => 0) j = o at *
      generalize nz.getD j 0 = x at *
      go_wp2_with fail
      go_roundw
      case rel => exact ⟨j + 1, by omega, by go_num, A0, A1, B3⟩
      case measure => simp [intOf]; omega
    · have hge : ¬ (j : Int) < 12 := by omega
      rw [show j = 12 from by omega] at a1
      clear hlt hj
      obtain ⟨wo, rfl⟩ : ∃ wo, wo = wr := ⟨_, rfl⟩
      go_wp2_with fail
      go_loopw [7] (fun i wr => ∃ m : Nat, m ≤ 4 ∧ i = .int .i64 m ∧ Ar wr w.heap.size (av fun _ => 0) ∧ Ar wr (w.heap.size + 1) (av (mix (12 + m) (cb nz n) fun _ => 0)) ∧ Below w.heap.size w wr) (fun i _ => 4 - (intOf i).toNat)
      case atStart => exact ⟨0, by omega, rfl, a0, a1, b0⟩
      case round =>
        clear a0 a1 b0
        obtain ⟨m, hm, rfl, a0, a1, b0⟩ := hrel
        by_cases hlt : m < 4
        · have c1 := a1.byte (12 + m) (by omega)
          have f1 := a1.fz (12 + m)
          have HC : Hid (((cb nz n (12 + m) : Nat) : Int) = (n : Int) / 2 ^ (24 - 8 * m) % 256) := by
            show _ = _
            unfold cb
            rw [if_neg (by omega), show 12 + m - 12 = m from by omega, shr_cast]
          have HS := hid (mix_set (12 + m) (cb nz n) fun _ => 0)
          have A1 := a1.set (12 + m) (.int .u8 (cb nz n (12 + m) : Nat))
          rw [HS.out, HC.out] at A1
          have A0 := a0.other (g' := w.heap.size + 1) (by omega) (12 + m) (.int .u8 ((n : Int) / 2 ^ (24 - 8 * m) % 256))
          have B3 : Below w.heap.size w (wr.setCell ⟨w.heap.size + 1, 12 + m, none⟩ (.int .u8 ((n : Int) / 2 ^ (24 - 8 * m) % 256))) := b0.setCell (by show _ ≤ w.heap.size + 1; omega) _
          clear a0 a1 b0 HS HC
          generalize mix (12 + m) (cb nz n) (fun _ => 0) (12 + m) = o at *
          go_wp2_with fail
          go_roundw
          case rel => exact ⟨m + 1, by omega, by go_num, A0, A1, B3⟩
          case measure => simp [intOf]; omega
        · obtain rfl : m = 4 := by omega
          rw [mix_all] at a1
          go_wp2_with (first | (refine wpList_lda rfl _ rfl (w.heap.size + 1) rfl _ (by with_reducible exact a1) ?_) | (refine wpList_sta rfl rfl _ _ rfl w.heap.size (cb nz n) rfl rfl _ (by with_reducible exact a0) ?_))
          refine bodyPost_ret (v := .agg (av (cb nz n))) ?_ rfl ⟨rfl, bel_row b0 (Nat.le_refl _) _⟩
          exact results_av rfl _ _ w.heap.size (cb nz n) rfl (a0.row _)

theorem zx_end (z : Nat → Nat) (b : List Nat) (r k : Nat) (h : k = 16 ∨ b.length ≤ 16 * r + k) : av (mix k (zx z b r) z) = av (zx z b r) := av_ext fun i hi => by
  unfold mix
  by_cases hk : i < k
  · rw [if_pos hk]
  · rw [if_neg hk]
    unfold zx
    rw [if_neg (by omega)]
set_option maxHeartbeats 2000000 in
theorem folded_ (z h : Nat → Nat) (a : Option Addr) (n cap : Nat) (b : List Nat) (w : World) (hb : Bs w a n (ic b)) (hn : n ≤ 1000000000) (hz : ∀ i, i < 16 → z i < 256) (hh : ∀ i, i < 16 → h i < 256) (hby : ∀ x ∈ b, x < 256) :
    Calls Try.prog 87 #[.agg (av z), .agg (av h), .slice a n cap] w fun e w' => e = .returned (.agg (av (fo h b z))) ∧ Below w.heap.size w w' := by
  have hl : b.length = n := by have := hb.1; rwa [ic_length] at this
  have HL := hid hl
  have HZ := hid hz
  have HH := hid hh
  have HBY := hid hby
  clear hl hz hh hby
  obtain ⟨A0, A1, A2, B0⟩ := new3 w (av z) (av h) (av fun _ => 0)
  go_enter Try.func87, Try.ntmps87
  go_wp2_with fail
  rw [zeros16a]
  generalize ((w.alloc (.cells (av z) 98)).alloc (.cells (av h) 98)).alloc (.cells (av fun _ => 0) 98) = w1 at *
  go_loopw [7] (fun i wr => ∃ r : Nat, r ≤ (n + 15) / 16 ∧ i = .int .i64 (16 * (r : Int)) ∧ Ar wr w.heap.size (av (fd h b z r)) ∧ Ar wr (w.heap.size + 1) (av h) ∧ Ar wr (w.heap.size + 1 + 1) (av fun _ => 0) ∧ Below w.heap.size w wr) (fun i _ => n + 16 - (intOf i).toNat)
  case atStart => exact ⟨0, by omega, rfl, A0, A1, A2, B0⟩
  case round =>
    obtain ⟨r, hr, rfl, a0, a1, a2, b0⟩ := hrel
    clear A0 A1 A2 B0
    by_cases hlt : 16 * r < n
    · have hv := fd_lt (h := h) (b := b) HZ.out r
      have HN : Hid (fd h b z (r + 1) = gm (zx (fd h b z r) b r) h) := rfl
      have hi1 : (16 * (r : Int)) < (n : Int) := by omega
      generalize fd h b z r = v at *
      have HV := hid hv
      clear hv
      obtain ⟨wo, rfl⟩ : ∃ wo, wo = wr := ⟨_, rfl⟩
      go_wp2_with fail
      go_loopw [8] (fun i wr => ∃ k : Nat, k ≤ 16 ∧ 16 * r + k ≤ n ∧ i = .int .i64 k ∧ Ar wr w.heap.size (av (mix k (zx v b r) v)) ∧ Ar wr (w.heap.size + 1) (av h) ∧ Ar wr (w.heap.size + 1 + 1) (av fun _ => 0) ∧ Below w.heap.size w wr) (fun i _ => 16 - (intOf i).toNat)
      case atStart => exact ⟨0, by omega, by omega, rfl, by rw [mix_zero]; exact a0, a1, a2, b0⟩
      case round =>
        clear a0 a1 a2 b0
        obtain ⟨k, hk, hkn, rfl, a0, a1, a2, b0⟩ := hrel
        by_cases hgo : k < 16 ∧ 16 * r + k < n
        · obtain ⟨hk1, hk2⟩ := hgo
          obtain ⟨b1, off, rfl, hc⟩ := hb.byte (16 * r + k) hk2
          have hck := (b0.cell (World.block_lt_of_cell? w _ hc)).trans hc
          have c0 := a0.byte k hk1
          rw [mix_at] at c0
          have f0 := a0.fz k
          have e1 : (k : Int) < 16 := by omega
          have e2 : 16 * (r : Int) + (k : Int) < (n : Int) := by omega
          have ew : IntKind.i64.wrap (16 * (r : Int) + (k : Int)) = 16 * (r : Int) + (k : Int) := by rw [IntKind.wrap_i64]; omega
          have HX : Hid (bits .xor .u8 (v k : Int) (b.getD (16 * r + k) 0 : Int) = ((zx v b r k : Nat) : Int)) := by
            show _ = _
            rw [u8x (HV.out k hk1) (getD_lt HBY.out _)]
            unfold zx
            rw [if_pos (by rw [HL.out]; exact hk2)]
          have HS := hid (mix_set k (zx v b r) v)
          have A0 := a0.set k (.int .u8 (zx v b r k : Nat))
          rw [HS.out] at A0
          have A1 := a1.other (g' := w.heap.size) (by omega) k (.int .u8 (zx v b r k : Nat))
          have A2 := a2.other (g' := w.heap.size) (by omega) k (.int .u8 (zx v b r k : Nat))
          have B3 : Below w.heap.size w (wr.setCell ⟨w.heap.size, k, none⟩ (.int .u8 (zx v b r k : Nat))) := b0.setCell (Nat.le_refl _) _
          clear a0 a1 a2 b0 hc HS
          generalize b.getD (16 * r + k) 0 = y at *
          generalize v k = x at *
          go_wp2_with fail
          go_region
          rw [HX.out]
          generalize zx v b r k = o at *
          clear c0 f0 hck HX
          go_wp2_with fail
          go_roundw
          case rel => exact ⟨k + 1, by omega, by omega, by go_num, A0, A1, A2, bel_drawn B3 1⟩
          case measure => simp [intOf]; omega
        · have hx : ¬ (k : Int) < 16 ∨ ((k : Int) < 16 ∧ ¬ 16 * (r : Int) + (k : Int) < (n : Int)) := by omega
          rw [zx_end v b r k (by rw [HL.out]; omega)] at a0
          have k1 := fun w => refMulA_ (zx v b r) h w (zx_lt HV.out HBY.out r) HH.out
          rw [← HN.out] at k1
          generalize zx v b r = v1 at *
          generalize Hn : fd h b z (r + 1) = n1 at *
          have HN := hid Hn
          clear Hn hgo hk hkn
          have s0 := b0.size
          rcases hx with hx | ⟨hx1, hx⟩
          all_goals
            go_wp2_with (first | (refine wpList_lda rfl _ rfl w.heap.size rfl _ (by with_reducible exact a0) ?_) | (refine wpList_lda rfl _ rfl (w.heap.size + 1) rfl _ (by with_reducible exact a1) ?_))
            refine (k1 _).mono ?_
            rintro e w2 ⟨rfl, g2⟩
            have a0' := a0.kept g2
            have a0 := a0'.row (av n1)
            have a1 := (a1.kept g2).orow (g' := w.heap.size) (by omega) (av n1)
            have a2 := (a2.kept g2).orow (g' := w.heap.size) (by omega) (av n1)
            have b0 := bel_row (bel_bel b0 s0 g2) (g := w.heap.size) (Nat.le_refl _) (av n1)
            clear g2 k1
            go_wp2_with (refine wpList_sta rfl rfl _ _ rfl w.heap.size n1 rfl rfl _ (by with_reducible exact a0') ?_)
            go_roundw
            case rel => exact ⟨r + 1, by omega, by go_num, by rw [HN.out]; exact a0, a1, a2, b0⟩
            case measure => simp [intOf]; omega
    · have hge : ¬ (16 * (r : Int)) < (n : Int) := by omega
      have e : av (fd h b z r) = av (fo h b z) := by unfold fo; rw [HL.out, show r = (n + 15) / 16 from by omega]
      rw [e] at a0
      clear e
      obtain ⟨f, Hf⟩ : ∃ f, Hid (fo h b z = f) := ⟨_, rfl⟩
      rw [Hf.out] at a0
      go_wp2_with (first | (refine wpList_lda rfl _ rfl w.heap.size rfl _ (by with_reducible exact a0) ?_) | (refine wpList_sta rfl rfl _ _ rfl (w.heap.size + 1 + 1) f rfl rfl _ (by with_reducible exact a2) ?_))
      refine bodyPost_ret (v := .agg (av f)) ?_ rfl ⟨by rw [Hf.out], bel_row b0 (by omega) _⟩
      exact results_av rfl _ _ (w.heap.size + 1 + 1) f rfl (a2.row _)
end Go.Proofs.Ytgcbfamlediafaa
namespace Go.Proofs.Ytgcbfamlediafaa
set_option maxRecDepth 100000
open Go.RowKit
set_option linter.unusedVariables false

theorem clp_lt {a b : Nat} (ha : a < 256) : ∀ i, i ≤ 8 → clp a b i < 65536
  | 0, _ => by rw [clp]; omega
  | i + 1, h => by
    have h1 := clp_lt (b := b) ha i (by omega)
    rw [clp]
    split
    · refine Nat.xor_lt_two_pow (n := 16) h1 ?_
      have : 2 ^ i ≤ 2 ^ 8 := Nat.pow_le_pow_right (by omega) (by omega)
      have := Nat.mul_le_mul (show a ≤ 255 by omega) this
      omega
    · exact h1
theorem rdp_lt {p : Nat} (hp : p < 65536) : ∀ k, rdp p k < 65536
  | 0 => hp
  | k + 1 => by
    have h1 := rdp_lt hp k
    rw [rdp]
    split
    · refine Nat.xor_lt_two_pow (n := 16) h1 ?_
      have : 2 ^ (6 - k) ≤ 2 ^ 6 := Nat.pow_le_pow_right (by omega) (by omega)
      have := Nat.mul_le_mul (Nat.le_refl 283) this
      omega
    · exact h1

theorem xor64 (s q : Nat) (hs : s < 65536) (hq : q < 65536) : bits .xor .u64 (s : Int) (IntKind.u64.wrap ((q : Nat) : Int)) = ((s ^^^ q : Nat) : Int) := by
  have e : IntKind.u64.wrap ((q : Nat) : Int) = ((q : Nat) : Int) := by simp [IntKind.wrap, IntKind.bits, IntKind.signed]; omega
  rw [e]
  exact u64_xor_nat s q (by omega) (by omega)
theorem xor_shl (s a j : Nat) (hs : s < 65536) (ha : a < 256) (hj : j < 8) : bits .xor .u64 (s : Int) (IntKind.u64.wrap ((a : Int) * 2 ^ j)) = ((s ^^^ a * 2 ^ j : Nat) : Int) := by
  have h1 : 2 ^ j ≤ 2 ^ 7 := Nat.pow_le_pow_right (by omega) (by omega)
  have h2 := Nat.mul_le_mul (show a ≤ 255 by omega) h1
  have := xor64 s (a * 2 ^ j) hs (by omega)
  rwa [Int.natCast_mul, Int.natCast_pow] at this

theorem xor_shl2 (s j : Nat) (hs : s < 65536) (hj : j < 7) : bits .xor .u64 (s : Int) (IntKind.u64.wrap (283 * 2 ^ j)) = ((s ^^^ 283 * 2 ^ j : Nat) : Int) := by
  have h1 : 2 ^ j ≤ 2 ^ 6 := Nat.pow_le_pow_right (by omega) (by omega)
  have h2 := Nat.mul_le_mul (Nat.le_refl 283) h1
  have := xor64 s (283 * 2 ^ j) hs (by omega)
  rwa [Int.natCast_mul, Int.natCast_pow] at this
theorem bit64 (s m : Nat) (h : s < 65536) : (s / 2 ^ m % 2 = 1 → bits .and .u64 ((s : Int) / 2 ^ m) 1 = 1) ∧ (¬ s / 2 ^ m % 2 = 1 → bits .and .u64 ((s : Int) / 2 ^ m) 1 = 0) := by
  have hl : s / 2 ^ m < 65536 := Nat.lt_of_le_of_lt (Nat.div_le_self _ _) h
  have := u64_and_nat (s / 2 ^ m) 1 (by omega) (by omega)
  rw [show s / 2 ^ m &&& 1 = s / 2 ^ m % 2 from Nat.and_two_pow_sub_one_eq_mod _ 1, Int.natCast_ediv, Int.natCast_pow] at this
  have e : bits .and .u64 ((s : Int) / 2 ^ m) 1 = ((s / 2 ^ m % 2 : Nat) : Int) := this
  exact ⟨fun h1 => by rw [e, h1]; rfl, fun h0 => by rw [e, show s / 2 ^ m % 2 = 0 from by omega]; rfl⟩

set_option maxHeartbeats 400000 in
theorem refMul8_ (a b : Nat) (w : World) (ha : a < 256) (hb : b < 256) :
    Calls Try.prog 84 #[.int .u8 a, .int .u8 b] w fun e w' => e = .returned (.int .u8 (mul8 a b)) ∧ w' = w := by
  go_enter Try.func84, Try.ntmps84
  go_wp2
  go_loopw [7, 6] (fun i s wr => ∃ j : Nat, j ≤ 8 ∧ i = .int .i64 j ∧ s = .int .u64 (clp a b j : Nat) ∧ wr = w) (fun i _ _ => 8 - (intOf i).toNat)
  case atStart => exact ⟨0, by omega, rfl, rfl, rfl⟩
  case round =>
    obtain ⟨j, hj, rfl, rfl, rfl⟩ := hrel
    by_cases hlt : j < 8
    · obtain ⟨e1, e2⟩ := bit8 b j hb
      have hs := clp_lt (b := b) ha j (by omega)
      have HN : Hid (clp a b (j + 1) = if b / 2 ^ j % 2 = 1 then clp a b j ^^^ a * 2 ^ j else clp a b j) := rfl
      have HX := hid (xor_shl (clp a b j) a j hs ha hlt)
      generalize clp a b j = s at *
      by_cases hc : b / 2 ^ j % 2 = 1
      · have e3 := e1 hc
        rw [if_pos hc] at HN
        clear e1 e2 hc
        go_wp2
        go_roundw
        case rel => exact ⟨j + 1, by omega, by go_num, by rw [HX.out, HN.out], trivial⟩
        case measure => simp [intOf]; omega
      · have e3 := e2 hc
        rw [if_neg hc] at HN
        clear e1 e2 hc
        go_wp2
        go_roundw
        case rel => exact ⟨j + 1, by omega, by go_num, by rw [HN.out], trivial⟩
        case measure => simp [intOf]; omega
    · have hge : ¬ (j : Int) < 8 := by omega
      have HE : Hid (rdp (clp a b j) 7 = mul8 a b) := by show _ = _; rw [show j = 8 from by omega]; exact ref8 ha
      have hP := clp_lt (b := b) ha j hj
      have hm : mul8 a b < 256 := mul8_lt ha
      generalize clp a b j = P at *
      obtain ⟨M, HMM⟩ : ∃ M, Hid (mul8 a b = M) := ⟨_, rfl⟩
      rw [HMM.out] at HE hm
      clear hj hlt
      obtain ⟨wq, rfl⟩ : ∃ wq, wq = wr := ⟨_, rfl⟩
      go_wp2
      go_loopw [8, 6] (fun i s wr => ∃ m : Nat, 7 ≤ m ∧ m ≤ 14 ∧ i = .int .i64 m ∧ s = .int .u64 (rdp P (14 - m) : Nat) ∧ wr = wq) (fun i _ _ => (intOf i).toNat)
      case atStart => exact ⟨14, by omega, by omega, rfl, rfl, rfl⟩
      case round =>
        obtain ⟨m, hm1, hm2, rfl, rfl, rfl⟩ := hrel
        by_cases hlt : 8 ≤ m
        · have hs := rdp_lt hP (14 - m)
          have HN : Hid (rdp P (14 - (m - 1)) = if rdp P (14 - m) / 2 ^ m % 2 = 1 then rdp P (14 - m) ^^^ 283 * 2 ^ (m - 8) else rdp P (14 - m)) := by
            show _ = _
            rw [show 14 - (m - 1) = (14 - m) + 1 from by omega, rdp, show 14 - (14 - m) = m from by omega, show 6 - (14 - m) = m - 8 from by omega]
          obtain ⟨e1, e2⟩ := bit64 (rdp P (14 - m)) m hs
          have HX := hid (xor_shl2 (rdp P (14 - m)) (m - 8) hs (by omega))
          generalize rdp P (14 - m) = s at *
          by_cases hc : s / 2 ^ m % 2 = 1
          · have e3 := e1 hc
            rw [if_pos hc] at HN
            clear e1 e2 hc
            go_wp2
            go_roundw
            case rel => exact ⟨m - 1, by omega, by omega, by go_num, by rw [HX.out, HN.out], trivial⟩
            case measure => simp [intOf]; omega
          · have e3 := e2 hc
            rw [if_neg hc] at HN
            clear e1 e2 hc
            go_wp2
            go_roundw
            case rel => exact ⟨m - 1, by omega, by omega, by go_num, by rw [HN.out], trivial⟩
            case measure => simp [intOf]; omega
        · obtain rfl : m = 7 := by omega
          rw [show 14 - 7 = 7 from rfl, HE.out]
          have HM : Hid ((M : Int) % 256 = (M : Int)) := by show _ = _; omega
          go_wp2
          go_ret
          exact ⟨by rw [HMM.out]; first | rfl | exact ret_i8 HM.out, rfl⟩

set_option maxRecDepth 100000 in
set_option maxHeartbeats 400000 in
theorem refInv8_ (a : Nat) (w : World) (ha : a < 256) :
    Calls Try.prog 103 #[.int .u8 a] w fun e w' => e = .returned (.int .u8 (inv8 a)) ∧ w' = w := by
  obtain ⟨hi, h1, _⟩ := inv8_ok a ha
  have HI : Hid (inv8 a < 256) := hi
  have H1 : Hid (a ≠ 0 → mul8 a (inv8 a) = 1) := h1
  clear hi h1
  go_enter Try.func103, Try.ntmps103
  go_wp2
  go_loopw [3] (fun i wr => ∃ b : Nat, 1 ≤ b ∧ b ≤ 256 ∧ i = .int .i64 b ∧ Hid (∀ c, 1 ≤ c → c < b → mul8 a c ≠ 1) ∧ wr = w) (fun i _ => 256 - (intOf i).toNat)
  case atStart => exact ⟨1, by omega, by omega, rfl, fun c h1 h2 => by omega, rfl⟩
  case round =>
    obtain ⟨b, hb1, hb2, rfl, HN, rfl⟩ := hrel
    by_cases hlt : b < 256
    · have k1 := fun w => refMul8_ a b w ha hlt
      have HO := fun h => inv8_only ha hlt h
      have HQ : Hid (mul8 a b = 1 → b = inv8 a) := HO
      have HW : Hid (∀ h : mul8 a b ≠ 1, ∀ c, 1 ≤ c → c < b + 1 → mul8 a c ≠ 1) := by
        intro h c c1 c2
        by_cases e : c = b
        · rw [e]; exact h
        · exact HN.out c c1 (by omega)
      clear HO
      generalize hq : mul8 a b = q at *
      have HM : Hid ((b : Int) % 256 = (b : Int)) := by show _ = _; omega
      clear hq HN
      go_wp2_with fail
      refine (k1 _).mono ?_
      rintro e w2 ⟨rfl, rfl⟩
      by_cases hc : q = 1
      · have HE : Hid (b = inv8 a) := HQ.out hc
        rw [hc]
        go_wp2
        go_ret
        exact ⟨by first | exact ret_u8 HE.out | (rw [← HE.out]; exact ret_i8 HM.out), rfl⟩
      · have hne : ¬ (q : Int) = 1 := by omega
        have hnb : ((q : Int) == 1) = false := by simpa using hne
        have HW2 := hid (HW.out hc)
        go_wp2
        go_roundw
        case rel => exact ⟨b + 1, by omega, by omega, by go_num, HW2, trivial⟩
        case measure => simp [intOf]; omega
    · obtain rfl : b = 256 := by omega
      have HZ : Hid (inv8 a = 0) := by
        show _ = _
        by_cases h0 : a = 0
        · rw [h0]; rfl
        · have h := H1.out h0
          by_cases hz : inv8 a = 0
          · exact hz
          · exact absurd h (HN.out _ (by omega) HI.out)
      go_wp2
      go_ret
      exact ⟨ret_u8 HZ.out.symm, rfl⟩
end Go.Proofs.Ytgcbfamlediafaa
