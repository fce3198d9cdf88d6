import Derived.Test.YtfgnllfgccbolaaDoorRefU
import Derived.Test.YtfgnllfgccbolaaDoorJoinC
import Derived.Deep.RegionHeld
namespace Go.Proofs.YtfgnllfgccbolaaDoor
open Go.RowKit
set_option linter.unusedVariables false

/-- The document's map in a block of its own. -/
def Am (w : World) (g : Nat) (cs : Array Value) : Prop := w.heap[g]? = some (.cells cs 47 (0, 0))
theorem Am.lt {w : World} {g : Nat} {cs : Array Value} (h : Am w g cs) : g < w.heap.size := (Array.getElem?_eq_some_iff.1 h).1
theorem Am.fz {w : World} {g : Nat} {cs : Array Value} (h : Am w g cs) (i : Nat) : w.frozen? ⟨g, i, none⟩ = false := by unfold Am at h; simp [World.frozen?, h]
theorem Am.cell {w : World} {g : Nat} {cs : Array Value} (h : Am w g cs) (i : Nat) : w.cell? ⟨g, i, none⟩ = cs[i]? := cell_of_row w g i cs 47 (0, 0) h
theorem Am.set {w : World} {g : Nat} {cs : Array Value} (h : Am w g cs) (i : Nat) (v : Value) : Am (w.setCell ⟨g, i, none⟩ v) g (cs.setIfInBounds i v) := by
  unfold Am at *; simp [World.setCell, Array.getElem?_modify, h]
theorem Am.other {w : World} {g g' : Nat} {cs : Array Value} (h : Am w g cs) (hn : g ≠ g') (i : Nat) (v : Value) : Am (w.setCell ⟨g', i, none⟩ v) g cs := by
  unfold Am at *; rw [Below.heap_setCell _ _ _ _ hn]; exact h
theorem Am.kept {w w' : World} {g : Nat} {cs : Array Value} (h : Am w g cs) (hb : Below w.heap.size w w') : Am w' g cs := by
  have := h.lt
  unfold Am at *; rw [hb.block g this]; exact h
theorem Am.drawn {w w' : World} {g : Nat} {cs : Array Value} (h : Am w g cs) (hd : Drawn w w') : Am w' g cs := by
  unfold Am at *; rw [hd.heap]; exact h

theorem shlU (j : Nat) (h : j < 32) : IntKind.u32.wrap (2 ^ min (IntKind.u64.wrap (j : Int)).toNat 32) = ((2 ^ j : Nat) : Int) := by
  have hp := pow_lt32 h
  rw [IntKind.wrap_u64, Int.emod_eq_of_lt (by omega) (by omega), Int.toNat_natCast, Nat.min_eq_left (by omega), IntKind.wrap_u32, ← shl32 j h]
  exact Int.emod_eq_of_lt (Int.natCast_nonneg _) (Int.ofNat_lt.2 hp)
theorem drawn1 (w : World) : Drawn w w.drew := ⟨rfl, rfl, rfl, rfl⟩
theorem bitAt (r i : Nat) (h : r < 4294967296) (hi : i < 32) : (r / 2 ^ i % 2 = 1 → bits .and .u32 ((r / 2 ^ i : Nat) : Int) 1 = 1) ∧ (¬ r / 2 ^ i % 2 = 1 → bits .and .u32 ((r / 2 ^ i : Nat) : Int) 1 = 0) :=
  low1 (r / 2 ^ i) (Nat.lt_of_le_of_lt (Nat.div_le_self _ _) h)

set_option maxHeartbeats 400000 in
theorem image_ (k r g : Nat) (w : World) (hm : Am w g (mv k)) (hr : r < 4294967296) :
    Calls Tryd.prog 26 #[.pointer (some ⟨g, 0, none⟩), .int .u32 r] w fun e w' => e = .returned (.int .u32 (stps k r)) ∧ Drawn w w' := by
  go_enter Tryd.func26, Tryd.ntmps26
  go_wp2_with fail
  go_loopw [5, 6] (fun o i wr => ∃ j : Nat, j ≤ 32 ∧ i = .int .i64 j ∧ o = .int .u32 (stps k (r % 2 ^ j) : Nat) ∧ Drawn w wr) (fun _ i _ => 32 - (intOf i).toNat)
  case atStart => exact ⟨0, by omega, rfl, by simp [Nat.mod_one, stps0], Drawn.refl _⟩
  case round =>
    obtain ⟨j, hj, rfl, rfl, hd⟩ := hrel
    by_cases hlt : j < 32
    · have hc := ((hm.drawn hd).cell j).trans (mv_get k j hlt)
      have HB := hid (stps_bit k r j)
      have ho : stps k (r % 2 ^ j) < 4294967296 := stps_lt k (Nat.lt_of_le_of_lt (Nat.mod_le _ _) hr)
      have hx : stps k (2 ^ j) < 4294967296 := stps_lt k (pow_lt32 hlt)
      have ex := u32_xor_nat _ _ ho hx
      have hsh : (r : Int) / 2 ^ j = ((r / 2 ^ j : Nat) : Int) := by rw [Int.natCast_ediv, Int.natCast_pow]; rfl
      obtain ⟨e1, e2⟩ := bitAt r j hr hlt
      generalize stps k (r % 2 ^ j) = o at *
      generalize stps k (2 ^ j) = x at *
      generalize r / 2 ^ j = q at *
      by_cases hb : q % 2 = 1
      · have e3 := e1 hb
        have HB1 : Hid (stps k (r % 2 ^ (j + 1)) = o ^^^ x) := by show _ = _; rw [HB.out, if_pos hb]
        clear e1 e2 hb HB
        go_wp2_with fail
        go_roundw
        case rel => exact ⟨j + 1, by omega, by go_num, by rw [HB1.out], hd⟩
        case measure => simp [intOf]; omega
      · have e3 := e2 hb
        have HB1 : Hid (stps k (r % 2 ^ (j + 1)) = o) := by show _ = _; rw [HB.out, if_neg hb]
        clear e1 e2 hb HB ex
        go_wp2_with fail
        go_roundw
        case rel => exact ⟨j + 1, by omega, by go_num, by rw [HB1.out], hd⟩
        case measure => simp [intOf]; omega
    · obtain rfl : j = 32 := by omega
      rw [Nat.mod_eq_of_lt (show r < 2 ^ 32 from hr)]
      go_wp2_with fail
      go_ret
      exact ⟨rfl, hd⟩

set_option maxHeartbeats 1000000 in
theorem refSteps_ (r n : Nat) (w : World) (hr : r < 4294967296) (hn : n < 18446744073709551616) :
    Calls Tryd.prog 25 #[.int .u32 r, .int .u64 n] w fun e w' => e = .returned (.int .u32 (stps n r)) ∧ Below w.heap.size w w' := by
  go_enter Tryd.func25, Tryd.ntmps25
  go_wp2_with fail
  rw [zeros32 1]
  have A0 : Am (w.alloc (.cells (pv 1 0) 47)) w.heap.size (pv 1 0) := heap_alloc_new w _
  have B0 : Below w.heap.size w (w.alloc (.cells (pv 1 0) 47)) := (Below.refl _ _).alloc (Nat.le_refl _) _
  generalize w.alloc (.cells (pv 1 0) 47) = w1 at *
  generalize Value.agg (pv 1 0) = junk
  go_loopw [6] (fun i wr => ∃ j : Nat, j ≤ 32 ∧ i = .int .i64 j ∧ Am wr w.heap.size (pv 1 j) ∧ Below w.heap.size w wr) (fun i _ => 32 - (intOf i).toNat)
  case atStart => exact ⟨0, by omega, rfl, A0, B0⟩
  case round =>
    obtain ⟨j, hj, rfl, a0, b0⟩ := hrel
    clear A0 B0
    by_cases hlt : j < 32
    · have hc := (a0.cell j).trans (pv_get 1 j j hlt)
      have hf := a0.fz j
      have HA := hid (a0.set j (.int .u32 (stps 1 (2 ^ j) : Nat)))
      rw [pv_set] at HA
      have HK : Hid (stp (2 ^ j) = stps 1 (2 ^ j)) := rfl
      have hp := pow_lt32 hlt
      have HM := hid (shlU j hlt)
      generalize (if j < j then stps 1 (2 ^ j) else 0 : Nat) = old at *
      generalize 2 ^ j = q at *
      clear a0
      go_wp2_with fail
      go_region_with ((go_simp; go_at_call 21; rw [HM.out]; refine (refStep_ q _ hp).mono ?_; rintro e w2 ⟨rfl, hw⟩; obtain rfl := hw.symm; rw [HK.out]))
      go_wp2_with fail
      go_roundw
      case rel => exact ⟨j + 1, by omega, by go_num, HA.out.drawn (drawn1 _), bel_draw (b0.setCell (Nat.le_refl _) _) (drawn1 _)⟩
      case measure => simp [intOf]; omega
    · have hj32 : j = 32 := by omega
      rw [hj32, pv_all] at a0
      have hge : ¬ (j : Int) < 32 := by omega
      clear hj32
      obtain ⟨w2, rfl⟩ : ∃ w2, w2 = wr := ⟨_, rfl⟩
      go_wp2_with fail
      go_loopw [0, 1, 5] (fun rv nv pv_ wr => ∃ R m k g : Nat, rv = .int .u32 R ∧ nv = .int .u64 m ∧ pv_ = .pointer (some ⟨g, 0, none⟩) ∧ R < 4294967296 ∧ m < 18446744073709551616 ∧ Hid (stps (k * m) R = stps n r) ∧ Am wr g (mv k) ∧ w.heap.size ≤ g ∧ Below w.heap.size w wr) (fun _ nv _ _ => (intOf nv).toNat)
      case atStart => exact ⟨r, n, 1, _, rfl, rfl, rfl, hr, hn, hid (by rw [Nat.one_mul]), a0, Nat.le_refl _, b0⟩
      case round =>
        obtain ⟨R, m, k, g, rfl, rfl, rfl, hR, hm, hst, am, hg, bb⟩ := hrel
        clear a0 b0
        have S := bb.size
        by_cases h1 : 0 < m
        · have h1' : (0 : Int) < (m : Int) := by omega
          have HSh : Hid ((m : Int) / 2 = ((m / 2 : Nat) : Int)) := by show _ = _; omega
          by_cases hp : m % 2 = 1
          · have e3 : ((m : Int) % 2) = 1 := by omega
            have HJ := hid (join_step k m R hp)
            have hR2 : stps k R < 4294967296 := stps_lt k hR
            clear hp
            go_wp2_with ((go_at_call 26; refine (image_ k R g _ am hR).mono ?_; rintro e w3 ⟨rfl, d3⟩))
            generalize stps k R = R2 at *
            rw [zeros32 (2 * k)]
            have am3 := am.drawn d3
            have B3 := bel_draw bb d3
            have S3 := B3.size
            have glt := am3.lt
            clear am bb d3 S
            have A0 : Am (w3.alloc (.cells (pv (2 * k) 0) 47)) w3.heap.size (pv (2 * k) 0) := heap_alloc_new w3 _
            have A1 := am3.kept ((Below.refl w3.heap.size w3).alloc (Nat.le_refl _) (.cells (pv (2 * k) 0) 47))
            have B0 : Below w.heap.size w (w3.alloc (.cells (pv (2 * k) 0) 47)) := B3.alloc S3 _
            have hg2 : g ≠ w3.heap.size := by omega
            have hg3 : w3.heap.size ≠ g := by omega
            clear am3 B3 glt
            generalize w3.alloc (.cells (pv (2 * k) 0) 47) = w4 at *
            generalize w3.heap.size = g2 at *
            generalize Value.agg (pv (2 * k) 0) = junk2
            obtain ⟨wq, rfl⟩ : ∃ wq, wq = wr := ⟨_, rfl⟩
            go_loopw [8] (fun i wr => ∃ j : Nat, j ≤ 32 ∧ i = .int .i64 j ∧ Am wr g2 (pv (2 * k) j) ∧ Am wr g (mv k) ∧ Below w.heap.size w wr) (fun i _ => 32 - (intOf i).toNat)
            case atStart => exact ⟨0, by omega, rfl, A0, A1, B0⟩
            case round =>
              obtain ⟨j, hj, rfl, a0, a1, b0⟩ := hrel
              clear A0 A1 B0
              by_cases hlt : j < 32
              · have hc := (a0.cell j).trans (pv_get (2 * k) j j hlt)
                have hf := a0.fz j
                have hx : stps k (2 ^ j) < 4294967296 := stps_lt k (pow_lt32 hlt)
                have hcm0 := hid (mv_get k j hlt)
                have hcm := (a1.cell j).trans hcm0.out
                have HX : Hid (stps k (stps k (2 ^ j)) = stps (2 * k) (2 ^ j)) := by show _ = _; rw [← stps_add, show k + k = 2 * k from by omega]
                have HC := hid (pv_get (2 * k) j j hlt)
                have HP := hid (pv_set (2 * k) j)
                generalize stps k (2 ^ j) = x at *
                generalize (if j < j then stps (2 * k) (2 ^ j) else 0 : Nat) = old at *
                go_wp2_with fail
                go_region_held (fun wx => wx.cell? ⟨g, j, none⟩ = some (.int .u32 x)) (go_keep) ((go_simp; go_at_call 26; refine (image_ k x g _ (a1.drawn (drawn1 _)) hx).mono ?_; rintro e w5 ⟨rfl, d5⟩; rw [HX.out]; have y1 := ((a1.drawn (drawn1 _)).drawn d5).cell j |>.trans hcm0.out; have y2 := (((a0.drawn (drawn1 _)).drawn d5).cell j).trans HC.out; have y3 := ((a0.drawn (drawn1 _)).drawn d5).fz j))
                have D : Drawn wr w5 := (drawn1 _).trans d5
                go_wp2_with fail
                go_roundw
                case rel => exact ⟨j + 1, by omega, by go_num, by rw [← HP.out]; exact (a0.drawn D).set j _, (a1.drawn D).other hg2 _ _, (bel_draw b0 D).setCell S3 _⟩
                case measure => simp [intOf]; omega
              · have hj32 : j = 32 := by omega
                rw [hj32, pv_all] at a0
                have hge : ¬ (j : Int) < 32 := by omega
                clear hj32
                go_wp2_with fail
                go_roundw
                case rel => exact ⟨R2, m / 2, 2 * k, g2, rfl, by rw [← HSh.out], rfl, hR2, by omega, HJ.out.trans hst.out, a0, S3, b0⟩
                case measure => simp [intOf]; omega
          · have e3 : ((m : Int) % 2) = 0 := by omega
            have HJ := hid (join_skip k m R hp)
            have hR2 := hR
            clear hp
            have d3 := Drawn.refl wr
            obtain ⟨R2, rfl⟩ : ∃ R2, R2 = R := ⟨_, rfl⟩
            go_wp2_with fail
            rw [e3]
            clear e3
            obtain ⟨w3, rfl⟩ : ∃ w3, w3 = wr := ⟨_, rfl⟩
            rw [zeros32 (2 * k)]
            have am3 := am.drawn d3
            have B3 := bel_draw bb d3
            have S3 := B3.size
            have glt := am3.lt
            clear am bb d3 S
            have A0 : Am (w3.alloc (.cells (pv (2 * k) 0) 47)) w3.heap.size (pv (2 * k) 0) := heap_alloc_new w3 _
            have A1 := am3.kept ((Below.refl w3.heap.size w3).alloc (Nat.le_refl _) (.cells (pv (2 * k) 0) 47))
            have B0 : Below w.heap.size w (w3.alloc (.cells (pv (2 * k) 0) 47)) := B3.alloc S3 _
            have hg2 : g ≠ w3.heap.size := by omega
            have hg3 : w3.heap.size ≠ g := by omega
            clear am3 B3 glt
            generalize w3.alloc (.cells (pv (2 * k) 0) 47) = w4 at *
            generalize w3.heap.size = g2 at *
            generalize Value.agg (pv (2 * k) 0) = junk2
            go_loopw [8] (fun i wr => ∃ j : Nat, j ≤ 32 ∧ i = .int .i64 j ∧ Am wr g2 (pv (2 * k) j) ∧ Am wr g (mv k) ∧ Below w.heap.size w wr) (fun i _ => 32 - (intOf i).toNat)
            case atStart => exact ⟨0, by omega, rfl, A0, A1, B0⟩
            case round =>
              obtain ⟨j, hj, rfl, a0, a1, b0⟩ := hrel
              clear A0 A1 B0
              by_cases hlt : j < 32
              · have hc := (a0.cell j).trans (pv_get (2 * k) j j hlt)
                have hf := a0.fz j
                have hx : stps k (2 ^ j) < 4294967296 := stps_lt k (pow_lt32 hlt)
                have hcm0 := hid (mv_get k j hlt)
                have hcm := (a1.cell j).trans hcm0.out
                have HX : Hid (stps k (stps k (2 ^ j)) = stps (2 * k) (2 ^ j)) := by show _ = _; rw [← stps_add, show k + k = 2 * k from by omega]
                have HC := hid (pv_get (2 * k) j j hlt)
                have HP := hid (pv_set (2 * k) j)
                generalize stps k (2 ^ j) = x at *
                generalize (if j < j then stps (2 * k) (2 ^ j) else 0 : Nat) = old at *
                go_wp2_with fail
                go_region_held (fun wx => wx.cell? ⟨g, j, none⟩ = some (.int .u32 x)) (go_keep) ((go_simp; go_at_call 26; refine (image_ k x g _ (a1.drawn (drawn1 _)) hx).mono ?_; rintro e w5 ⟨rfl, d5⟩; rw [HX.out]; have y1 := ((a1.drawn (drawn1 _)).drawn d5).cell j |>.trans hcm0.out; have y2 := (((a0.drawn (drawn1 _)).drawn d5).cell j).trans HC.out; have y3 := ((a0.drawn (drawn1 _)).drawn d5).fz j))
                have D : Drawn wr w5 := (drawn1 _).trans d5
                go_wp2_with fail
                go_roundw
                case rel => exact ⟨j + 1, by omega, by go_num, by rw [← HP.out]; exact (a0.drawn D).set j _, (a1.drawn D).other hg2 _ _, (bel_draw b0 D).setCell S3 _⟩
                case measure => simp [intOf]; omega
              · have hj32 : j = 32 := by omega
                rw [hj32, pv_all] at a0
                have hge : ¬ (j : Int) < 32 := by omega
                clear hj32
                go_wp2_with fail
                go_roundw
                case rel => exact ⟨R2, m / 2, 2 * k, g2, rfl, by rw [← HSh.out], rfl, hR2, by omega, HJ.out.trans hst.out, a0, S3, b0⟩
                case measure => simp [intOf]; omega
        · obtain rfl : m = 0 := by omega
          have hz : Hid (stps n r = R) := by show _ = _; rw [← hst.out, Nat.mul_zero]; rfl
          clear hst
          go_wp2_with fail
          go_ret
          refine ⟨?_, bb⟩
          rw [hz.out]
          rfl
end Go.Proofs.YtfgnllfgccbolaaDoor
