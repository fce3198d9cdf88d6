import Derived.Test.YtfgnllfgccbolaaDoorFirst
import Derived.Deep.RegionHeldLaw
import Derived.Deep.AppendLies
namespace Go.Proofs.YtfgnllfgccbolaaDoor
open Go.RowKit
set_option linter.unusedVariables false

theorem Bs.take {w : World} {a : Option Addr} {n m : Nat} {zs : List Int} (h : Bs w a n zs) (hm : m ≤ n) : Bs w a m (zs.take m) := by
  obtain ⟨h1, h2, h3⟩ := h
  refine ⟨by simp; omega, fun z hz => h2 z (List.mem_of_mem_take hz), ?_⟩
  rcases h3 with h3 | ⟨b, off, e, hc⟩
  · exact .inl (by omega)
  · refine .inr ⟨b, off, e, fun i hi => ?_⟩
    rw [hc i (by omega)]
    simp [List.getD, hi]
theorem xorL_length : ∀ (xs ys : List Int), xs.length = ys.length → (xorL xs ys).length = xs.length
  | [], [], _ => rfl
  | x :: xs, y :: ys, h => by rw [xorL, List.length_cons, xorL_length xs ys (by simpa using h), List.length_cons]
  | [], _ :: _, h => by simp at h
  | _ :: _, [], h => by simp at h
theorem xorL_get : ∀ (xs ys : List Int) (i : Nat), xs.length = ys.length → i < xs.length → (xorL xs ys).getD i 0 = (((xs.getD i 0).toNat ^^^ (ys.getD i 0).toNat : Nat) : Int)
  | x :: xs, y :: ys, 0, _, _ => rfl
  | x :: xs, y :: ys, i + 1, h, hi => by
    show (xorL xs ys).getD i 0 = _
    rw [xorL_get xs ys i (by simpa using h) (by simpa using hi)]
    rfl
  | [], _, _, _, h => by simp at h
  | _ :: _, [], _, h, _ => by simp at h
theorem xorL_byte : ∀ (xs ys : List Int), (∀ z ∈ xs, 0 ≤ z ∧ z ≤ 255) → (∀ z ∈ ys, 0 ≤ z ∧ z ≤ 255) → ∀ z ∈ xorL xs ys, 0 ≤ z ∧ z ≤ 255
  | x :: xs, y :: ys, hx, hy, z, hz => by
    rcases List.mem_cons.1 hz with rfl | h
    · have := Nat.xor_lt_two_pow (n := 8) (show x.toNat < 2 ^ 8 by have := hx x (by simp); omega) (show y.toNat < 2 ^ 8 by have := hy y (by simp); omega)
      omega
    · exact xorL_byte xs ys (fun z h => hx z (List.mem_cons_of_mem _ h)) (fun z h => hy z (List.mem_cons_of_mem _ h)) z h
  | [], _, _, _, z, hz => by simp [xorL] at hz
  | _ :: _, [], _, _, z, hz => by simp [xorL] at hz
theorem far_own {w : World} {B e s n b : Nat} {v : Value} {xs : List Value} (h : w.ownsRow B e s v n xs) (hb : b < B) : some b ≠ v.ownBlock := fun e => by
  have := (h.lt b e.symm).1
  omega
/-- Three bytes xored, as Go does it. -/
theorem xor3 (x y z : Int) (hx : 0 ≤ x ∧ x ≤ 255) (hy : 0 ≤ y ∧ y ≤ 255) (hz : 0 ≤ z ∧ z ≤ 255) : bits .xor .u8 (bits .xor .u8 x y) z = ((((x.toNat ^^^ y.toNat : Nat) : Int).toNat ^^^ z.toNat : Nat) : Int) := by
  have h := Nat.xor_lt_two_pow (n := 8) (show x.toNat < 2 ^ 8 by omega) (show y.toNat < 2 ^ 8 by omega)
  rw [u8_xor x y hx.1 (by omega) hy.1 (by omega), u8_xor _ z (by omega) (by omega) hz.1 (by omega)]

set_option maxRecDepth 100000 in
set_option maxHeartbeats 2000000 in
theorem linearA (a0 a1 a2 : Option Addr) (l0 l1 l2 c0 c1 c2 : Nat) (xs ys zs : List Int) (w : World) (hT : Tab w) (h0 : Bs w a0 l0 xs) (h1 : Bs w a1 l0 ys) (h2 : Bs w a2 l0 zs)
    (d1 : ¬l1<l0) (d2 : ¬l2<l0) (n0 : l0 ≤ l0) (n1 : l0 ≤ l1) (n2 : l0 ≤ l2) (k0 : l0 ≤ c0) (k1 : l1 ≤ c1) (k2 : l2 ≤ c2) (m0 : c0 ≤ maxLen) (m1 : c1 ≤ maxLen) (m2 : c2 ≤ maxLen) (hn : l0 ≤ 65536) :
    Calls Tryd.prog 7 #[.slice a0 l0 c0, .slice a1 l1 c1, .slice a2 l2 c2] w fun en w' => en = .returned (.bool true) ∧ Below w.heap.size w w' := by
  unfold maxLen at m0 m1 m2
  obtain ⟨i, hi, hz0, hz1, hz2⟩ := info_parts info5
  have hnn : ¬ (65536 : Int) < (l0 : Int) := by omega
  go_enter Tryd.func7, Tryd.ntmps7
  go_wp2_with fail
  refine (first_ w hT).mono ?_
  rintro en w1 ⟨rfl, B1⟩
  have S1 := B1.size
  go_wp2_with fail
  go_loopw [9, 10] (fun v i wr => ∃ k : Nat, k ≤ l0 ∧ i = .int .i64 k ∧ wr.ownsRow w.heap.size 5 1 v k (cells ((xorL (xorL xs ys) zs).take k)) ∧ Below w.heap.size w wr) (fun _ i _ => l0 - (intOf i).toNat)
  case atStart => exact ⟨0, by omega, rfl, World.ownsRow_nil _ _ _ _, B1⟩
  case round =>
    obtain ⟨k, hk, rfl, hown, bb⟩ := hrel
    have S := bb.size
    by_cases hlt : k < l0
    · obtain ⟨e0, f0, g0⟩ := h0
      obtain ⟨e1, f1, g1⟩ := h1
      obtain ⟨e2, f2, g2⟩ := h2
      rcases g0 with g0 | ⟨b0, o0, rfl, hc0⟩
      · omega
      rcases g1 with g1 | ⟨b1, o1, rfl, hc1⟩
      · omega
      rcases g2 with g2 | ⟨b2, o2, rfl, hc2⟩
      · omega
      have q0 := (bb.cell (World.block_lt_of_cell? w _ (hc0 k hlt))).trans (hc0 k hlt)
      have q1 := (bb.cell (World.block_lt_of_cell? w _ (hc1 k hlt))).trans (hc1 k hlt)
      have q2 := (bb.cell (World.block_lt_of_cell? w _ (hc2 k hlt))).trans (hc2 k hlt)
      have HX : Hid (cells ((xorL (xorL xs ys) zs).take k) ++ [.int .u8 (bits .xor .u8 (bits .xor .u8 (xs.getD k 0) (ys.getD k 0)) (zs.getD k 0))] = cells ((xorL (xorL xs ys) zs).take (k + 1))) := by
        show _ = _
        have hl := xorL_length xs ys (by omega)
        rw [xor3 _ _ _ (getD_byte f0 k) (getD_byte f1 k) (getD_byte f2 k), ← xorL_get xs ys k (by omega) (by omega), ← xorL_get _ zs k (by omega) (by omega), cells_take_succ _ k (by rw [xorL_length _ _ (by omega)]; omega)]
      have v0 := World.block_lt_of_cell? w _ (hc0 k hlt)
      have v1 := World.block_lt_of_cell? w _ (hc1 k hlt)
      have v2 := World.block_lt_of_cell? w _ (hc2 k hlt)
      have hx0 := hid (far_own hown v0)
      have hx1 := hid (far_own hown v1)
      have hx2 := hid (far_own hown v2)
      generalize xs.getD k 0 = x at *
      generalize ys.getD k 0 = y at *
      generalize zs.getD k 0 = z at *
      have p0 := hid (fun o => (((Below.refl wr.heap.size wr).alloc (Nat.le_refl _) o).cell (World.block_lt_of_cell? wr _ q0)).trans q0)
      have p1 := hid (fun o => (((Below.refl wr.heap.size wr).alloc (Nat.le_refl _) o).cell (World.block_lt_of_cell? wr _ q1)).trans q1)
      have p2 := hid (fun o => (((Below.refl wr.heap.size wr).alloc (Nat.le_refl _) o).cell (World.block_lt_of_cell? wr _ q2)).trans q2)
      clear hc0 hc1 hc2 v0 v1 v2
      have i0 : (k : Int) < (l0 : Int) := by omega
      have i1 : (k : Int) < (l1 : Int) := by omega
      have i2 : (k : Int) < (l2 : Int) := by omega
      have i3 : (k : Int) < (l0 : Int) := by omega
      go_wp2_with fail
      go_region_held_law (fun wx => wx.cell? ⟨b0, o0 + k, none⟩ = some (.int .u8 x) ∧ wx.cell? ⟨b1, o1 + k, none⟩ = some (.int .u8 y) ∧ wx.cell? ⟨b2, o2 + k, none⟩ = some (.int .u8 z)) (go_keep)
        ((refine step_append_lies _ rfl (.tmp 42) (.tmp 57) 22 rfl w.heap.size 5 i (.int .u8 0) 1 1 Tryd.underlying22 hi hz0 hz1 hz2 rfl (by decide) _ k _ rfl (hown.alloc _) ⟨wr.heap.size, 0, none⟩ 1 1 [.int .u8 (bits .xor .u8 (bits .xor .u8 x y) z)] rfl rfl (fun j u hj => by
          match j, hj with
          | 0, hj => simp at hj; subst hj; simp [Addr.add]) (by intro u hu; simp at hu; subst hu; rfl) (by omega) (by unfold maxLen; omega) (by omega) (by simp; omega) _ rfl ?_; intro g cap w2 hown2 hgrow hat hltg; have y0 := hgrow.cell (p0.out _) hx0.out; have y1 := hgrow.cell (p1.out _) hx1.out; have y2 := hgrow.cell (p2.out _) hx2.out))
      rw [HX.out] at hown2
      have B2 : Below w.heap.size w w2 := by
        have B1' : Below w.heap.size w (wr.alloc (.cells #[.int .u8 (bits .xor .u8 (bits .xor .u8 x y) z)] 5)).drew := (bb.alloc S _).drew
        exact B1'.grown hgrow (by show _ ≤ (wr.alloc (.cells #[.int .u8 (bits .xor .u8 (bits .xor .u8 x y) z)] 5)).heap.size; simp; omega) fun q hq => (hown.lt q hq).1
      clear hown hgrow hat hltg y0 y1 y2 hx0 hx1 hx2 p0 p1 p2 q0 q1 q2 bb S HX
      go_wp2_with fail
      go_roundw
      case rel => exact ⟨k + 1, by omega, by go_num, hown2, B2⟩
      case measure => simp [intOf]; omega
    · have hkn : k = l0 := by omega
      have hge : ¬ (k : Int) < (l0 : Int) := by omega
      have HLn : Hid ((xorL (xorL xs ys) zs).length = l0) := by
        show _ = _
        have hl := xorL_length xs ys (by rw [h0.1, h1.1])
        rw [xorL_length _ _ (by rw [hl, h0.1, h2.1]), hl, h0.1]
      rw [hkn, List.take_of_length_le (Nat.le_of_eq HLn.out)] at hown
      have HY := hid (xorL_byte _ _ (xorL_byte _ _ h0.2.1 h1.2.1) h2.2.1)
      obtain ⟨a, cap, rfl, hbs, _, _, _⟩ := own_form hown HY.out
      have HR := hid (linear3 xs ys zs (by rw [h0.1, h1.1]) (by rw [h0.1, h2.1]))
      have t4 := hT.below bb hT.1
      have x0 := h0.below bb
      have x1 := h1.below bb
      have x2 := h2.below bb
      have j0 : (l0 : Int) ≤ (c0 : Int) := by omega
      have j1 : (l0 : Int) ≤ (c1 : Int) := by omega
      have j2 : (l0 : Int) ≤ (c2 : Int) := by omega
      have r0 : updc 0 xs < 4294967296 := updc_lt (by omega) h0.2.1
      have r1 : updc 0 ys < 4294967296 := updc_lt (by omega) h1.2.1
      have r2 : updc 0 zs < 4294967296 := updc_lt (by omega) h2.2.1
      have ex := u32_xor_nat _ _ r0 r1
      have ey := u32_xor_nat _ _ (xor_lt32 r0 r1) r2
      clear hkn hown h0 h1 h2 hT r0 r1 r2
      go_wp2_with fail
      refine (sum_ a _ cap _ _ t4 hbs (by unfold maxLen; omega)).mono ?_
      rintro en w5 ⟨rfl, rfl⟩
      rw [HR.out]
      go_wp2_with fail
      refine (sum_ a0 l0 c0 xs _ t4 x0 (by unfold maxLen; omega)).mono ?_
      rintro en w6 ⟨rfl, rfl⟩
      go_wp2_with fail
      refine (sum_ a1 l0 c1 ys _ t4 x1 (by unfold maxLen; omega)).mono ?_
      rintro en w7 ⟨rfl, rfl⟩
      go_wp2_with fail
      refine (sum_ a2 l0 c2 zs _ t4 x2 (by unfold maxLen; omega)).mono ?_
      rintro en w8 ⟨rfl, rfl⟩
      generalize updc 0 xs = u at *
      generalize updc 0 ys = v at *
      generalize updc 0 zs = q at *
      generalize u ^^^ v ^^^ q = uvq at *
      go_wp2_with fail
      go_ret
      exact ⟨rfl, bb⟩
set_option maxRecDepth 100000 in
set_option maxHeartbeats 2000000 in
theorem linearB (a0 a1 a2 : Option Addr) (l0 l1 l2 c0 c1 c2 : Nat) (xs ys zs : List Int) (w : World) (hT : Tab w) (h0 : Bs w a0 l2 xs) (h1 : Bs w a1 l2 ys) (h2 : Bs w a2 l2 zs)
    (d1 : ¬l1<l0) (d2 : l2<l0) (n0 : l2 ≤ l0) (n1 : l2 ≤ l1) (n2 : l2 ≤ l2) (k0 : l0 ≤ c0) (k1 : l1 ≤ c1) (k2 : l2 ≤ c2) (m0 : c0 ≤ maxLen) (m1 : c1 ≤ maxLen) (m2 : c2 ≤ maxLen) (hn : l2 ≤ 65536) :
    Calls Tryd.prog 7 #[.slice a0 l0 c0, .slice a1 l1 c1, .slice a2 l2 c2] w fun en w' => en = .returned (.bool true) ∧ Below w.heap.size w w' := by
  unfold maxLen at m0 m1 m2
  obtain ⟨i, hi, hz0, hz1, hz2⟩ := info_parts info5
  have hnn : ¬ (65536 : Int) < (l2 : Int) := by omega
  go_enter Tryd.func7, Tryd.ntmps7
  go_wp2_with fail
  refine (first_ w hT).mono ?_
  rintro en w1 ⟨rfl, B1⟩
  have S1 := B1.size
  go_wp2_with fail
  go_loopw [9, 10] (fun v i wr => ∃ k : Nat, k ≤ l2 ∧ i = .int .i64 k ∧ wr.ownsRow w.heap.size 5 1 v k (cells ((xorL (xorL xs ys) zs).take k)) ∧ Below w.heap.size w wr) (fun _ i _ => l2 - (intOf i).toNat)
  case atStart => exact ⟨0, by omega, rfl, World.ownsRow_nil _ _ _ _, B1⟩
  case round =>
    obtain ⟨k, hk, rfl, hown, bb⟩ := hrel
    have S := bb.size
    by_cases hlt : k < l2
    · obtain ⟨e0, f0, g0⟩ := h0
      obtain ⟨e1, f1, g1⟩ := h1
      obtain ⟨e2, f2, g2⟩ := h2
      rcases g0 with g0 | ⟨b0, o0, rfl, hc0⟩
      · omega
      rcases g1 with g1 | ⟨b1, o1, rfl, hc1⟩
      · omega
      rcases g2 with g2 | ⟨b2, o2, rfl, hc2⟩
      · omega
      have q0 := (bb.cell (World.block_lt_of_cell? w _ (hc0 k hlt))).trans (hc0 k hlt)
      have q1 := (bb.cell (World.block_lt_of_cell? w _ (hc1 k hlt))).trans (hc1 k hlt)
      have q2 := (bb.cell (World.block_lt_of_cell? w _ (hc2 k hlt))).trans (hc2 k hlt)
      have HX : Hid (cells ((xorL (xorL xs ys) zs).take k) ++ [.int .u8 (bits .xor .u8 (bits .xor .u8 (xs.getD k 0) (ys.getD k 0)) (zs.getD k 0))] = cells ((xorL (xorL xs ys) zs).take (k + 1))) := by
        show _ = _
        have hl := xorL_length xs ys (by omega)
        rw [xor3 _ _ _ (getD_byte f0 k) (getD_byte f1 k) (getD_byte f2 k), ← xorL_get xs ys k (by omega) (by omega), ← xorL_get _ zs k (by omega) (by omega), cells_take_succ _ k (by rw [xorL_length _ _ (by omega)]; omega)]
      have v0 := World.block_lt_of_cell? w _ (hc0 k hlt)
      have v1 := World.block_lt_of_cell? w _ (hc1 k hlt)
      have v2 := World.block_lt_of_cell? w _ (hc2 k hlt)
      have hx0 := hid (far_own hown v0)
      have hx1 := hid (far_own hown v1)
      have hx2 := hid (far_own hown v2)
      generalize xs.getD k 0 = x at *
      generalize ys.getD k 0 = y at *
      generalize zs.getD k 0 = z at *
      have p0 := hid (fun o => (((Below.refl wr.heap.size wr).alloc (Nat.le_refl _) o).cell (World.block_lt_of_cell? wr _ q0)).trans q0)
      have p1 := hid (fun o => (((Below.refl wr.heap.size wr).alloc (Nat.le_refl _) o).cell (World.block_lt_of_cell? wr _ q1)).trans q1)
      have p2 := hid (fun o => (((Below.refl wr.heap.size wr).alloc (Nat.le_refl _) o).cell (World.block_lt_of_cell? wr _ q2)).trans q2)
      clear hc0 hc1 hc2 v0 v1 v2
      have i0 : (k : Int) < (l0 : Int) := by omega
      have i1 : (k : Int) < (l1 : Int) := by omega
      have i2 : (k : Int) < (l2 : Int) := by omega
      have i3 : (k : Int) < (l2 : Int) := by omega
      go_wp2_with fail
      go_region_held_law (fun wx => wx.cell? ⟨b0, o0 + k, none⟩ = some (.int .u8 x) ∧ wx.cell? ⟨b1, o1 + k, none⟩ = some (.int .u8 y) ∧ wx.cell? ⟨b2, o2 + k, none⟩ = some (.int .u8 z)) (go_keep)
        ((refine step_append_lies _ rfl (.tmp 42) (.tmp 57) 22 rfl w.heap.size 5 i (.int .u8 0) 1 1 Tryd.underlying22 hi hz0 hz1 hz2 rfl (by decide) _ k _ rfl (hown.alloc _) ⟨wr.heap.size, 0, none⟩ 1 1 [.int .u8 (bits .xor .u8 (bits .xor .u8 x y) z)] rfl rfl (fun j u hj => by
          match j, hj with
          | 0, hj => simp at hj; subst hj; simp [Addr.add]) (by intro u hu; simp at hu; subst hu; rfl) (by omega) (by unfold maxLen; omega) (by omega) (by simp; omega) _ rfl ?_; intro g cap w2 hown2 hgrow hat hltg; have y0 := hgrow.cell (p0.out _) hx0.out; have y1 := hgrow.cell (p1.out _) hx1.out; have y2 := hgrow.cell (p2.out _) hx2.out))
      rw [HX.out] at hown2
      have B2 : Below w.heap.size w w2 := by
        have B1' : Below w.heap.size w (wr.alloc (.cells #[.int .u8 (bits .xor .u8 (bits .xor .u8 x y) z)] 5)).drew := (bb.alloc S _).drew
        exact B1'.grown hgrow (by show _ ≤ (wr.alloc (.cells #[.int .u8 (bits .xor .u8 (bits .xor .u8 x y) z)] 5)).heap.size; simp; omega) fun q hq => (hown.lt q hq).1
      clear hown hgrow hat hltg y0 y1 y2 hx0 hx1 hx2 p0 p1 p2 q0 q1 q2 bb S HX
      go_wp2_with fail
      go_roundw
      case rel => exact ⟨k + 1, by omega, by go_num, hown2, B2⟩
      case measure => simp [intOf]; omega
    · have hkn : k = l2 := by omega
      have hge : ¬ (k : Int) < (l2 : Int) := by omega
      have HLn : Hid ((xorL (xorL xs ys) zs).length = l2) := by
        show _ = _
        have hl := xorL_length xs ys (by rw [h0.1, h1.1])
        rw [xorL_length _ _ (by rw [hl, h0.1, h2.1]), hl, h0.1]
      rw [hkn, List.take_of_length_le (Nat.le_of_eq HLn.out)] at hown
      have HY := hid (xorL_byte _ _ (xorL_byte _ _ h0.2.1 h1.2.1) h2.2.1)
      obtain ⟨a, cap, rfl, hbs, _, _, _⟩ := own_form hown HY.out
      have HR := hid (linear3 xs ys zs (by rw [h0.1, h1.1]) (by rw [h0.1, h2.1]))
      have t4 := hT.below bb hT.1
      have x0 := h0.below bb
      have x1 := h1.below bb
      have x2 := h2.below bb
      have j0 : (l2 : Int) ≤ (c0 : Int) := by omega
      have j1 : (l2 : Int) ≤ (c1 : Int) := by omega
      have j2 : (l2 : Int) ≤ (c2 : Int) := by omega
      have r0 : updc 0 xs < 4294967296 := updc_lt (by omega) h0.2.1
      have r1 : updc 0 ys < 4294967296 := updc_lt (by omega) h1.2.1
      have r2 : updc 0 zs < 4294967296 := updc_lt (by omega) h2.2.1
      have ex := u32_xor_nat _ _ r0 r1
      have ey := u32_xor_nat _ _ (xor_lt32 r0 r1) r2
      clear hkn hown h0 h1 h2 hT r0 r1 r2
      go_wp2_with fail
      refine (sum_ a _ cap _ _ t4 hbs (by unfold maxLen; omega)).mono ?_
      rintro en w5 ⟨rfl, rfl⟩
      rw [HR.out]
      go_wp2_with fail
      refine (sum_ a0 l2 c0 xs _ t4 x0 (by unfold maxLen; omega)).mono ?_
      rintro en w6 ⟨rfl, rfl⟩
      go_wp2_with fail
      refine (sum_ a1 l2 c1 ys _ t4 x1 (by unfold maxLen; omega)).mono ?_
      rintro en w7 ⟨rfl, rfl⟩
      go_wp2_with fail
      refine (sum_ a2 l2 c2 zs _ t4 x2 (by unfold maxLen; omega)).mono ?_
      rintro en w8 ⟨rfl, rfl⟩
      generalize updc 0 xs = u at *
      generalize updc 0 ys = v at *
      generalize updc 0 zs = q at *
      generalize u ^^^ v ^^^ q = uvq at *
      go_wp2_with fail
      go_ret
      exact ⟨rfl, bb⟩
set_option maxRecDepth 100000 in
set_option maxHeartbeats 2000000 in
theorem linearC (a0 a1 a2 : Option Addr) (l0 l1 l2 c0 c1 c2 : Nat) (xs ys zs : List Int) (w : World) (hT : Tab w) (h0 : Bs w a0 l1 xs) (h1 : Bs w a1 l1 ys) (h2 : Bs w a2 l1 zs)
    (d1 : l1<l0) (d2 : ¬l2<l1) (n0 : l1 ≤ l0) (n1 : l1 ≤ l1) (n2 : l1 ≤ l2) (k0 : l0 ≤ c0) (k1 : l1 ≤ c1) (k2 : l2 ≤ c2) (m0 : c0 ≤ maxLen) (m1 : c1 ≤ maxLen) (m2 : c2 ≤ maxLen) (hn : l1 ≤ 65536) :
    Calls Tryd.prog 7 #[.slice a0 l0 c0, .slice a1 l1 c1, .slice a2 l2 c2] w fun en w' => en = .returned (.bool true) ∧ Below w.heap.size w w' := by
  unfold maxLen at m0 m1 m2
  obtain ⟨i, hi, hz0, hz1, hz2⟩ := info_parts info5
  have hnn : ¬ (65536 : Int) < (l1 : Int) := by omega
  go_enter Tryd.func7, Tryd.ntmps7
  go_wp2_with fail
  refine (first_ w hT).mono ?_
  rintro en w1 ⟨rfl, B1⟩
  have S1 := B1.size
  go_wp2_with fail
  go_loopw [9, 10] (fun v i wr => ∃ k : Nat, k ≤ l1 ∧ i = .int .i64 k ∧ wr.ownsRow w.heap.size 5 1 v k (cells ((xorL (xorL xs ys) zs).take k)) ∧ Below w.heap.size w wr) (fun _ i _ => l1 - (intOf i).toNat)
  case atStart => exact ⟨0, by omega, rfl, World.ownsRow_nil _ _ _ _, B1⟩
  case round =>
    obtain ⟨k, hk, rfl, hown, bb⟩ := hrel
    have S := bb.size
    by_cases hlt : k < l1
    · obtain ⟨e0, f0, g0⟩ := h0
      obtain ⟨e1, f1, g1⟩ := h1
      obtain ⟨e2, f2, g2⟩ := h2
      rcases g0 with g0 | ⟨b0, o0, rfl, hc0⟩
      · omega
      rcases g1 with g1 | ⟨b1, o1, rfl, hc1⟩
      · omega
      rcases g2 with g2 | ⟨b2, o2, rfl, hc2⟩
      · omega
      have q0 := (bb.cell (World.block_lt_of_cell? w _ (hc0 k hlt))).trans (hc0 k hlt)
      have q1 := (bb.cell (World.block_lt_of_cell? w _ (hc1 k hlt))).trans (hc1 k hlt)
      have q2 := (bb.cell (World.block_lt_of_cell? w _ (hc2 k hlt))).trans (hc2 k hlt)
      have HX : Hid (cells ((xorL (xorL xs ys) zs).take k) ++ [.int .u8 (bits .xor .u8 (bits .xor .u8 (xs.getD k 0) (ys.getD k 0)) (zs.getD k 0))] = cells ((xorL (xorL xs ys) zs).take (k + 1))) := by
        show _ = _
        have hl := xorL_length xs ys (by omega)
        rw [xor3 _ _ _ (getD_byte f0 k) (getD_byte f1 k) (getD_byte f2 k), ← xorL_get xs ys k (by omega) (by omega), ← xorL_get _ zs k (by omega) (by omega), cells_take_succ _ k (by rw [xorL_length _ _ (by omega)]; omega)]
      have v0 := World.block_lt_of_cell? w _ (hc0 k hlt)
      have v1 := World.block_lt_of_cell? w _ (hc1 k hlt)
      have v2 := World.block_lt_of_cell? w _ (hc2 k hlt)
      have hx0 := hid (far_own hown v0)
      have hx1 := hid (far_own hown v1)
      have hx2 := hid (far_own hown v2)
      generalize xs.getD k 0 = x at *
      generalize ys.getD k 0 = y at *
      generalize zs.getD k 0 = z at *
      have p0 := hid (fun o => (((Below.refl wr.heap.size wr).alloc (Nat.le_refl _) o).cell (World.block_lt_of_cell? wr _ q0)).trans q0)
      have p1 := hid (fun o => (((Below.refl wr.heap.size wr).alloc (Nat.le_refl _) o).cell (World.block_lt_of_cell? wr _ q1)).trans q1)
      have p2 := hid (fun o => (((Below.refl wr.heap.size wr).alloc (Nat.le_refl _) o).cell (World.block_lt_of_cell? wr _ q2)).trans q2)
      clear hc0 hc1 hc2 v0 v1 v2
      have i0 : (k : Int) < (l0 : Int) := by omega
      have i1 : (k : Int) < (l1 : Int) := by omega
      have i2 : (k : Int) < (l2 : Int) := by omega
      have i3 : (k : Int) < (l1 : Int) := by omega
      go_wp2_with fail
      go_region_held_law (fun wx => wx.cell? ⟨b0, o0 + k, none⟩ = some (.int .u8 x) ∧ wx.cell? ⟨b1, o1 + k, none⟩ = some (.int .u8 y) ∧ wx.cell? ⟨b2, o2 + k, none⟩ = some (.int .u8 z)) (go_keep)
        ((refine step_append_lies _ rfl (.tmp 42) (.tmp 57) 22 rfl w.heap.size 5 i (.int .u8 0) 1 1 Tryd.underlying22 hi hz0 hz1 hz2 rfl (by decide) _ k _ rfl (hown.alloc _) ⟨wr.heap.size, 0, none⟩ 1 1 [.int .u8 (bits .xor .u8 (bits .xor .u8 x y) z)] rfl rfl (fun j u hj => by
          match j, hj with
          | 0, hj => simp at hj; subst hj; simp [Addr.add]) (by intro u hu; simp at hu; subst hu; rfl) (by omega) (by unfold maxLen; omega) (by omega) (by simp; omega) _ rfl ?_; intro g cap w2 hown2 hgrow hat hltg; have y0 := hgrow.cell (p0.out _) hx0.out; have y1 := hgrow.cell (p1.out _) hx1.out; have y2 := hgrow.cell (p2.out _) hx2.out))
      rw [HX.out] at hown2
      have B2 : Below w.heap.size w w2 := by
        have B1' : Below w.heap.size w (wr.alloc (.cells #[.int .u8 (bits .xor .u8 (bits .xor .u8 x y) z)] 5)).drew := (bb.alloc S _).drew
        exact B1'.grown hgrow (by show _ ≤ (wr.alloc (.cells #[.int .u8 (bits .xor .u8 (bits .xor .u8 x y) z)] 5)).heap.size; simp; omega) fun q hq => (hown.lt q hq).1
      clear hown hgrow hat hltg y0 y1 y2 hx0 hx1 hx2 p0 p1 p2 q0 q1 q2 bb S HX
      go_wp2_with fail
      go_roundw
      case rel => exact ⟨k + 1, by omega, by go_num, hown2, B2⟩
      case measure => simp [intOf]; omega
    · have hkn : k = l1 := by omega
      have hge : ¬ (k : Int) < (l1 : Int) := by omega
      have HLn : Hid ((xorL (xorL xs ys) zs).length = l1) := by
        show _ = _
        have hl := xorL_length xs ys (by rw [h0.1, h1.1])
        rw [xorL_length _ _ (by rw [hl, h0.1, h2.1]), hl, h0.1]
      rw [hkn, List.take_of_length_le (Nat.le_of_eq HLn.out)] at hown
      have HY := hid (xorL_byte _ _ (xorL_byte _ _ h0.2.1 h1.2.1) h2.2.1)
      obtain ⟨a, cap, rfl, hbs, _, _, _⟩ := own_form hown HY.out
      have HR := hid (linear3 xs ys zs (by rw [h0.1, h1.1]) (by rw [h0.1, h2.1]))
      have t4 := hT.below bb hT.1
      have x0 := h0.below bb
      have x1 := h1.below bb
      have x2 := h2.below bb
      have j0 : (l1 : Int) ≤ (c0 : Int) := by omega
      have j1 : (l1 : Int) ≤ (c1 : Int) := by omega
      have j2 : (l1 : Int) ≤ (c2 : Int) := by omega
      have r0 : updc 0 xs < 4294967296 := updc_lt (by omega) h0.2.1
      have r1 : updc 0 ys < 4294967296 := updc_lt (by omega) h1.2.1
      have r2 : updc 0 zs < 4294967296 := updc_lt (by omega) h2.2.1
      have ex := u32_xor_nat _ _ r0 r1
      have ey := u32_xor_nat _ _ (xor_lt32 r0 r1) r2
      clear hkn hown h0 h1 h2 hT r0 r1 r2
      go_wp2_with fail
      refine (sum_ a _ cap _ _ t4 hbs (by unfold maxLen; omega)).mono ?_
      rintro en w5 ⟨rfl, rfl⟩
      rw [HR.out]
      go_wp2_with fail
      refine (sum_ a0 l1 c0 xs _ t4 x0 (by unfold maxLen; omega)).mono ?_
      rintro en w6 ⟨rfl, rfl⟩
      go_wp2_with fail
      refine (sum_ a1 l1 c1 ys _ t4 x1 (by unfold maxLen; omega)).mono ?_
      rintro en w7 ⟨rfl, rfl⟩
      go_wp2_with fail
      refine (sum_ a2 l1 c2 zs _ t4 x2 (by unfold maxLen; omega)).mono ?_
      rintro en w8 ⟨rfl, rfl⟩
      generalize updc 0 xs = u at *
      generalize updc 0 ys = v at *
      generalize updc 0 zs = q at *
      generalize u ^^^ v ^^^ q = uvq at *
      go_wp2_with fail
      go_ret
      exact ⟨rfl, bb⟩
set_option maxRecDepth 100000 in
set_option maxHeartbeats 2000000 in
theorem linearD (a0 a1 a2 : Option Addr) (l0 l1 l2 c0 c1 c2 : Nat) (xs ys zs : List Int) (w : World) (hT : Tab w) (h0 : Bs w a0 l2 xs) (h1 : Bs w a1 l2 ys) (h2 : Bs w a2 l2 zs)
    (d1 : l1<l0) (d2 : l2<l1) (n0 : l2 ≤ l0) (n1 : l2 ≤ l1) (n2 : l2 ≤ l2) (k0 : l0 ≤ c0) (k1 : l1 ≤ c1) (k2 : l2 ≤ c2) (m0 : c0 ≤ maxLen) (m1 : c1 ≤ maxLen) (m2 : c2 ≤ maxLen) (hn : l2 ≤ 65536) :
    Calls Tryd.prog 7 #[.slice a0 l0 c0, .slice a1 l1 c1, .slice a2 l2 c2] w fun en w' => en = .returned (.bool true) ∧ Below w.heap.size w w' := by
  unfold maxLen at m0 m1 m2
  obtain ⟨i, hi, hz0, hz1, hz2⟩ := info_parts info5
  have hnn : ¬ (65536 : Int) < (l2 : Int) := by omega
  go_enter Tryd.func7, Tryd.ntmps7
  go_wp2_with fail
  refine (first_ w hT).mono ?_
  rintro en w1 ⟨rfl, B1⟩
  have S1 := B1.size
  go_wp2_with fail
  go_loopw [9, 10] (fun v i wr => ∃ k : Nat, k ≤ l2 ∧ i = .int .i64 k ∧ wr.ownsRow w.heap.size 5 1 v k (cells ((xorL (xorL xs ys) zs).take k)) ∧ Below w.heap.size w wr) (fun _ i _ => l2 - (intOf i).toNat)
  case atStart => exact ⟨0, by omega, rfl, World.ownsRow_nil _ _ _ _, B1⟩
  case round =>
    obtain ⟨k, hk, rfl, hown, bb⟩ := hrel
    have S := bb.size
    by_cases hlt : k < l2
    · obtain ⟨e0, f0, g0⟩ := h0
      obtain ⟨e1, f1, g1⟩ := h1
      obtain ⟨e2, f2, g2⟩ := h2
      rcases g0 with g0 | ⟨b0, o0, rfl, hc0⟩
      · omega
      rcases g1 with g1 | ⟨b1, o1, rfl, hc1⟩
      · omega
      rcases g2 with g2 | ⟨b2, o2, rfl, hc2⟩
      · omega
      have q0 := (bb.cell (World.block_lt_of_cell? w _ (hc0 k hlt))).trans (hc0 k hlt)
      have q1 := (bb.cell (World.block_lt_of_cell? w _ (hc1 k hlt))).trans (hc1 k hlt)
      have q2 := (bb.cell (World.block_lt_of_cell? w _ (hc2 k hlt))).trans (hc2 k hlt)
      have HX : Hid (cells ((xorL (xorL xs ys) zs).take k) ++ [.int .u8 (bits .xor .u8 (bits .xor .u8 (xs.getD k 0) (ys.getD k 0)) (zs.getD k 0))] = cells ((xorL (xorL xs ys) zs).take (k + 1))) := by
        show _ = _
        have hl := xorL_length xs ys (by omega)
        rw [xor3 _ _ _ (getD_byte f0 k) (getD_byte f1 k) (getD_byte f2 k), ← xorL_get xs ys k (by omega) (by omega), ← xorL_get _ zs k (by omega) (by omega), cells_take_succ _ k (by rw [xorL_length _ _ (by omega)]; omega)]
      have v0 := World.block_lt_of_cell? w _ (hc0 k hlt)
      have v1 := World.block_lt_of_cell? w _ (hc1 k hlt)
      have v2 := World.block_lt_of_cell? w _ (hc2 k hlt)
      have hx0 := hid (far_own hown v0)
      have hx1 := hid (far_own hown v1)
      have hx2 := hid (far_own hown v2)
      generalize xs.getD k 0 = x at *
      generalize ys.getD k 0 = y at *
      generalize zs.getD k 0 = z at *
      have p0 := hid (fun o => (((Below.refl wr.heap.size wr).alloc (Nat.le_refl _) o).cell (World.block_lt_of_cell? wr _ q0)).trans q0)
      have p1 := hid (fun o => (((Below.refl wr.heap.size wr).alloc (Nat.le_refl _) o).cell (World.block_lt_of_cell? wr _ q1)).trans q1)
      have p2 := hid (fun o => (((Below.refl wr.heap.size wr).alloc (Nat.le_refl _) o).cell (World.block_lt_of_cell? wr _ q2)).trans q2)
      clear hc0 hc1 hc2 v0 v1 v2
      have i0 : (k : Int) < (l0 : Int) := by omega
      have i1 : (k : Int) < (l1 : Int) := by omega
      have i2 : (k : Int) < (l2 : Int) := by omega
      have i3 : (k : Int) < (l2 : Int) := by omega
      go_wp2_with fail
      go_region_held_law (fun wx => wx.cell? ⟨b0, o0 + k, none⟩ = some (.int .u8 x) ∧ wx.cell? ⟨b1, o1 + k, none⟩ = some (.int .u8 y) ∧ wx.cell? ⟨b2, o2 + k, none⟩ = some (.int .u8 z)) (go_keep)
        ((refine step_append_lies _ rfl (.tmp 42) (.tmp 57) 22 rfl w.heap.size 5 i (.int .u8 0) 1 1 Tryd.underlying22 hi hz0 hz1 hz2 rfl (by decide) _ k _ rfl (hown.alloc _) ⟨wr.heap.size, 0, none⟩ 1 1 [.int .u8 (bits .xor .u8 (bits .xor .u8 x y) z)] rfl rfl (fun j u hj => by
          match j, hj with
          | 0, hj => simp at hj; subst hj; simp [Addr.add]) (by intro u hu; simp at hu; subst hu; rfl) (by omega) (by unfold maxLen; omega) (by omega) (by simp; omega) _ rfl ?_; intro g cap w2 hown2 hgrow hat hltg; have y0 := hgrow.cell (p0.out _) hx0.out; have y1 := hgrow.cell (p1.out _) hx1.out; have y2 := hgrow.cell (p2.out _) hx2.out))
      rw [HX.out] at hown2
      have B2 : Below w.heap.size w w2 := by
        have B1' : Below w.heap.size w (wr.alloc (.cells #[.int .u8 (bits .xor .u8 (bits .xor .u8 x y) z)] 5)).drew := (bb.alloc S _).drew
        exact B1'.grown hgrow (by show _ ≤ (wr.alloc (.cells #[.int .u8 (bits .xor .u8 (bits .xor .u8 x y) z)] 5)).heap.size; simp; omega) fun q hq => (hown.lt q hq).1
      clear hown hgrow hat hltg y0 y1 y2 hx0 hx1 hx2 p0 p1 p2 q0 q1 q2 bb S HX
      go_wp2_with fail
      go_roundw
      case rel => exact ⟨k + 1, by omega, by go_num, hown2, B2⟩
      case measure => simp [intOf]; omega
    · have hkn : k = l2 := by omega
      have hge : ¬ (k : Int) < (l2 : Int) := by omega
      have HLn : Hid ((xorL (xorL xs ys) zs).length = l2) := by
        show _ = _
        have hl := xorL_length xs ys (by rw [h0.1, h1.1])
        rw [xorL_length _ _ (by rw [hl, h0.1, h2.1]), hl, h0.1]
      rw [hkn, List.take_of_length_le (Nat.le_of_eq HLn.out)] at hown
      have HY := hid (xorL_byte _ _ (xorL_byte _ _ h0.2.1 h1.2.1) h2.2.1)
      obtain ⟨a, cap, rfl, hbs, _, _, _⟩ := own_form hown HY.out
      have HR := hid (linear3 xs ys zs (by rw [h0.1, h1.1]) (by rw [h0.1, h2.1]))
      have t4 := hT.below bb hT.1
      have x0 := h0.below bb
      have x1 := h1.below bb
      have x2 := h2.below bb
      have j0 : (l2 : Int) ≤ (c0 : Int) := by omega
      have j1 : (l2 : Int) ≤ (c1 : Int) := by omega
      have j2 : (l2 : Int) ≤ (c2 : Int) := by omega
      have r0 : updc 0 xs < 4294967296 := updc_lt (by omega) h0.2.1
      have r1 : updc 0 ys < 4294967296 := updc_lt (by omega) h1.2.1
      have r2 : updc 0 zs < 4294967296 := updc_lt (by omega) h2.2.1
      have ex := u32_xor_nat _ _ r0 r1
      have ey := u32_xor_nat _ _ (xor_lt32 r0 r1) r2
      clear hkn hown h0 h1 h2 hT r0 r1 r2
      go_wp2_with fail
      refine (sum_ a _ cap _ _ t4 hbs (by unfold maxLen; omega)).mono ?_
      rintro en w5 ⟨rfl, rfl⟩
      rw [HR.out]
      go_wp2_with fail
      refine (sum_ a0 l2 c0 xs _ t4 x0 (by unfold maxLen; omega)).mono ?_
      rintro en w6 ⟨rfl, rfl⟩
      go_wp2_with fail
      refine (sum_ a1 l2 c1 ys _ t4 x1 (by unfold maxLen; omega)).mono ?_
      rintro en w7 ⟨rfl, rfl⟩
      go_wp2_with fail
      refine (sum_ a2 l2 c2 zs _ t4 x2 (by unfold maxLen; omega)).mono ?_
      rintro en w8 ⟨rfl, rfl⟩
      generalize updc 0 xs = u at *
      generalize updc 0 ys = v at *
      generalize updc 0 zs = q at *
      generalize u ^^^ v ^^^ q = uvq at *
      go_wp2_with fail
      go_ret
      exact ⟨rfl, bb⟩
set_option maxRecDepth 100000 in
set_option maxHeartbeats 2000000 in
theorem linearBigA (a0 a1 a2 : Option Addr) (l0 l1 l2 c0 c1 c2 : Nat) (w : World) (hT : Tab w)
    (d1 : ¬l1<l0) (d2 : ¬l2<l0) (k0 : l0 ≤ c0) (k1 : l1 ≤ c1) (k2 : l2 ≤ c2) (m0 : c0 ≤ maxLen) (m1 : c1 ≤ maxLen) (m2 : c2 ≤ maxLen) (hn : ¬ l0 ≤ 65536) :
    Calls Tryd.prog 7 #[.slice a0 l0 c0, .slice a1 l1 c1, .slice a2 l2 c2] w fun en w' => en = .returned (.bool true) ∧ Below w.heap.size w w' := by
  unfold maxLen at m0 m1 m2
  have hnn : (65536 : Int) < (l0 : Int) := by omega
  go_enter Tryd.func7, Tryd.ntmps7
  go_wp2_with fail
  refine (first_ w hT).mono ?_
  rintro en w1 ⟨rfl, B1⟩
  go_wp2_with fail
  go_ret
  exact ⟨rfl, B1⟩
set_option maxRecDepth 100000 in
set_option maxHeartbeats 2000000 in
theorem linearBigB (a0 a1 a2 : Option Addr) (l0 l1 l2 c0 c1 c2 : Nat) (w : World) (hT : Tab w)
    (d1 : ¬l1<l0) (d2 : l2<l0) (k0 : l0 ≤ c0) (k1 : l1 ≤ c1) (k2 : l2 ≤ c2) (m0 : c0 ≤ maxLen) (m1 : c1 ≤ maxLen) (m2 : c2 ≤ maxLen) (hn : ¬ l2 ≤ 65536) :
    Calls Tryd.prog 7 #[.slice a0 l0 c0, .slice a1 l1 c1, .slice a2 l2 c2] w fun en w' => en = .returned (.bool true) ∧ Below w.heap.size w w' := by
  unfold maxLen at m0 m1 m2
  have hnn : (65536 : Int) < (l2 : Int) := by omega
  go_enter Tryd.func7, Tryd.ntmps7
  go_wp2_with fail
  refine (first_ w hT).mono ?_
  rintro en w1 ⟨rfl, B1⟩
  go_wp2_with fail
  go_ret
  exact ⟨rfl, B1⟩
set_option maxRecDepth 100000 in
set_option maxHeartbeats 2000000 in
theorem linearBigC (a0 a1 a2 : Option Addr) (l0 l1 l2 c0 c1 c2 : Nat) (w : World) (hT : Tab w)
    (d1 : l1<l0) (d2 : ¬l2<l1) (k0 : l0 ≤ c0) (k1 : l1 ≤ c1) (k2 : l2 ≤ c2) (m0 : c0 ≤ maxLen) (m1 : c1 ≤ maxLen) (m2 : c2 ≤ maxLen) (hn : ¬ l1 ≤ 65536) :
    Calls Tryd.prog 7 #[.slice a0 l0 c0, .slice a1 l1 c1, .slice a2 l2 c2] w fun en w' => en = .returned (.bool true) ∧ Below w.heap.size w w' := by
  unfold maxLen at m0 m1 m2
  have hnn : (65536 : Int) < (l1 : Int) := by omega
  go_enter Tryd.func7, Tryd.ntmps7
  go_wp2_with fail
  refine (first_ w hT).mono ?_
  rintro en w1 ⟨rfl, B1⟩
  go_wp2_with fail
  go_ret
  exact ⟨rfl, B1⟩
set_option maxRecDepth 100000 in
set_option maxHeartbeats 2000000 in
theorem linearBigD (a0 a1 a2 : Option Addr) (l0 l1 l2 c0 c1 c2 : Nat) (w : World) (hT : Tab w)
    (d1 : l1<l0) (d2 : l2<l1) (k0 : l0 ≤ c0) (k1 : l1 ≤ c1) (k2 : l2 ≤ c2) (m0 : c0 ≤ maxLen) (m1 : c1 ≤ maxLen) (m2 : c2 ≤ maxLen) (hn : ¬ l2 ≤ 65536) :
    Calls Tryd.prog 7 #[.slice a0 l0 c0, .slice a1 l1 c1, .slice a2 l2 c2] w fun en w' => en = .returned (.bool true) ∧ Below w.heap.size w w' := by
  unfold maxLen at m0 m1 m2
  have hnn : (65536 : Int) < (l2 : Int) := by omega
  go_enter Tryd.func7, Tryd.ntmps7
  go_wp2_with fail
  refine (first_ w hT).mono ?_
  rintro en w1 ⟨rfl, B1⟩
  go_wp2_with fail
  go_ret
  exact ⟨rfl, B1⟩
theorem crcLinear_ (a0 : Option Addr) (l0 c0 : Nat) (xs : List Int) (a1 : Option Addr) (l1 c1 : Nat) (ys : List Int) (a2 : Option Addr) (l2 c2 : Nat) (zs : List Int) (w : World) (hT : Tab w)
    (h0 : Bs w a0 l0 xs) (k0 : l0 ≤ c0) (m0 : c0 ≤ maxLen) (h1 : Bs w a1 l1 ys) (k1 : l1 ≤ c1) (m1 : c1 ≤ maxLen) (h2 : Bs w a2 l2 zs) (k2 : l2 ≤ c2) (m2 : c2 ≤ maxLen) :
    Calls Tryd.prog 7 #[.slice a0 l0 c0, .slice a1 l1 c1, .slice a2 l2 c2] w fun en w' => en = .returned (.bool true) ∧ Below w.heap.size w w' := by
  by_cases d1 : l1 < l0
  · by_cases d2 : l2 < l1
    · by_cases hn : l2 ≤ 65536
      · exact linearD a0 a1 a2 l0 l1 l2 c0 c1 c2 _ _ _ w hT (h0.take (m := l2) (by omega)) (h1.take (m := l2) (by omega)) (h2.take (m := l2) (by omega)) d1 d2 (by omega) (by omega) (by omega) k0 k1 k2 m0 m1 m2 hn
      · exact linearBigD a0 a1 a2 l0 l1 l2 c0 c1 c2 w hT d1 d2 k0 k1 k2 m0 m1 m2 hn
    · by_cases hn : l1 ≤ 65536
      · exact linearC a0 a1 a2 l0 l1 l2 c0 c1 c2 _ _ _ w hT (h0.take (m := l1) (by omega)) (h1.take (m := l1) (by omega)) (h2.take (m := l1) (by omega)) d1 d2 (by omega) (by omega) (by omega) k0 k1 k2 m0 m1 m2 hn
      · exact linearBigC a0 a1 a2 l0 l1 l2 c0 c1 c2 w hT d1 d2 k0 k1 k2 m0 m1 m2 hn
  · by_cases d2 : l2 < l0
    · by_cases hn : l2 ≤ 65536
      · exact linearB a0 a1 a2 l0 l1 l2 c0 c1 c2 _ _ _ w hT (h0.take (m := l2) (by omega)) (h1.take (m := l2) (by omega)) (h2.take (m := l2) (by omega)) d1 d2 (by omega) (by omega) (by omega) k0 k1 k2 m0 m1 m2 hn
      · exact linearBigB a0 a1 a2 l0 l1 l2 c0 c1 c2 w hT d1 d2 k0 k1 k2 m0 m1 m2 hn
    · by_cases hn : l0 ≤ 65536
      · exact linearA a0 a1 a2 l0 l1 l2 c0 c1 c2 _ _ _ w hT (h0.take (m := l0) (by omega)) (h1.take (m := l0) (by omega)) (h2.take (m := l0) (by omega)) d1 d2 (by omega) (by omega) (by omega) k0 k1 k2 m0 m1 m2 hn
      · exact linearBigA a0 a1 a2 l0 l1 l2 c0 c1 c2 w hT d1 d2 k0 k1 k2 m0 m1 m2 hn
end Go.Proofs.YtfgnllfgccbolaaDoor
