import Derived.Test.YtnmklleoilicdaaXA
namespace Go.Proofs.Ytnmklleoilicdaa
set_option maxRecDepth 100000
open Go.RowKit Go.Shelf Go.Maps
set_option linter.unusedVariables false
attribute [local go_sem ↓] Go.wp_at_zero Go.wp_at_succ

set_option maxHeartbeats 1000000 in
/-- The law's marked: are these the bytes, and behind them these marks? Then all is written over. -/
theorem marked_ (g n c m d : Nat) (a : Option Addr) (zs : List Int) (x y : Int) (w : World) (h : Yr w g (n + 2) (zs ++ [x, y])) (hnc : n + 2 ≤ c) (hcm : c ≤ maxLen) (hb : Bs w a n zs) (hn : n ≤ 100000) :
    Calls Try.prog 45 #[.slice (some ⟨g, 0, none⟩) (n + 2) c, .slice a n d, .int .u8 x, .int .u8 y] w fun e w' => e = .returned (.bool true) ∧ (∃ w1 ys, Below w.heap.size w w1 ∧ w1.grownBy w' (some g) ∧ Yr w' g (n + 2) ys) := by
  have HY := hid h
  have hl : zs.length = n := hb.1
  unfold maxLen at hcm
  have e1 : (zs ++ [x, y]).getD n 0 = x := by simp [List.getD, ← hl]
  have e2 : (zs ++ [x, y]).getD (n + 1) 0 = y := by simp [List.getD, ← hl]
  have HT : Hid ((zs ++ [x, y]).take n = zs) := by show _ = _; rw [← hl]; simp
  obtain ⟨N, HN⟩ : ∃ N, Hid (n + 2 = N) := ⟨_, rfl⟩
  obtain ⟨n1, Hn1⟩ : ∃ N : Nat, Hid (n + 1 = N) := ⟨_, rfl⟩
  have HE1 := hid e1
  have HE2 := hid e2
  rw [Hn1.out] at HE2
  have i1 : (0 : Int) ≤ n := by omega
  have i2 : (n : Int) ≤ c := by omega
  have i3 : ¬ c = 0 := by omega
  have i4 : (n : Int) + 1 = n1 := by have := Hn1.out; omega
  have i5 : (n : Int) < N := by have := HN.out; omega
  have i6 : (n1 : Int) < N := by have := HN.out; have := Hn1.out; omega
  have kb := fun wx (h1 : Yr wx g (n + 2) (zs ++ [x, y])) (h2 : Bs wx a n zs) => s_sameB (w0 := wx) (w := wx) c d true (Below.refl _ _) (by have h3 := ((h1.vs (c := c) hnc (by unfold maxLen; omega)).cut (m := n) (d := c) (by omega) (by omega) (Nat.le_refl _)).bs; rw [HT.out] at h3; exact h3) h2 (by omega) (by omega) (by simp)
  rw [HN.out] at HY kb ⊢
  have HNN := HN.out
  have HB := hid hb
  clear h hb hl e1 e2
  go_enter Try.func45, Try.ntmps45
  go_wp2_with fail
  refine (kb _ HY.out HB.out).mono ?_
  rintro e w1 ⟨rfl, -, bb⟩
  have HB1 := hid bb
  have HY1 := hid (HY.out.below bb)
  have c1 := HY1.out.cell (i := n) (by omega)
  have c2 := HY1.out.cell (i := n1) (by have := Hn1.out; omega)
  rw [HE1.out] at c1
  rw [HE2.out] at c2
  have q1 : (x == x) = true := by simp
  have q2 : (y == y) = true := by simp
  clear bb kb HB
  go_wp2_with fail
  clear c1 c2
  go_loopw [11] (fun i wr => ∃ (j : Nat) (us : List Int), j ≤ N ∧ i = .int .i64 j ∧ Hid (Yr wr g N us) ∧ Hid (w1.grownBy wr (some g))) (fun i _ => N - (intOf i).toNat)
  case atStart => exact ⟨0, _, by omega, rfl, HY1, ⟨rfl, rfl, rfl, Nat.le_refl _, fun _ _ _ => rfl⟩⟩
  case round =>
    obtain ⟨j, us, hj, rfl, HU, HGR⟩ := hrel
    by_cases hlt : j < N
    · have hjI : (j : Int) < N := by omega
      have cj := HU.out.cell (i := j) (by omega)
      have fj := HU.out.fz j
      have HU2 := hid (HU.out.set (i := j) (z := 35) (by omega) (by omega))
      have HG2 := hid (by_trans HGR.out (set_by wr g j (.int .u8 35)))
      go_wp2_with fail
      go_roundw
      case rel => exact ⟨j + 1, _, by omega, by go_num, HU2, HG2⟩
      case measure => simp [intOf]; omega
    · have hjI : ¬ (j : Int) < N := by omega
      clear hlt
      go_wp2_with fail
      go_ret
      exact ⟨by first | rfl | simp, w1, HB1.out, HGR.out, us, HU.out⟩
end Go.Proofs.Ytnmklleoilicdaa
