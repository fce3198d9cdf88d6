import Derived.Test.YtcbmgpmjnehjdaaGreatWH
import Derived.Test.YtcbmgpmjnehjdaaGreatRF
import Derived.Deep.RegionHeldLaw
namespace Go.Proofs.YtcbmgpmjnehjdaaGreat
set_option maxRecDepth 100000
open Go.RowKit Go.Maps
set_option linter.unusedVariables false

set_option maxHeartbeats 2000000 in
/-- SameSets of two lists that say the same. -/
theorem sameSetsEq_ (V U : Nat → Prop) (a a2 : Option Addr) (n c d : Nat) (l : List Sx) (w : World) (h1 : Sl w V a n l) (h2 : Sl w U a2 n l) (hn : n ≤ 1000000000) :
    Calls Tryz.prog 17 #[.slice a n c, .slice a2 n d] w fun e w' => e = .returned (.bool true) ∧ Below w.heap.size w w' := by
  have H1 := hid h1
  have H2 := hid h2
  clear h1 h2
  have hne : ((n : Int) != (n : Int)) = false := by simp
  go_enter Tryz.func17, Tryz.ntmps17
  go_wp2_with fail
  clear hne
  go_loopw [5] (fun i wr => ∃ k : Nat, k ≤ n ∧ i = .int .i64 k ∧ Hid (Bw w wr)) (fun i _ => n - (intOf i).toNat)
  case atStart => exact ⟨0, by omega, rfl, Below.refl _ _⟩
  case round =>
    obtain ⟨k, hk, rfl, HB⟩ := hrel
    by_cases hlt : k < n
    · have hI : (k : Int) < n := by omega
      obtain ⟨ba, oa, rfl, hca⟩ : ∃ b off, a = some ⟨b, off, none⟩ ∧ ∀ i, i < n → SetAt wr V b (off + i * 3) (l.getD i default) := by
        rcases (H1.out.below HB.out).cells with h0 | ⟨b, off, e, -, h⟩
        · omega
        · exact ⟨b, off, e, h⟩
      obtain ⟨bb, ob, rfl, hcb⟩ : ∃ b off, a2 = some ⟨b, off, none⟩ ∧ ∀ i, i < n → SetAt wr U b (off + i * 3) (l.getD i default) := by
        rcases (H2.out.below HB.out).cells with h0 | ⟨b, off, e, -, h⟩
        · omega
        · exact ⟨b, off, e, h⟩
      have hx := hca k hlt
      have hy := hcb k hlt
      obtain ⟨x, HX⟩ : ∃ x, Hid (l.getD k default = x) := ⟨_, rfl⟩
      rw [HX.out] at hx hy
      obtain ⟨xk, xv, xg⟩ := x
      obtain ⟨ka, kc, va, vc, x0, x1, x2, v1, v2⟩ := hx
      obtain ⟨kb, lc, vb, uc, y0, y1, y2, u1, u2⟩ := hy
      simp only at x0 x1 x2 v1 v2 y0 y1 y2 u1 u2
      have k1 := fun wx (hb : Bw wr wx) => same_d ka kb xk.length kc xk.length lc xk xk wx (v1.bs.below hb) (u1.bs.below hb) (Nat.le_trans v1.nc v1.cm) (Nat.le_trans u1.nc u1.cm)
      have k2 := fun wx (hb : Bw wr wx) => same_d va vb xv.length vc xv.length uc xv xv wx (v2.bs.below hb) (u2.bs.below hb) (Nat.le_trans v2.nc v2.cm) (Nat.le_trans u2.nc u2.cm)
      rw [sameB_self] at k1 k2
      obtain ⟨kl, Hkl⟩ : ∃ z : Nat, Hid (xk.length = z) := ⟨_, rfl⟩
      obtain ⟨vl, Hvl⟩ : ∃ z : Nat, Hid (xv.length = z) := ⟨_, rfl⟩
      rw [Hkl.out] at x0 y0 k1
      rw [Hvl.out] at x1 y1 k2
      clear v1 v2 u1 u2 hca hcb
      have hbb : (xg != xg) = false := by simp
      go_wp2_with fail
      refine wp_quietC (Bw wr) (by kernel_rfl) (by kernel_rfl) (below_drew _) ?_
      repeat (first | go_big_quiet_skip | (go_big_quiet_want; go_big_quiet_op; first | go_big_quiet_on | (apply Exists.intro; refine ⟨fun wq hq => ?_, ?_⟩; (· first | (with_reducible rfl) | (go_at_call 47; exact (k1 _ hq).mono fun _ _ h => ⟨h.1, hq.on h.2.below⟩) | (have q1 := hq.cell x0; have q5 := hq.cell y0; go_simp; rfl) | rfl); go_big_quiet_on)))
      refine wpQuiet_nil ?_
      intro w3 s3
      have HB3 : Hid (Bw wr w3) := s3
      clear s3
      go_wp2_with fail
      refine wp_quietC (Bw wr) (by kernel_rfl) (by kernel_rfl) (Bw.on HB3.out (below_drew _)) ?_
      repeat (first | go_big_quiet_skip | (go_big_quiet_want; go_big_quiet_op; first | go_big_quiet_on | (apply Exists.intro; refine ⟨fun wq hq => ?_, ?_⟩; (· first | (with_reducible rfl) | (go_at_call 47; exact (k2 _ hq).mono fun _ _ h => ⟨h.1, hq.on h.2.below⟩) | (have q1 := hq.cell x1; have q5 := hq.cell y1; go_simp; rfl) | rfl); go_big_quiet_on)))
      refine wpQuiet_nil ?_
      intro w4 s4
      have HB4 : Hid (Bw wr w4) := s4
      clear s4
      go_wp2_with fail
      refine wp_quietC (Bw wr) (by kernel_rfl) (by kernel_rfl) (Bw.on HB4.out (below_drew _)) ?_
      repeat (first | go_big_quiet_skip | (go_big_quiet_want; go_big_quiet_op; first | go_big_quiet_on | (apply Exists.intro; refine ⟨fun wq hq => ?_, ?_⟩; (· first | (with_reducible rfl) | (have q1 := hq.cell x2; have q5 := hq.cell y2; go_simp; rfl) | rfl); go_big_quiet_on)))
      refine wpQuiet_nil ?_
      intro w5 s5
      have HB5 : Hid (Bw w w5) := Bw.on HB.out s5
      clear s5 k1 k2 x0 x1 x2 y0 y1 y2
      go_wp2_with fail
      go_roundw
      case rel => exact ⟨k + 1, by omega, by go_num, HB5⟩
      case measure => simp [intOf]; omega
    · have hI : ¬ (k : Int) < n := by omega
      go_wp2_with fail
      go_ret
      exact ⟨rfl, HB.out⟩
end Go.Proofs.YtcbmgpmjnehjdaaGreat
