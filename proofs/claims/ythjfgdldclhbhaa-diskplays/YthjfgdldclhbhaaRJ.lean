import Derived.Test.YthjfgdldclhbhaaRI
namespace Go.Proofs.Ythjfgdldclhbhaa
set_option maxRecDepth 100000
open Go.RowKit Go.Shelf
set_option linter.unusedVariables false

set_option maxHeartbeats 2000000 in
/-- All that lasts. -/
theorem rdurable_ (e : Nat) (s : St) (N : Nat → Prop) (gl : Nat) (cur : Array Value) (pa : Option Addr) (pc : Nat) (I : List It) (fa : Option Addr) (fc : Nat) (fs : List (Int × Int)) (w : World) (h : Rk w e s N gl cur pa pc I fa fc fs) (hS : ∀ i, i < s.n → Sec (s.S i)) :
    Calls Try.prog 43 #[.pointer (some ⟨e, 0, none⟩)] w fun en w' => ∃ v, en = .returned v ∧ w'.ownsRow w.heap.size 5 1 v (512 * s.n) (cells (flat s.S s.n)) ∧ Below w.heap.size w w' := by
  obtain ⟨i, hi, hz0, hz1, hz2⟩ := info_parts info5
  have c0 := h.c0
  have hn2 := h.n2
  have HR := hid h
  have HSC := hid hS
  obtain ⟨n, HN⟩ : ∃ n, Hid (s.n = n) := ⟨_, rfl⟩
  have hn8 : n ≤ 8192 := by rw [← HN.out]; exact hn2
  have hn8I : (n : Int) ≤ 8192 := by omega
  have e3 : (n : Int) * 512 = ((512 * n : Nat) : Int) := by omega
  obtain ⟨L, HL⟩ : ∃ L, Hid (512 * n = L) := ⟨_, rfl⟩
  have hL1 : L ≤ 4194304 := by have := HL.out; omega
  rw [HL.out] at e3
  rw [HN.out] at c0
  clear h hS
  rw [HN.out, HL.out]
  go_enter Try.func43, Try.ntmps43
  go_wp2_with (at_make; refine wpList_make_own _ rfl _ _ 25 rfl w.heap.size 5 i (.int .u8 0) 1 Try.underlying25 hi hz0 hz1 .i64 .i64 _ L rfl rfl (by first | rfl | omega) (by rw [hz2]; omega) (by unfold maxLen; omega) (Nat.le_refl _) ?_; intro w1 hown hg1; have HO1 := hid hown; have HB1 := hid (below_of_grown hg1); clear hown hg1)
  go_loopw [3, 4] (fun u k wr => ∃ j : Nat, j ≤ n ∧ k = .int .i64 j ∧ wr.ownsRow w.heap.size 5 1 u (512 * j) (cells (flat s.S j)) ∧ Below w.heap.size w wr) (fun _ k _ => n - (intOf k).toNat)
  case atStart => exact ⟨0, Nat.zero_le _, rfl, HO1.out, HB1.out⟩
  case round =>
    clear HO1 HB1
    obtain ⟨j, hj, rfl, ho, hb⟩ := hrel
    have R1 := HR.out.below hb
    have c0 : wr.cell? ⟨e, 0, none⟩ = some (.int .i64 n) := by rw [← HN.out]; exact R1.c0
    by_cases hlt : j < n
    · have hjI : (j : Int) < (n : Int) := by omega
      have kl := rlasting_ e s N gl cur pa pc I fa fc fs j wr R1 (by rw [HN.out]; exact hlt)
      have hsec := HSC.out j (by rw [HN.out]; exact hlt)
      have HO := hid ho
      have HB := hid hb
      clear ho hb R1
      go_wp2_with fail
      refine kl.mono ?_
      rintro en w2 ⟨v2, rfl, o2, g2⟩
      obtain ⟨gz, cz, rfl, _, _, _, _, _⟩ := own_head o2 (by decide)
      obtain ⟨a2, c2, e2, b2, d1, d2, _⟩ := own_form o2 hsec.2
      obtain ⟨rfl, -, rfl⟩ : some (⟨gz, 0, none⟩ : Addr) = a2 ∧ 512 = 512 ∧ cz = c2 := by simpa using e2
      have O2 := hid (own_at' HO.out (fun q hq => g2.block q (HO.out.lt q hq).2))
      have HB2 := hid (bel_bel HB.out HB.out.size g2)
      have hsz : w.heap.size ≤ w2.heap.size := HB2.out.size
      have HSR := hid (b2.src1 (grown_of_below (Below.refl _ _)))
      have hLL := HL.out
      clear kl o2 g2 e2 b2 HO HB
      go_wp2_with (at_builtin; refine wpList_append_own _ rfl _ _ 25 rfl w.heap.size 5 i (.int .u8 0) 1 1 Try.underlying25 hi hz0 hz1 hz2 rfl (by decide) _ (512 * j) _ rfl (by exact O2.out) ⟨gz, 0, none⟩ 512 cz (cells (s.S j)) rfl (by rw [cells_length, hsec.1]) HSR.out (cells_one _) (by unfold maxLen; omega) (by omega) hsz ?_; intro v' w' h1 h2 _; have O3 := hid h1; have HB3 := hid (bel_own HB2.out O2.out h2); clear h1 h2)
      go_roundw
      case rel => exact ⟨j + 1, by omega, by go_num, by
        rw [show 512 * (j + 1) = 512 * j + 512 by omega, flat]
        have := O3.out
        rwa [← cells_append] at this, HB3.out⟩
      case measure => simp [intOf]; omega
    · have hjI : ¬ (j : Int) < (n : Int) := by omega
      obtain rfl : j = n := by omega
      rw [HL.out] at ho
      have HO := hid ho
      have HB := hid hb
      clear ho hb R1
      go_wp2_with fail
      go_ret
      exact ⟨_, rfl, HO.out, HB.out⟩
end Go.Proofs.Ythjfgdldclhbhaa
