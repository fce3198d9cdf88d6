import Derived.Test.YtknjokmoommdeabGreatDoorQ9
import Derived.Test.YtknjokmoommdeabGreatDoorP21
namespace Go.Proofs.YtknjokmoommdeabGreatDoor
set_option maxRecDepth 100000
open Go.RowKit
set_option linter.unusedVariables false

set_option maxHeartbeats 800000 in
theorem refLess7_ (b off c b' off' c' n m : Nat) (l r : List Int) (w : World) (h1 : l.length = n) (h2 : r.length = m) (hn : n ≤ 100) (hm : m ≤ 100) (hl : ∀ i, i < n → w.cell? ⟨b, off + i, none⟩ = some (.int .u8 (l.getD i 0))) (hr : ∀ i, i < m → w.cell? ⟨b', off' + i, none⟩ = some (.int .u8 (r.getD i 0))) :
    Calls Tryz.prog 20 #[.slice (some ⟨b, off, none⟩) n c, .slice (some ⟨b', off', none⟩) m c'] w fun e w' => e = .returned (.bool (lx l r)) ∧ Below w.heap.size w w' := by
  have HL := hid hl
  have HR := hid hr
  have H1 := hid h1
  have H2 := hid h2
  clear hl hr h1 h2
  go_enter Tryz.func20, Tryz.ntmps20
  go_wp2_with fail
  go_loopw [5] (fun i wr => ∃ j : Nat, j ≤ n ∧ j ≤ m ∧ i = .int .i64 j ∧ Hid (∀ i, i < j → l.getD i 0 = r.getD i 0) ∧ Below w.heap.size w wr) (fun i _ => n - (intOf i).toNat)
  case atStart => exact ⟨0, by omega, by omega, rfl, fun i hi => by omega, Below.refl _ _⟩
  case round =>
    obtain ⟨j, hj, hjm, rfl, HE, B0⟩ := hrel
    by_cases hlt : j < n
    · have hI : (j : Int) < n := by omega
      by_cases hlm : j < m
      · have hM : (j : Int) < m := by omega
        have c1 := (B0.cell (World.block_lt_of_cell? w _ (HL.out j hlt))).trans (HL.out j hlt)
        have c2 := (B0.cell (World.block_lt_of_cell? w _ (HR.out j hlm))).trans (HR.out j hlm)
        by_cases he : l.getD j 0 = r.getD j 0
        · have HE2 : Hid (∀ i, i < j + 1 → l.getD i 0 = r.getD i 0) := fun i hi => by
            by_cases e : i = j
            · rw [e]; exact he
            · exact HE.out i (by omega)
          rw [he] at c1
          generalize r.getD j 0 = y at *
          have hne : (y != y) = false := by simp
          clear he
          go_wp2_with fail
          go_region
          go_wp2_with fail
          go_roundw
          case rel => exact ⟨j + 1, by omega, by omega, by go_num, HE2, bel_drew1 B0⟩
          case measure => simp [intOf]; omega
        · have HX := hid (lx_at l r j (by rw [H1.out]; exact hlt) (by rw [H2.out]; exact hlm) HE.out he)
          have hne : (l.getD j 0 != r.getD j 0) = true := bne_iff_ne.2 he
          generalize l.getD j 0 = x at *
          generalize r.getD j 0 = y at *
          clear he
          go_wp2_with fail
          go_region
          go_wp2_with fail
          go_region
          go_wp2_with fail
          go_ret
          exact ⟨by rw [HX.out]; rfl, bel_drew1 (bel_drew1 B0)⟩
      · have hM : ¬ (j : Int) < m := by omega
        have HX := hid (lx_all l r (fun i hi hi' => HE.out i (by rw [H2.out] at hi'; omega)))
        rw [H1.out, H2.out] at HX
        go_wp2_with fail
        go_ret
        exact ⟨by rw [HX.out]; rfl, B0⟩
    · have hI : ¬ (j : Int) < n := by omega
      have HX := hid (lx_all l r (fun i hi hi' => HE.out i (by rw [H1.out] at hi; omega)))
      rw [H1.out, H2.out] at HX
      go_wp2_with fail
      go_ret
      exact ⟨by rw [HX.out]; rfl, B0⟩
theorem pp_len0 {F H L B : Int} (h : vp F H L B = false) : (pp F H L B).length = 0 := by
  unfold pp; rw [h]; rfl
theorem pp_lenp {F H L B : Int} (h : vp F H L B = true) : 0 < (pp F H L B).length ∧ (pp F H L B).length ≤ 18 := by
  unfold pp
  rw [h, if_pos rfl, List.length_cons, List.length_cons, pa_length]
  have := nb_le F
  split <;> omega
theorem Bs.block {w : World} {a : Option Addr} {n : Nat} {zs : List Int} (h : Bs w a n zs) (hn : 0 < n) : ∃ b off, a = some ⟨b, off, none⟩ ∧ ∀ i, i < n → w.cell? ⟨b, off + i, none⟩ = some (.int .u8 (zs.getD i 0)) := by
  rcases h.2.2 with h0 | h0
  · omega
  · exact h0
end Go.Proofs.YtknjokmoommdeabGreatDoor
