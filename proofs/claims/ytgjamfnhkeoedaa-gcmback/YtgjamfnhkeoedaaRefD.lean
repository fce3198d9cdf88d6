import Derived.Test.YtgjamfnhkeoedaaRefC
namespace Go.Proofs.Ytgjamfnhkeoedaa
open Go.RowKit
set_option linter.unusedVariables false

set_option maxRecDepth 100000 in
set_option maxHeartbeats 4000000 in
theorem refBlock_ (g : Nat) (k f : Nat → Nat) (w : World) (hc : Ci w g k) (hk : ∀ j, k j < 256) (hf : ∀ i, i < 16 → f i < 256) :
    Calls Try.prog 34 #[.pointer (some ⟨g, 0, none⟩), .agg (av f)] w fun e w' => e = .returned (.agg (av (bl k f 14))) ∧ Below w.heap.size w w' := by
  have hgl := hc.lt
  have C1 := fun w hc => keyed_ g 0 k f w hc (by omega) hk hf
  rw [show xk k 0 f = bl k f 0 from rfl] at C1
  obtain ⟨A0, A1, B0⟩ := new2 w (av f) (av fun _ => 0)
  go_enter Try.func34, Try.ntmps34
  go_wp2_with (refine wpList_lda rfl _ rfl w.heap.size rfl _ (by exact A0) ?_)
  rw [zeros16a]
  generalize (w.alloc (.cells (av f) 44)).alloc (.cells (av fun _ => 0) 44) = w1 at *
  have S0 := B0.size
  have l1 := A1.lt
  refine (C1 _ (hc.keep B0 hgl)).mono ?_
  rintro e w2 ⟨rfl, g2⟩
  have A1 := (A1.kept g2).alloc (.cells (av (bl k f 0)) 44)
  have A2 := Ar.new w2 (av (bl k f 0))
  have S2 := g2.size
  have B0 := bel_bel B0 S0 g2
  have B0 := B0.alloc B0.size (.cells (av (bl k f 0)) 44)
  clear g2 C1 A0 S0
  have hn : w.heap.size + 1 < w2.heap.size := by omega
  go_wp2_with (refine wpList_stna rfl rfl _ _ rfl _ _ _ rfl rfl rfl (by rfl) ?_)
  generalize hgb : w2.heap.size = gb at *
  generalize w2.alloc (.cells (av (bl k f 0)) 44) = w3 at *
  clear hgb l1 S2
  go_loopw [6] (fun i wr => ∃ q : Nat, q ≤ 14 ∧ i = .int .i64 ((q : Int) + 1) ∧ Ar wr (w.heap.size + 1) (av fun _ => 0) ∧ Ar wr gb (av (bl k f q)) ∧ Below w.heap.size w wr) (fun i _ => 15 - (intOf i).toNat)
  case atStart => exact ⟨0, by omega, rfl, A1, A2, B0⟩
  case round =>
    obtain ⟨q, hq, rfl, a1, a2, b0⟩ := hrel
    clear A1 A2 B0
    by_cases hlt : q < 14
    · have hfl := bl_lt hk hf q
      have S := b0.size
      have HN : Hid (bl k f (q + 1) = xk k (q + 1) (if q + 1 < 14 then mx (tn (bl k f q)) else tn (bl k f q))) := rfl
      have k1 := fun w hc => turned_ g k (bl k f q) w hc hfl
      have k2 := fun w hc => mixed_ g k (tn (bl k f q)) w hc (tn_lt hfl)
      have k3 := fun w hc => keyed_ g (q + 1) k (if q + 1 < 14 then mx (tn (bl k f q)) else tn (bl k f q)) w hc (by omega) hk (by split; exact mx_lt (tn_lt hfl); exact tn_lt hfl)
      rw [← HN.out, show ((q + 1 : Nat) : Int) = (q : Int) + 1 from rfl] at k3
      go_wp2_with (refine wpList_lda rfl _ rfl gb rfl _ (by exact a2) ?_)
      refine (k1 _ (hc.keep b0 hgl)).mono ?_
      rintro e wa ⟨rfl, g2⟩
      have a1 := (a1.kept g2).orow (g' := gb) (by omega) (av (tn (bl k f q)))
      have a2' := a2.kept g2
      have a2 := a2'.row (av (tn (bl k f q)))
      have b0 := bel_row (bel_bel b0 S g2) (g := gb) (by omega) (av (tn (bl k f q)))
      have S := b0.size
      clear g2 k1
      by_cases h14 : q + 1 < 14
      · have i14 : (q : Int) + 1 < 14 := by omega
        simp only [if_pos h14] at k3
        obtain ⟨n, Hn⟩ : ∃ n, Hid (bl k f (q + 1) = n) := ⟨_, rfl⟩
        rw [Hn.out] at k3
        clear HN
        generalize tn (bl k f q) = t at *
        generalize mx t = m at *
        go_wp2_with (first | (refine wpList_sta rfl rfl _ _ rfl gb t rfl rfl _ (by exact a2') ?_) | (refine wpList_lda rfl _ rfl gb rfl _ (by exact a2) ?_))
        clear a2'
        generalize wa.setRow gb (av t) = wb at *
        refine (k2 _ (hc.keep b0 hgl)).mono ?_
        rintro e wc ⟨rfl, g2⟩
        have a1 := (a1.kept g2).orow (g' := gb) (by omega) (av m)
        have a2' := a2.kept g2
        have a2 := a2'.row (av m)
        have b0 := bel_row (bel_bel b0 S g2) (g := gb) (by omega) (av m)
        have S := b0.size
        clear g2 k2
        go_wp2_with (first | (refine wpList_sta rfl rfl _ _ rfl gb m rfl rfl _ (by exact a2') ?_) | (refine wpList_lda rfl _ rfl gb rfl _ (by exact a2) ?_))
        clear a2'
        generalize wc.setRow gb (av m) = wd at *
        refine (k3 _ (hc.keep b0 hgl)).mono ?_
        rintro e we ⟨rfl, g2⟩
        have a1 := (a1.kept g2).orow (g' := gb) (by omega) (av n)
        have a2' := a2.kept g2
        have a2 := a2'.row (av n)
        have b0 := bel_row (bel_bel b0 S g2) (g := gb) (by omega) (av n)
        clear g2 k3 S
        go_wp2_with (refine wpList_sta rfl rfl _ _ rfl gb n rfl rfl _ (by exact a2') ?_)
        go_roundw
        case rel => exact ⟨q + 1, by omega, by go_num, a1, by rw [Hn.out]; exact a2, b0⟩
        case measure => simp [intOf]; omega
      · have i14 : ¬ (q : Int) + 1 < 14 := by omega
        simp only [if_neg h14] at k3
        obtain ⟨n, Hn⟩ : ∃ n, Hid (bl k f (q + 1) = n) := ⟨_, rfl⟩
        rw [Hn.out] at k3
        clear HN
        generalize tn (bl k f q) = t at *
        go_wp2_with (first | (refine wpList_sta rfl rfl _ _ rfl gb t rfl rfl _ (by exact a2') ?_) | (refine wpList_lda rfl _ rfl gb rfl _ (by exact a2) ?_))
        clear a2'
        generalize wa.setRow gb (av t) = wb at *
        refine (k3 _ (hc.keep b0 hgl)).mono ?_
        rintro e we ⟨rfl, g2⟩
        have a1 := (a1.kept g2).orow (g' := gb) (by omega) (av n)
        have a2' := a2.kept g2
        have a2 := a2'.row (av n)
        have b0 := bel_row (bel_bel b0 S g2) (g := gb) (by omega) (av n)
        clear g2 k3 k2 S
        go_wp2_with (refine wpList_sta rfl rfl _ _ rfl gb n rfl rfl _ (by exact a2') ?_)
        go_roundw
        case rel => exact ⟨q + 1, by omega, by go_num, a1, by rw [Hn.out]; exact a2, b0⟩
        case measure => simp [intOf]; omega
    · obtain rfl : q = 14 := by omega
      go_wp2_with (first | (refine wpList_lda rfl _ rfl gb rfl _ (by exact a2) ?_) | (refine wpList_sta rfl rfl _ _ rfl (w.heap.size + 1) (bl k f 14) rfl rfl _ (by exact a1) ?_))
      refine bodyPost_ret (v := .agg (av (bl k f 14))) ?_ rfl ⟨rfl, bel_row b0 (by omega) _⟩
      exact results_av rfl _ _ (w.heap.size + 1) (bl k f 14) rfl (a1.row _)
end Go.Proofs.Ytgjamfnhkeoedaa
