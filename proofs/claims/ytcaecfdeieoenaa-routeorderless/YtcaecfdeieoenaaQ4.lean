import Derived.Test.YtcaecfdeieoenaaQ3
namespace Go.Proofs.Ytcaecfdeieoenaa
open Go.RowKit
set_option linter.unusedVariables false

def SPA (g g' : Nat) (F H L B F' H' L' : Int) (w0 w : World) : Prop := (w.cell? ⟨g, 0, none⟩ = some (.int .i64 F) ∧ w.cell? ⟨g, 1, none⟩ = some (.int .u64 H) ∧ w.cell? ⟨g, 2, none⟩ = some (.int .u64 L) ∧ w.cell? ⟨g, 3, none⟩ = some (.int .i64 B) ∧ w.cell? ⟨g', 0, none⟩ = some (.int .i64 F') ∧ w.cell? ⟨g', 1, none⟩ = some (.int .u64 H') ∧ w.cell? ⟨g', 2, none⟩ = some (.int .u64 L')) ∧ Pm w g F H L B ∧ Am w g' F' H' L' ∧ Below w0.heap.size w0 w
theorem SPA.of {g g' : Nat} {F H L B F' H' L' : Int} {w0 w : World} (h : Pm w g F H L B) (h' : Am w g' F' H' L') (hb : Below w0.heap.size w0 w) : SPA g g' F H L B F' H' L' w0 w := ⟨⟨h.c0, h.c1, h.c2, h.c3, h'.c0, h'.c1, h'.c2⟩, h, h', hb⟩
theorem SPA.kept {g g' : Nat} {F H L B F' H' L' : Int} {w0 w w' : World} (h : SPA g g' F H L B F' H' L' w0 w) (hb : Below w.heap.size w w') : SPA g g' F H L B F' H' L' w0 w' := SPA.of (h.2.1.kept hb) (h.2.2.1.kept hb) (bel_bel h.2.2.2 h.2.2.2.size hb)
theorem SPA.drew {g g' : Nat} {F H L B F' H' L' : Int} {w0 w : World} (h : SPA g g' F H L B F' H' L' w0 w) : SPA g g' F H L B F' H' L' w0 { w with drawn := w.drawn + 1 } := h.kept ⟨rfl, rfl, rfl, Nat.le_refl _, fun _ _ => rfl⟩
set_option maxHeartbeats 4000000 in
theorem holds_ (F H L B F' H' L' : Int) (w : World) (hF : InI F) (hH : InU H) (hL : InU L) (hB : InI B) (hF' : InI F') (hH' : InU H') (hL' : InU L') :
    Calls Try.prog 53 #[.agg #[.int .i64 F, .int .u64 H, .int .u64 L, .int .i64 B], .agg #[.int .i64 F', .int .u64 H', .int .u64 L']] w fun e w' => e = .returned (.bool (ho F H L B F' H' L')) ∧ Below w.heap.size w w' := by
  obtain ⟨B0, m0, m1⟩ := panew w F H L B F' H' L'
  have s0 := SPA.of m0 m1 B0
  clear B0 m0 m1
  have k1 := fun w => valid_ F H L B w hF hH hL hB
  have k2 := fun w => validAddr_ F' H' L' w hF' hH' hL'
  cases hv : vp F H L B with
  | false =>
    have HE := hid (ho_bad (F := F) (H := H) (L := L) (B := B) (F' := F') (H' := H') (L' := L') (.inl hv))
    rw [hv] at k1
    clear hv
    go_enter Try.func53, Try.ntmps53
    go_wp2_with fail
    refine wp_region_quiet (C := SPA w.heap.size (w.heap.size + 1) F H L B F' H' L' w) (by kernel_rfl) (by kernel_rfl) s0.drew ?_
    repeat
      refine wpQuiet_step (fun K hK => ?_)
      go_simp
      first
        | (refine hK _ ?_; clear hK K)
        | (apply Exists.intro
           refine ⟨fun wq hq => ?_, hK _ ?_⟩
           · first
             | rfl
             | (go_at_call 40; exact (k1 _).mono fun _ _ h => ⟨h.1, hq.kept h.2⟩)
             | (obtain ⟨⟨q0, q1, q2, q3, p0, p1, p2⟩, _, _, _⟩ := hq; go_simp; rfl)
           clear hK K)
    refine wpQuiet_nil ?_
    intro w1 s1
    go_wp2_with fail
    go_ret
    exact ⟨ret_bool HE.out.symm, s1.2.2.2⟩
  | true =>
    cases hv' : va F' H' L' with
    | false =>
      have HE := hid (ho_bad (F := F) (H := H) (L := L) (B := B) (F' := F') (H' := H') (L' := L') (.inr (.inl hv')))
      rw [hv] at k1
      rw [hv'] at k2
      clear hv hv'
      go_enter Try.func53, Try.ntmps53
      go_wp2_with fail
      refine wp_region_quiet (C := SPA w.heap.size (w.heap.size + 1) F H L B F' H' L' w) (by kernel_rfl) (by kernel_rfl) s0.drew ?_
      repeat
        refine wpQuiet_step (fun K hK => ?_)
        go_simp
        first
          | (refine hK _ ?_; clear hK K)
          | (apply Exists.intro
             refine ⟨fun wq hq => ?_, hK _ ?_⟩
             · first
               | rfl
               | (go_at_call 40; exact (k1 _).mono fun _ _ h => ⟨h.1, hq.kept h.2⟩)
               | (go_at_call 35; exact (k2 _).mono fun _ _ h => ⟨h.1, hq.kept h.2⟩)
               | (obtain ⟨⟨q0, q1, q2, q3, p0, p1, p2⟩, _, _, _⟩ := hq; go_simp; rfl)
             clear hK K)
      refine wpQuiet_nil ?_
      intro w1 s1
      go_wp2_with fail
      go_ret
      exact ⟨ret_bool HE.out.symm, s1.2.2.2⟩
    | true =>
      have HE := hid (ho_begin hv hv' hH hL hH' hL')
      obtain ⟨_, b0, b1, _⟩ := vp_in hv
      have hn := nb_le F
      have k3 := fun w => begin_ F' H' L' B w hF' hH' hL' (by omega)
      have he := fun w => eqp F' (bH F' H' B) (bL F' L' B) B F H L B w
      have HS : Hid (spx F' (bH F' H' B) (bL F' L' B) B F H L B = decide (F' = F ∧ bH F' H' B = H ∧ bL F' L' B = L)) := by
        show _ = _
        unfold spx
        exact decide_eq_decide.2 ⟨fun h => h.1, fun h => ⟨h, rfl⟩⟩
      generalize bH F' H' B = X at *
      generalize bL F' L' B = Y at *
      rw [hv] at k1
      rw [hv'] at k2
      clear hv hv' b0 b1 hn
      go_enter Try.func53, Try.ntmps53
      go_wp2_with fail
      refine wp_region_quiet (C := SPA w.heap.size (w.heap.size + 1) F H L B F' H' L' w) (by kernel_rfl) (by kernel_rfl) s0.drew ?_
      repeat
        refine wpQuiet_step (fun K hK => ?_)
        go_simp
        first
          | (refine hK _ ?_; clear hK K)
          | (apply Exists.intro
             refine ⟨fun wq hq => ?_, hK _ ?_⟩
             · first
               | rfl
               | (go_at_call 40; exact (k1 _).mono fun _ _ h => ⟨h.1, hq.kept h.2⟩)
               | (go_at_call 35; exact (k2 _).mono fun _ _ h => ⟨h.1, hq.kept h.2⟩)
               | (go_at_call 56; exact (k3 _).mono fun _ _ h => ⟨h.1, hq.kept h.2⟩)
               | (obtain ⟨⟨q0, q1, q2, q3, p0, p1, p2⟩, _, _, _⟩ := hq; go_simp; rfl)
             clear hK K)
      refine wpQuiet_nil ?_
      intro w1 s1
      go_wp2_with fail
      go_ret
      exact ⟨ret_bool (HS.out.trans HE.out.symm), s1.2.2.2⟩
end Go.Proofs.Ytcaecfdeieoenaa
