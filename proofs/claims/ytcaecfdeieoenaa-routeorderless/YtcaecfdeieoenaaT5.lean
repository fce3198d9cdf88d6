import Derived.Test.YtcaecfdeieoenaaT4
namespace Go.Proofs.Ytcaecfdeieoenaa
open Go.RowKit
set_option linter.unusedVariables false

def SPP (g g' : Nat) (x y : Wy) (w0 w : World) : Prop := (w.cell? ⟨g, 0, none⟩ = some (.int .i64 x.F) ∧ w.cell? ⟨g, 1, none⟩ = some (.int .u64 x.H) ∧ w.cell? ⟨g, 2, none⟩ = some (.int .u64 x.L) ∧ w.cell? ⟨g, 3, none⟩ = some (.int .i64 x.B) ∧ w.cell? ⟨g', 0, none⟩ = some (.int .i64 y.F) ∧ w.cell? ⟨g', 1, none⟩ = some (.int .u64 y.H) ∧ w.cell? ⟨g', 2, none⟩ = some (.int .u64 y.L) ∧ w.cell? ⟨g', 3, none⟩ = some (.int .i64 y.B)) ∧ Pm w g x.F x.H x.L x.B ∧ Pm w g' y.F y.H y.L y.B ∧ Below w0.heap.size w0 w
theorem SPP.of {g g' : Nat} {x y : Wy} {w0 w : World} (h : Pm w g x.F x.H x.L x.B) (h' : Pm w g' y.F y.H y.L y.B) (hb : Below w0.heap.size w0 w) : SPP g g' x y w0 w := ⟨⟨h.c0, h.c1, h.c2, h.c3, h'.c0, h'.c1, h'.c2, h'.c3⟩, h, h', hb⟩
theorem SPP.kept {g g' : Nat} {x y : Wy} {w0 w w' : World} (h : SPP g g' x y w0 w) (hb : Below w.heap.size w w') : SPP g g' x y w0 w' := SPP.of (h.2.1.kept hb) (h.2.2.1.kept hb) (bel_bel h.2.2.2 h.2.2.2.size hb)
theorem SPP.drew {g g' : Nat} {x y : Wy} {w0 w : World} (h : SPP g g' x y w0 w) : SPP g g' x y w0 { w with drawn := w.drawn + 1 } := h.kept ⟨rfl, rfl, rfl, Nat.le_refl _, fun _ _ => rfl⟩
def SP3 (g g' g'' : Nat) (x y : Wy) (w0 w : World) : Prop := SPP g g' x y w0 w ∧ Pm w g'' 0 0 0 0
theorem SP3.kept {g g' g'' : Nat} {x y : Wy} {w0 w w' : World} (h : SP3 g g' g'' x y w0 w) (hb : Below w.heap.size w w') : SP3 g g' g'' x y w0 w' := ⟨h.1.kept hb, h.2.kept hb⟩
theorem SP3.drew {g g' g'' : Nat} {x y : Wy} {w0 w : World} (h : SP3 g g' g'' x y w0 w) : SP3 g g' g'' x y w0 { w with drawn := w.drawn + 1 } := h.kept ⟨rfl, rfl, rfl, Nat.le_refl _, fun _ _ => rfl⟩
set_option maxHeartbeats 4000000 in
theorem common_ (F : Int) (x p : Wy) (w : World) (hx : Nk F x) (hp : Nk F p) :
    Calls Try.prog 57 #[x.px, p.px] w fun e w' => e = .returned (cmn (nb F) x p).px ∧ Below w.heap.size w w' := by
  obtain ⟨B0, m0, m1⟩ := ppnew w x.F x.H x.L x.B p.F p.H p.L p.B
  have k1 := fun w => rwidth_ x.F w
  have hw := nb_va hx.va
  have hFx := hx.2.2.2
  rw [hFx, ← hw] at k1
  have k2 := fun w => unlike_ x.F x.H x.L p.F p.H p.L w hx.1.2.1 hx.1.2.2.1 hp.1.2.1 hp.1.2.2.1
  have hcb := cB_in hx hp
  have hn := nb_le F
  have hxb := hx.b
  have hpb := hp.b
  have hul := ul_le hx hp
  have HU : Hid (ul (ad x.H x.L) (ad p.H p.L) = ul x.A p.A) := rfl
  rw [HU.out] at k2
  have k3 := fun w => rclearLow_ x.H ((nb F : Int) - cB (nb F) x p - 64) w hx.1.2.1 (by omega)
  have k4 := fun w => rclearLow_ x.L ((nb F : Int) - cB (nb F) x p) w hx.1.2.2.1 (by omega)
  have HC : Hid ((cmn (nb F) x p).px = .agg #[.int .i64 x.F, .int .u64 (cl x.H ((nb F : Int) - cB (nb F) x p - 64).toNat), .int .u64 (cl x.L ((nb F : Int) - cB (nb F) x p).toNat), .int .i64 (cB (nb F) x p)]) := by
    show _ = _
    unfold Wy.px cmn
    simp only
    rw [show ((nb F : Int) - cB (nb F) x p - 64).toNat = nb F - (cB (nb F) x p).toNat - 64 from by omega, show ((nb F : Int) - cB (nb F) x p).toNat = nb F - (cB (nb F) x p).toNat from by omega]
  rw [HC.out]
  clear HC
  have hWb : (0 : Int) ≤ nb F ∧ (nb F : Int) ≤ 128 := by omega
  have hub : (0 : Int) ≤ ul x.A p.A ∧ (ul x.A p.A : Int) ≤ nb F := by omega
  have HM : Hid (cB (nb F) x p = min x.B (min p.B ((nb F : Int) - ul x.A p.A))) := rfl
  generalize cl x.H ((nb F : Int) - cB (nb F) x p - 64).toNat = X at *
  generalize cl x.L ((nb F : Int) - cB (nb F) x p).toNat = Y at *
  generalize cB (nb F) x p = n at *
  generalize (ul x.A p.A : Int) = u at *
  generalize (nb F : Int) = W at *
  have s0 : SP3 w.heap.size (w.heap.size + 1) (w.heap.size + 1 + 1) x p w (((w.alloc (.cells #[.int .i64 x.F, .int .u64 x.H, .int .u64 x.L, .int .i64 x.B] 32)).alloc (.cells #[.int .i64 p.F, .int .u64 p.H, .int .u64 p.L, .int .i64 p.B] 32)).alloc (.cells #[.int .i64 0, .int .u64 0, .int .u64 0, .int .i64 0] 32)) := by
    refine ⟨(SPP.of m0 m1 B0).kept ((Below.refl _ _).alloc (Nat.le_refl _) _), ?_⟩
    have := Pm.new ((w.alloc (.cells #[.int .i64 x.F, .int .u64 x.H, .int .u64 x.L, .int .i64 x.B] 32)).alloc (.cells #[.int .i64 p.F, .int .u64 p.H, .int .u64 p.L, .int .i64 p.B] 32)) 0 0 0 0
    simpa using this
  unfold Wy.px
  clear hx hp hw
  subst hFx
  go_enter Try.func57, Try.ntmps57
  have c0 := s0.1.1.1
  clear m0 m1 B0
  go_wp2_with (go_at_call 37; refine (k1 _).mono ?_; rintro e w1 ⟨rfl, rfl⟩)
  refine wp_region_quiet (C := SP3 w.heap.size (w.heap.size + 1) (w.heap.size + 1 + 1) x p w) (by kernel_rfl) (by kernel_rfl) s0.drew ?_
  repeat
    refine wpQuiet_step (fun K hK => ?_)
    go_simp
    first
      | (refine hK _ ?_; clear hK K)
      | (apply Exists.intro
         refine ⟨fun wq hq => ?_, hK _ ?_⟩
         · first
           | rfl
           | (go_at_call 74; exact (k2 _).mono fun _ _ h => ⟨h.1, hq.kept h.2⟩)
           | (obtain ⟨⟨⟨q0, q1, q2, q3, p0, p1, p2, p3⟩, _, _, _⟩, _⟩ := hq; go_simp; rfl)
         clear hK K)
  refine wpQuiet_nil ?_
  intro w1 s1
  have hwr : IntKind.i64.wrap (W - u) = W - u := by
    simp [IntKind.wrap, IntKind.bits, IntKind.signed]
    omega
  have hmn : (if IntKind.i64.wrap (W - u) < if p.B < x.B then p.B else x.B then IntKind.i64.wrap (W - u) else if p.B < x.B then p.B else x.B) = n := by
    rw [hwr, HM.out]
    split <;> split at * <;> omega
  simp only [hmn]
  clear hmn hwr HM s0 c0 k1 k2
  have hsz := s1.1.2.2.2.size
  have hlt := s1.2.lt
  obtain ⟨⟨⟨q0, q1, q2, q3, _, _, _, _⟩, m0, _, B0⟩, mr⟩ := s1
  obtain ⟨D, hD⟩ : ∃ D, W - n = D := ⟨_, rfl⟩
  rw [hD] at k3 k4
  have hDb : 0 ≤ D ∧ D ≤ 128 := by omega
  go_wp2_with fail
  refine (k3 _).mono ?_
  rintro e w2 ⟨rfl, rfl⟩
  have ma := Am.new w1 x.F x.H x.L
  replace B0 := B0.alloc hsz (.cells #[.int .i64 x.F, .int .u64 x.H, .int .u64 x.L] 30)
  replace mr := mr.alloc (.cells #[.int .i64 x.F, .int .u64 x.H, .int .u64 x.L] 30)
  clear q0 q1 q2 q3 m0
  generalize w1.alloc (.cells #[.int .i64 x.F, .int .u64 x.H, .int .u64 x.L] 30) = w2 at *
  have c1 := ma.c1
  have f1 := ma.fz 1
  have f2 := (ma.set1 X).fz 2
  have c2 := (ma.set1 X).c2
  go_wp2_with fail
  clear c1 c2
  refine (k4 _).mono ?_
  rintro e w3 ⟨rfl, rfl⟩
  replace ma := ma.set1 X
  have c2 := ma.c2
  replace mr := ((mr.other (g' := w1.heap.size) (by omega) 1 (.int .u64 X)).other (g' := w1.heap.size) (by omega) 2 (.int .u64 Y) : Pm _ (w.heap.size + 1 + 1) 0 0 0 0)
  have m2 := ma.set2 Y
  have d0 := m2.c0
  have d1 := m2.c1
  have d2 := m2.c2
  replace B0 := (B0.setCell (p := ⟨w1.heap.size, 1, none⟩) hsz (.int .u64 X)).setCell (p := ⟨w1.heap.size, 2, none⟩) hsz (.int .u64 Y)
  go_wp2_with (refine wpList_spx rfl rfl _ _ rfl (w.heap.size + 1 + 1) x.F X Y n rfl rfl _ _ _ _ mr ?_)
  refine bodyPost_ret (v := .agg #[.int .i64 x.F, .int .u64 X, .int .u64 Y, .int .i64 n]) ?_ rfl ⟨rfl, bel_row B0 (by omega) _⟩
  exact results_cell_row rfl _ _ (w.heap.size + 1 + 1) 32 _ (0, 0) _ rfl (mr.row _ _ _ _) Try.underlying32 rfl sizep
end Go.Proofs.Ytcaecfdeieoenaa
