import Derived.Test.YtcaecfdeieoenaaRJ
namespace Go.Proofs.Ytcaecfdeieoenaa
set_option maxRecDepth 100000
open Go.RowKit
set_option linter.unusedVariables false

/-- A step. -/
structure Sp8 where
  K : Int
  T : Int
  p : Wy
  F : Int
  H : Int
  L : Int
def Sp8.In (s : Sp8) : Prop := s.p.In ∧ InI s.F ∧ InU s.H ∧ InU s.L
/-- A list of steps that came in. -/
def IsS (w : World) (a : Option Addr) (n : Nat) (f : Nat → Sp8) : Prop :=
  n = 0 ∨ ∃ q off, a = some ⟨q, off, none⟩ ∧ ∀ i, i < n → (w.cell? ⟨q, off + i * 10, none⟩ = some (.int .i64 (f i).K) ∧ w.cell? ⟨q, off + i * 10 + 1, none⟩ = some (.int .i64 (f i).T) ∧ w.cell? ⟨q, off + i * 10 + 2, none⟩ = some (.int .i64 (f i).p.K) ∧ w.cell? ⟨q, off + i * 10 + 3, none⟩ = some (.int .i64 (f i).p.F) ∧ w.cell? ⟨q, off + i * 10 + 4, none⟩ = some (.int .u64 (f i).p.H) ∧ w.cell? ⟨q, off + i * 10 + 5, none⟩ = some (.int .u64 (f i).p.L) ∧ w.cell? ⟨q, off + i * 10 + 6, none⟩ = some (.int .i64 (f i).p.B) ∧ w.cell? ⟨q, off + i * 10 + 7, none⟩ = some (.int .i64 (f i).F) ∧ w.cell? ⟨q, off + i * 10 + 8, none⟩ = some (.int .u64 (f i).H) ∧ w.cell? ⟨q, off + i * 10 + 9, none⟩ = some (.int .u64 (f i).L)) ∧ (f i).In
/-- The world, the two rows, and a table and a list in them. -/
def SQ (k gt gr i : Nat) (vt vr x y : Value) (w0 w : World) : Prop := (w.cell? ⟨k, 0, none⟩ = some vt ∧ w.cell? ⟨k, 1, none⟩ = some vr ∧ w.cell? ⟨gt, i, none⟩ = some x ∧ w.cell? ⟨gr, i, none⟩ = some y) ∧ Below w0.heap.size w0 w
theorem SQ.kept {k gt gr i : Nat} {vt vr x y : Value} {w0 w w' : World} (h : SQ k gt gr i vt vr x y w0 w) (hb : Below w.heap.size w w') : SQ k gt gr i vt vr x y w0 w' := by
  obtain ⟨⟨a0, a1, a2, a3⟩, b⟩ := h
  exact ⟨⟨cell_be8 hb a0, cell_be8 hb a1, cell_be8 hb a2, cell_be8 hb a3⟩, bel_bel b b.size hb⟩
set_option maxHeartbeats 8000000 in
theorem routePlays_ {Tr : World → Value → List Wy → Prop} (R : Rte Tr) (hO : Ofw Tr) (a : Option Addr) (n c : Nat) (f : Nat → Sp8) (w : World) (hm : IsS w a n f) (hnc : n ≤ c ∧ c ≤ maxLen) :
    Calls Try.prog 3 #[.slice a n c] w fun e w' => e = .returned (.bool true) ∧ Below w.heap.size w w' := by
  have HM := hid hm
  obtain ⟨hn, hc⟩ := hnc
  unfold maxLen at hc
  clear hm
  go_enter Try.func3, Try.ntmps3
  go_wp2_with fail
  refine (first_ R _).mono ?_
  rintro e w1 ⟨rfl, B1⟩
  go_wp2_with fail
  refine (begin8_ R _).mono ?_
  rintro e w2 ⟨k, t0, r0, rfl, P2⟩
  have HP2 := hid P2
  clear P2
  go_wp2_with fail
  go_loopw [6] (fun i wr => ∃ (j : Nat) (E : List En), j ≤ n ∧ j ≤ 300 ∧ i = .int .i64 j ∧ Pl Tr w1 wr k E ∧ 0 < E.length ∧ E.length ≤ j + 1 ∧ Le E) (fun i _ => 300 - (intOf i).toNat)
  case atStart => exact ⟨0, _, by omega, by omega, rfl, HP2.out, by simp, by simp, fun e he => by rw [List.mem_singleton] at he; subst he; simp⟩
  case round =>
    clear HP2
    obtain ⟨j, E, hj, hj3, rfl, hP, hE0, hE1, hLe⟩ := hrel
    have HP := hid hP
    clear hP
    by_cases hlt : j < n ∧ j < 300
    · obtain ⟨l1, l2⟩ := hlt
      have hI1 : (j : Int) < (n : Int) := by omega
      have hI2 : (j : Int) < 300 := by omega
      obtain ⟨q, off, rfl, hq⟩ : ∃ q off, a = some ⟨q, off, none⟩ ∧ (w.cell? ⟨q, off + j * 10, none⟩ = some (.int .i64 (f j).K) ∧ w.cell? ⟨q, off + j * 10 + 1, none⟩ = some (.int .i64 (f j).T) ∧ w.cell? ⟨q, off + j * 10 + 2, none⟩ = some (.int .i64 (f j).p.K) ∧ w.cell? ⟨q, off + j * 10 + 3, none⟩ = some (.int .i64 (f j).p.F) ∧ w.cell? ⟨q, off + j * 10 + 4, none⟩ = some (.int .u64 (f j).p.H) ∧ w.cell? ⟨q, off + j * 10 + 5, none⟩ = some (.int .u64 (f j).p.L) ∧ w.cell? ⟨q, off + j * 10 + 6, none⟩ = some (.int .i64 (f j).p.B) ∧ w.cell? ⟨q, off + j * 10 + 7, none⟩ = some (.int .i64 (f j).F) ∧ w.cell? ⟨q, off + j * 10 + 8, none⟩ = some (.int .u64 (f j).H) ∧ w.cell? ⟨q, off + j * 10 + 9, none⟩ = some (.int .u64 (f j).L)) ∧ (f j).In := by
        rcases HM.out with h | ⟨q, off, e, h⟩
        · omega
        · exact ⟨q, off, e, h j l1⟩
      obtain ⟨⟨a0, a1, a2, a3, a4, a5, a6, a7, a8, a9⟩, i1, i2, i3, i4⟩ := hq
      have hk : ∀ {x : Addr} {u : Value}, w.cell? x = some u → wr.cell? x = some u := fun h => (HP.out.fr.cell (Nat.lt_of_lt_of_le (World.block_lt_of_cell? _ _ h) B1.size)).trans ((B1.cell (World.block_lt_of_cell? _ _ h)).trans h)
      replace a0 := hk a0
      replace a1 := hk a1
      replace a2 := hk a2
      replace a3 := hk a3
      replace a4 := hk a4
      replace a5 := hk a5
      replace a6 := hk a6
      replace a7 := hk a7
      replace a8 := hk a8
      replace a9 := hk a9
      clear hk
      have ks := step_ R hO k E (f j).K (f j).T (f j).p (f j).F (f j).H (f j).L w1 wr HP.out hE0 (by omega) hLe i1 i2 i3 i4
      generalize f j = s at *
      go_wp2_with fail
      refine ks.mono ?_
      rintro e w4 ⟨rfl, E', hP', hE2, hE3, hLe'⟩
      clear ks a0 a1 a2 a3 a4 a5 a6 a7 a8 a9
      go_wp2_with fail
      go_roundw
      case rel => exact ⟨j + 1, E', by omega, by omega, rfl, hP', by omega, by omega, hLe'⟩
      case measure => simp [intOf]; omega
    · obtain ⟨vt, vr, h1, h2, h3⟩ := HP.out.own
      obtain ⟨gt, ct, rfl, t1, t2, t3⟩ := own_slice h2 hE0
      obtain ⟨gr, cr, rfl, r1, r2, r3⟩ := own_slice h3 hE0
      have q0 : wr.cell? ⟨k, 0, none⟩ = some (Value.slice (some ⟨gt, 0, none⟩) E.length ct) := (cell_of_row _ _ 0 _ _ (0, 0) h1).trans rfl
      have q1 : wr.cell? ⟨k, 1, none⟩ = some (Value.slice (some ⟨gr, 0, none⟩) E.length cr) := (cell_of_row _ _ 1 _ _ (0, 0) h1).trans rfl
      have HQ : Hid (∀ i, i < E.length → ∃ x y l, Tr wr x l ∧ Rt wr y l ∧ l.length ≤ 99999 ∧ SQ k gt gr i (.slice (some ⟨gt, 0, none⟩) E.length ct) (.slice (some ⟨gr, 0, none⟩) E.length cr) x y wr wr) := fun i hi => by
        obtain ⟨x, y, l, hxy⟩ : ∃ x y l, E[i]? = some (x, y, l) := ⟨_, _, _, List.getElem?_eq_getElem hi⟩
        have hmem : (x, y, l) ∈ E := List.mem_of_getElem? hxy
        exact ⟨x, y, l, (HP.out.tr _ hmem).1, (HP.out.tr _ hmem).2, by have := hLe _ hmem; simp only at this; omega, ⟨q0, q1, t3 i x (by rw [List.getElem?_map, hxy]; rfl), r3 i y (by rw [List.getElem?_map, hxy]; rfl)⟩, Below.refl _ _⟩
      have BW : Below w.heap.size w wr := bel_bel B1 B1.size HP.out.fr
      unfold maxLen at t2 r2
      clear h1 h2 h3 t3 r3 HM
      clear HP
      generalize wr = wE at *
      rcases Nat.lt_or_ge j n with h | h
      · have hI1 : (j : Int) < (n : Int) := by omega
        have hI2 : ¬ (j : Int) < 300 := by omega
        go_wp2_with fail
        go_loopw [8] (fun i wx => ∃ s : Nat, s ≤ E.length ∧ i = .int .i64 s ∧ Below wE.heap.size wE wx) (fun i _ => E.length - (intOf i).toNat)
        case atStart => exact ⟨0, by omega, rfl, Below.refl _ _⟩
        case round =>
          obtain ⟨s, hs, rfl, hX⟩ := hrel
          have x0 := cell_be8 hX q0
          by_cases hst : s < E.length
          · have hsI : (s : Int) < (E.length : Int) := by omega
            obtain ⟨x, y, l, hT, hR, hl, hSQ⟩ := HQ.out s hst
            obtain ⟨xa, rfl⟩ := R.ptr hT
            obtain ⟨ky, rfl⟩ := rt_ptr hR
            have HT := hid hT
            have HR := hid hR
            have S0 : SQ k gt gr s (.slice (some ⟨gt, 0, none⟩) E.length ct) (.slice (some ⟨gr, 0, none⟩) E.length cr) (.pointer (some xa)) (.pointer (some ⟨ky, 0, none⟩)) wE wr := ⟨(hSQ.kept hX).1, hX⟩
            clear hT hR hSQ
            have ka : ∀ W, SQ k gt gr s (.slice (some ⟨gt, 0, none⟩) E.length ct) (.slice (some ⟨gr, 0, none⟩) E.length cr) (.pointer (some xa)) (.pointer (some ⟨ky, 0, none⟩)) wE W → Calls Try.prog 11 #[.pointer (some xa), .pointer (some ⟨ky, 0, none⟩)] W fun e w' => e = .returned (.bool true) ∧ Below W.heap.size W w' := fun W hW => all_ R _ _ l W (R.kept HT.out hW.2) (HR.out.kept hW.2) hl
            go_wp2_with fail
            refine wp_region_quiet (C := SQ k gt gr s (.slice (some ⟨gt, 0, none⟩) E.length ct) (.slice (some ⟨gr, 0, none⟩) E.length cr) (.pointer (some xa)) (.pointer (some ⟨ky, 0, none⟩)) wE) (by kernel_rfl) (by kernel_rfl) (S0.kept ⟨rfl, rfl, rfl, Nat.le_refl _, fun _ _ => rfl⟩) ?_
            repeat
              refine wpQuiet_step (fun K hK => ?_)
              go_simp
              first
                | (refine hK _ ?_; clear hK K)
                | (apply Exists.intro
                   refine ⟨fun wq hq => ?_, hK _ ?_⟩
                   · first
                     | rfl
                     | (go_at_call 11; exact (ka _ hq).mono fun _ _ h => ⟨h.1, hq.kept h.2⟩)
                     | (obtain ⟨⟨z0, z1, z2, z3⟩, _⟩ := hq; go_simp; rfl)
                   clear hK K)
            refine wpQuiet_nil ?_
            intro w7 s7
            go_wp2_with fail
            go_roundw
            case rel => exact ⟨s + 1, by omega, rfl, s7.2⟩
            case measure => simp [intOf]; omega
          · have hsI : ¬ (s : Int) < (E.length : Int) := by omega
            go_wp2_with fail
            go_ret
            exact ⟨rfl, bel_bel BW BW.size hX⟩
      · have hI1 : ¬ (j : Int) < (n : Int) := by omega
        go_wp2_with fail
        go_loopw [8] (fun i wx => ∃ s : Nat, s ≤ E.length ∧ i = .int .i64 s ∧ Below wE.heap.size wE wx) (fun i _ => E.length - (intOf i).toNat)
        case atStart => exact ⟨0, by omega, rfl, Below.refl _ _⟩
        case round =>
          obtain ⟨s, hs, rfl, hX⟩ := hrel
          have x0 := cell_be8 hX q0
          by_cases hst : s < E.length
          · have hsI : (s : Int) < (E.length : Int) := by omega
            obtain ⟨x, y, l, hT, hR, hl, hSQ⟩ := HQ.out s hst
            obtain ⟨xa, rfl⟩ := R.ptr hT
            obtain ⟨ky, rfl⟩ := rt_ptr hR
            have HT := hid hT
            have HR := hid hR
            have S0 : SQ k gt gr s (.slice (some ⟨gt, 0, none⟩) E.length ct) (.slice (some ⟨gr, 0, none⟩) E.length cr) (.pointer (some xa)) (.pointer (some ⟨ky, 0, none⟩)) wE wr := ⟨(hSQ.kept hX).1, hX⟩
            clear hT hR hSQ
            have ka : ∀ W, SQ k gt gr s (.slice (some ⟨gt, 0, none⟩) E.length ct) (.slice (some ⟨gr, 0, none⟩) E.length cr) (.pointer (some xa)) (.pointer (some ⟨ky, 0, none⟩)) wE W → Calls Try.prog 11 #[.pointer (some xa), .pointer (some ⟨ky, 0, none⟩)] W fun e w' => e = .returned (.bool true) ∧ Below W.heap.size W w' := fun W hW => all_ R _ _ l W (R.kept HT.out hW.2) (HR.out.kept hW.2) hl
            go_wp2_with fail
            refine wp_region_quiet (C := SQ k gt gr s (.slice (some ⟨gt, 0, none⟩) E.length ct) (.slice (some ⟨gr, 0, none⟩) E.length cr) (.pointer (some xa)) (.pointer (some ⟨ky, 0, none⟩)) wE) (by kernel_rfl) (by kernel_rfl) (S0.kept ⟨rfl, rfl, rfl, Nat.le_refl _, fun _ _ => rfl⟩) ?_
            repeat
              refine wpQuiet_step (fun K hK => ?_)
              go_simp
              first
                | (refine hK _ ?_; clear hK K)
                | (apply Exists.intro
                   refine ⟨fun wq hq => ?_, hK _ ?_⟩
                   · first
                     | rfl
                     | (go_at_call 11; exact (ka _ hq).mono fun _ _ h => ⟨h.1, hq.kept h.2⟩)
                     | (obtain ⟨⟨z0, z1, z2, z3⟩, _⟩ := hq; go_simp; rfl)
                   clear hK K)
            refine wpQuiet_nil ?_
            intro w7 s7
            go_wp2_with fail
            go_roundw
            case rel => exact ⟨s + 1, by omega, rfl, s7.2⟩
            case measure => simp [intOf]; omega
          · have hsI : ¬ (s : Int) < (E.length : Int) := by omega
            go_wp2_with fail
            go_ret
            exact ⟨rfl, bel_bel BW BW.size hX⟩
end Go.Proofs.Ytcaecfdeieoenaa
