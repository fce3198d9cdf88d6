import Derived.Test.YtblcpdffiafgnaaGreatDoorYH
import Derived.Test.YtblcpdffiafgnaaGreatDoorXP
namespace Go.Proofs.YtblcpdffiafgnaaGreatDoor
set_option linter.unusedSimpArgs false
set_option maxRecDepth 100000
open Go.RowKit Go.Shelf
set_option linter.unusedVariables false
set_option linter.unusedSimpArgs false

/-! How many reads an Open does, to the place: every place behind the checkpoint is read once at most. -/
theorem tx_c (N e q : Nat) : ∀ (f p k : Nat) (tx : List Int) (full : Bool) (s : St), ((txP N e q f p k tx full).run s).2.c ≤ s.c + f ∧ ∀ tx' p', ((txP N e q f p k tx full).run s).1 = .ok (some (tx', p')) → ((txP N e q f p k tx full).run s).2.c + p ≤ s.c + p' ∧ p' ≤ p + f
  | 0, p, k, tx, full, s => ⟨Nat.le_refl _, fun tx' p' h => by cases h⟩
  | f + 1, p, k, tx, full, s => by
    have o1 := opS_c s
    rw [txP_rd]
    by_cases hE : opE s = 0
    · rw [if_pos hE]
      cases rgt (layA s.S s.P (sct N e p)) e q p with
      | none => exact ⟨by show (opS s).c ≤ _; omega, fun tx' p' h => by cases h⟩
      | some y =>
        obtain ⟨T, l⟩ := y
        simp only
        by_cases h4 : T = t4
        · rw [if_pos h4]
          refine ⟨by show (opS s).c ≤ _; omega, fun tx' p' h => ?_⟩
          simp only [Except.ok.injEq] at h
          split at h
          · simp only [Option.some.injEq, Prod.mk.injEq] at h
            obtain ⟨_, rfl⟩ := h
            exact ⟨by show (opS s).c + p ≤ _; omega, by omega⟩
          · cases h
        · rw [if_neg h4]
          by_cases h3 : T = t3
          · rw [if_pos h3]
            refine ⟨by show (opS s).c ≤ _; omega, fun tx' p' h => ?_⟩
            simp only [Except.ok.injEq] at h
            split at h
            · simp only [Option.some.injEq, Prod.mk.injEq] at h
              obtain ⟨_, rfl⟩ := h
              exact ⟨by show (opS s).c + p ≤ _; omega, by omega⟩
            · cases h
          · rw [if_neg h3]
            by_cases h2 : T = t2
            · rw [if_pos h2]
              split
              · exact ⟨by show (opS s).c ≤ _; omega, fun tx' p' h => by cases h⟩
              · obtain ⟨i1, i2⟩ := tx_c N e q f (p + 1) (k + 1) (tx ++ l) (l.length == 480) (opS s)
                refine ⟨by omega, fun tx' p' h => ?_⟩
                obtain ⟨j1, j2⟩ := i2 tx' p' h
                omega
            · rw [if_neg h2]
              exact ⟨by show (opS s).c ≤ _; omega, fun tx' p' h => by cases h⟩
    · rw [if_neg hE]
      exact ⟨by show (opS s).c ≤ _; omega, fun tx' p' h => by cases h⟩
theorem lg_c (N e : Nat) : ∀ (f q p : Nat) (s : St), p ≤ roo N → ((lgP N e f q p).run s).2.c ≤ s.c + (roo N - p)
  | 0, q, p, s, _ => by show s.c ≤ _; omega
  | f + 1, q, p, s, hp => by
    by_cases hq : 4611686018427387904 < q
    · rw [lgP_end _ _ _ _ _ hq]
      show s.c ≤ _
      omega
    · rw [lgP_rd _ _ _ _ _ (by omega)]
      obtain ⟨i1, i2⟩ := tx_c N e q (roo N - p) p 0 [] true s
      generalize (txP N e q (roo N - p) p 0 [] true).run s = r at *
      obtain ⟨r1, s'⟩ := r
      cases r1 with
      | error E => exact i1
      | ok o =>
        cases o with
        | none => exact i1
        | some y =>
          obtain ⟨tx, p'⟩ := y
          obtain ⟨j1, j2⟩ := i2 tx p' rfl
          have ih := lg_c N e f (q + 1) p' s' (by omega)
          simp only at ih i1 j1 ⊢
          generalize (lgP N e f (q + 1) p').run s' = r2 at *
          obtain ⟨r2, s''⟩ := r2
          cases r2 with
          | error E => simp only at ih ⊢; omega
          | ok x => simp only at ih ⊢; omega
/-- An Open reads both superblocks, a checkpoint of each at most, and the places behind it. -/
theorem on_c (N : Nat) (s : St) : ((onP N).run s).2.c ≤ s.c + (3 * roo N + 2) := by
  rw [onP_run]
  have h1 := lim_fn N s
  generalize hr : (fnP N).run s = r at *
  obtain ⟨r1, s'⟩ := r
  cases r1 with
  | error E => simp only at h1 ⊢; omega
  | ok o =>
    cases o with
    | none => simp only at h1 ⊢; omega
    | some y =>
      obtain ⟨x, st⟩ := y
      have key : ∀ (f q p : Nat), ((lgP N x.e f q p).run s').2.c ≤ s'.c + roo N := fun f q p => by
        by_cases hp : p ≤ roo N
        · have := lg_c N x.e f q p s' hp
          omega
        · cases f with
          | zero => show s'.c ≤ _; omega
          | succ f =>
            by_cases hq : 4611686018427387904 < q
            · rw [lgP_end _ _ _ _ _ hq]; show s'.c ≤ _; omega
            · rw [lgP_rd _ _ _ _ _ (by omega), show roo N - p = 0 from by omega]
              show s'.c ≤ _
              omega
      have h2 := key (roo N + 1) x.s x.K
      simp only at h1 ⊢
      generalize (lgP N x.e (roo N + 1) x.s x.K).run s' = r2 at *
      obtain ⟨r2, s''⟩ := r2
      cases r2 with
      | error E => simp only at h2 ⊢; omega
      | ok z => simp only at h2 ⊢; omega
end Go.Proofs.YtblcpdffiafgnaaGreatDoor
namespace Go.Proofs.YtblcpdffiafgnaaGreatDoor
set_option linter.unusedSimpArgs false
set_option maxRecDepth 100000
open Go.RowKit Go.Shelf
set_option linter.unusedVariables false
set_option linter.unusedSimpArgs false

/-! As YE's Ok12, for a device of any size. -/
theorem fm_goN (N : Nat) : ∀ (f i : Nat) (s : St), s.n = N → s.S = (fun _ => zer) → s.P = [] → Calm s → s.k = 0 → ∃ s' : St, fmA f i s = wfl s' [(1, ps ⟨t1, 1, 1, 1, sup N []⟩)] ∧ s'.n = N ∧ s'.S = (fun _ => zer) ∧ s'.P = [] ∧ Calm s' ∧ s'.k = 0 ∧ s'.c ≤ s.c + f
  | 0, i, s, h1, h2, h3, h4, h5 => ⟨s, by unfold fmA; rw [h1], h1, h2, h3, h4, h5, by omega⟩
  | f + 1, i, s, h1, h2, h3, h4, h5 => by
    obtain ⟨s', a0, a1, a2, a3, a4, a5, a6⟩ := fm_goN N f (i + 1) (opS s) ((opS_n s).trans h1) ((opS_S' s).trans h2) ((opS_P' s).trans h3) h4.S ((opS_k s).trans h5)
    have o1 := opS_c s
    refine ⟨s', ?_, a1, a2, a3, a4, a5, by omega⟩
    rw [← a0]
    conv => lhs; unfold fmA
    rw [if_pos h4.E, if_pos (by rw [h2, h3]; rfl)]
theorem okN_format (N : Nat) (h32 : 32 ≤ N) (h8 : N ≤ 8192) : (fmA N 0 (st0 N)).1 = 0 ∧ (fmA N 0 (st0 N)).2.n = N ∧ (fmA N 0 (st0 N)).2.P = [] ∧ Calm (fmA N 0 (st0 N)).2 ∧ (fmA N 0 (st0 N)).2.k = 0 ∧ (fmA N 0 (st0 N)).2.c ≤ N + 2 ∧ Qt (dv (fmA N 0 (st0 N)).2.S) N 1 1 [] [] := by
  obtain ⟨s', a0, a1, a2, a3, a4, a5, a6⟩ := fm_goN N N 0 (st0 N) rfl rfl rfl ⟨rfl, fun _ => rfl⟩ rfl
  rw [a0]
  obtain ⟨h1, h2⟩ := calm_wfl a4 [(1, ps ⟨t1, 1, 1, 1, sup N []⟩)]
  obtain ⟨b1, b2, b3, b4⟩ := wfl_n s' [(1, ps ⟨t1, 1, 1, 1, sup N []⟩)]
  obtain ⟨c1, c2⟩ := (wfl_is s' [(1, ps ⟨t1, 1, 1, 1, sup N []⟩)] a3).1 h1
  have hc0 : (st0 N).c = 0 := rfl
  refine ⟨h1, b1.trans a1, c2, h2, b2.trans a5, by simp only [List.length_singleton] at b3; omega, ?_⟩
  rw [c1]
  show Qt (dv (lay1 s'.S (1, ps ⟨t1, 1, 1, 1, sup N []⟩))) N 1 1 [] []
  have hm : May ⟨t1, 1, 1, 1, sup N []⟩ := may2 (e := 1) (n := 1) (p := 1) ⟨by omega, by omega⟩ ⟨by omega, by omega⟩ (by omega) (by rw [sup_length]; omega) (.inl rfl)
  rw [dv_lay1 _ _ hm (sup_by _ _)]
  exact Qt.first (fun i => by unfold dv; rw [a2]; exact gs_zer) h32 h8
/-- A town in memory. -/
def Tn (w : World) (t d : Nat) (l : Value) (safe : Bool) (s1 x1 : Value) (op : Bool) (s2 x2 s3 x3 : Value) : Prop := w.heap[t]? = some (.cells #[.pointer (some ⟨d, 0, none⟩), l, .bool safe, s1, x1, .bool op, s2, x2, s3, x3] 41 (0, 0))
/-- So many sectors has a town's device. -/
def tnN (n : Int) : Nat := if n < 32 ∨ 100 < n then 32 else n.toNat
theorem tnN_bd (n : Int) : 32 ≤ tnN n ∧ tnN n ≤ 100 := by
  unfold tnN
  split <;> omega
set_option maxHeartbeats 4000000 in
theorem begin_ (n : Int) (w : World) (hT : Tab w) : Calls Tryz.prog 9 #[.int .i64 n] w fun en w' => ∃ t d Q, en = .returned (.pointer (some ⟨t, 0, none⟩)) ∧ Tn w' t d (.pointer none) false (.slice none 0 0) (.slice none 0 0) false (.slice none 0 0) (.slice none 0 0) (.slice none 0 0) (.slice none 0 0) ∧ Dev w' d (fmA (tnN n) 0 (st0 (tnN n))).2 Q ∧ (∀ b, Q b → w.heap.size ≤ b) ∧ ¬ Q t ∧ Tab w' ∧ w.heap.size ≤ t ∧ Below w.heap.size w w' := by
  obtain ⟨hb1, hb2⟩ := tnN_bd n
  obtain ⟨N, HN⟩ : ∃ N, Hid (tnN n = N) := ⟨_, rfl⟩
  rw [HN.out] at hb1 hb2 ⊢
  have kn := new_ N w hb1 (by omega)
  have hf := (okN_format N hb1 (by omega)).1
  have HT := hid hT
  have h0 : 0 < w.heap.size := hT.1
  clear hT
  have main : ∀ (K : Prop), True := fun _ => trivial
  clear main
  go_enter Tryz.func9, Tryz.ntmps9
  by_cases hn : n < 32 ∨ 100 < n
  · obtain rfl : N = 32 := by rw [← HN.out]; unfold tnN; rw [if_pos hn]
    by_cases h1 : n < 32
    · go_wp2_with fail
      refine kn.mono ?_
      rintro en w1 ⟨d, rfl, D1, B1⟩
      simp only
      have s1 := B1.size
      have BA : Below w1.heap.size w1 (w1.alloc (.cells #[.pointer (some ⟨d, 0, none⟩), .pointer none, .bool false, .slice none 0 0, .slice none 0 0, .bool false, .slice none 0 0, .slice none 0 0, .slice none 0 0, .slice none 0 0] 41)) := (Below.refl _ _).alloc (Nat.le_refl _) _
      have tn0 : Tn (w1.alloc (.cells #[.pointer (some ⟨d, 0, none⟩), .pointer none, .bool false, .slice none 0 0, .slice none 0 0, .bool false, .slice none 0 0, .slice none 0 0, .slice none 0 0, .slice none 0 0] 41)) w1.heap.size d (.pointer none) false (.slice none 0 0) (.slice none 0 0) false (.slice none 0 0) (.slice none 0 0) (.slice none 0 0) (.slice none 0 0) := heap_alloc_new w1 _
      have kf := format_ d (st0 32) _ _ (D1.below BA) ((HT.out.bel B1).bel BA) (fun q => by omega) (by show 0 ≤ _; omega) (by show 0 ≤ _; omega)
      rw [show (st0 32).n = 32 from rfl, hf] at kf
      have c0 : (w1.alloc (.cells #[.pointer (some ⟨d, 0, none⟩), .pointer none, .bool false, .slice none 0 0, .slice none 0 0, .bool false, .slice none 0 0, .slice none 0 0, .slice none 0 0, .slice none 0 0] 41)).cell? ⟨w1.heap.size, 0, none⟩ = some (.pointer (some ⟨d, 0, none⟩)) := (cell_of_row _ _ 0 _ _ (0, 0) tn0).trans rfl
      have HTN := hid tn0
      have HB1 := hid B1
      have HBA := hid BA
      clear kn D1 B1 BA tn0
      go_wp2_with fail
      obtain ⟨W2, HW2⟩ : ∃ W2, Hid (w1.alloc (.cells #[.pointer (some ⟨d, 0, none⟩), .pointer none, .bool false, .slice none 0 0, .slice none 0 0, .bool false, .slice none 0 0, .slice none 0 0, .slice none 0 0, .slice none 0 0] 41) = W2) := ⟨_, rfl⟩
      have szA : w1.heap.size < W2.heap.size := by rw [← HW2.out, World.size_alloc]; omega
      rw [HW2.out] at kf HTN HBA ⊢
      refine kf.mono ?_
      rintro en w3 ⟨rfl, D3, F3⟩
      simp only
      have nqt : ¬ Qn (fun b => w.heap.size ≤ b ∧ b < w1.heap.size) W2 w3 w1.heap.size := fun q => by rcases q with q | q <;> omega
      have tn3 := (F3.same w1.heap.size szA (fun q => by omega)).trans HTN.out
      have T3 : Tab w3 := ((HT.out.bel HB1.out).bel HBA.out).fr F3 (fun q => by omega)
      have BW2 : Below w.heap.size w W2 := bel_bel HB1.out s1 HBA.out
      have BW3 := hid (BW2.trans (F3.under BW2.size (fun b q => q.1)))
      have HD3 := hid D3
      have HT3 := hid T3
      have HTN3 := hid tn3
      have HNQ := hid nqt
      clear kf D3 F3 tn3 T3 BW2 nqt c0
      go_wp2_with (go_at_call 21; refine (num12 _ _).mono ?_; rintro e w' ⟨rfl, hw⟩; obtain rfl := hw.symm; clear hw)
      go_ret
      exact ⟨w1.heap.size, d, _, rfl, HTN3.out, HD3.out, fun b q => by rcases q with q | q <;> omega, HNQ.out, HT3.out, s1, BW3.out⟩
    · have h2 : 100 < n := hn.resolve_left h1
      go_wp2_with fail
      refine kn.mono ?_
      rintro en w1 ⟨d, rfl, D1, B1⟩
      simp only
      have s1 := B1.size
      have BA : Below w1.heap.size w1 (w1.alloc (.cells #[.pointer (some ⟨d, 0, none⟩), .pointer none, .bool false, .slice none 0 0, .slice none 0 0, .bool false, .slice none 0 0, .slice none 0 0, .slice none 0 0, .slice none 0 0] 41)) := (Below.refl _ _).alloc (Nat.le_refl _) _
      have tn0 : Tn (w1.alloc (.cells #[.pointer (some ⟨d, 0, none⟩), .pointer none, .bool false, .slice none 0 0, .slice none 0 0, .bool false, .slice none 0 0, .slice none 0 0, .slice none 0 0, .slice none 0 0] 41)) w1.heap.size d (.pointer none) false (.slice none 0 0) (.slice none 0 0) false (.slice none 0 0) (.slice none 0 0) (.slice none 0 0) (.slice none 0 0) := heap_alloc_new w1 _
      have kf := format_ d (st0 32) _ _ (D1.below BA) ((HT.out.bel B1).bel BA) (fun q => by omega) (by show 0 ≤ _; omega) (by show 0 ≤ _; omega)
      rw [show (st0 32).n = 32 from rfl, hf] at kf
      have c0 : (w1.alloc (.cells #[.pointer (some ⟨d, 0, none⟩), .pointer none, .bool false, .slice none 0 0, .slice none 0 0, .bool false, .slice none 0 0, .slice none 0 0, .slice none 0 0, .slice none 0 0] 41)).cell? ⟨w1.heap.size, 0, none⟩ = some (.pointer (some ⟨d, 0, none⟩)) := (cell_of_row _ _ 0 _ _ (0, 0) tn0).trans rfl
      have HTN := hid tn0
      have HB1 := hid B1
      have HBA := hid BA
      clear kn D1 B1 BA tn0
      go_wp2_with fail
      obtain ⟨W2, HW2⟩ : ∃ W2, Hid (w1.alloc (.cells #[.pointer (some ⟨d, 0, none⟩), .pointer none, .bool false, .slice none 0 0, .slice none 0 0, .bool false, .slice none 0 0, .slice none 0 0, .slice none 0 0, .slice none 0 0] 41) = W2) := ⟨_, rfl⟩
      have szA : w1.heap.size < W2.heap.size := by rw [← HW2.out, World.size_alloc]; omega
      rw [HW2.out] at kf HTN HBA ⊢
      refine kf.mono ?_
      rintro en w3 ⟨rfl, D3, F3⟩
      simp only
      have nqt : ¬ Qn (fun b => w.heap.size ≤ b ∧ b < w1.heap.size) W2 w3 w1.heap.size := fun q => by rcases q with q | q <;> omega
      have tn3 := (F3.same w1.heap.size szA (fun q => by omega)).trans HTN.out
      have T3 : Tab w3 := ((HT.out.bel HB1.out).bel HBA.out).fr F3 (fun q => by omega)
      have BW2 : Below w.heap.size w W2 := bel_bel HB1.out s1 HBA.out
      have BW3 := hid (BW2.trans (F3.under BW2.size (fun b q => q.1)))
      have HD3 := hid D3
      have HT3 := hid T3
      have HTN3 := hid tn3
      have HNQ := hid nqt
      clear kf D3 F3 tn3 T3 BW2 nqt c0
      go_wp2_with (go_at_call 21; refine (num12 _ _).mono ?_; rintro e w' ⟨rfl, hw⟩; obtain rfl := hw.symm; clear hw)
      go_ret
      exact ⟨w1.heap.size, d, _, rfl, HTN3.out, HD3.out, fun b q => by rcases q with q | q <;> omega, HNQ.out, HT3.out, s1, BW3.out⟩
  · have hnN : n = (N : Int) := by rw [← HN.out]; unfold tnN; rw [if_neg hn]; omega
    subst hnN
    have h1 : ¬ (N : Int) < 32 := by omega
    have h2 : ¬ (100 : Int) < (N : Int) := by omega
    go_wp2_with fail
    refine kn.mono ?_
    rintro en w1 ⟨d, rfl, D1, B1⟩
    simp only
    have s1 := B1.size
    have BA : Below w1.heap.size w1 (w1.alloc (.cells #[.pointer (some ⟨d, 0, none⟩), .pointer none, .bool false, .slice none 0 0, .slice none 0 0, .bool false, .slice none 0 0, .slice none 0 0, .slice none 0 0, .slice none 0 0] 41)) := (Below.refl _ _).alloc (Nat.le_refl _) _
    have tn0 : Tn (w1.alloc (.cells #[.pointer (some ⟨d, 0, none⟩), .pointer none, .bool false, .slice none 0 0, .slice none 0 0, .bool false, .slice none 0 0, .slice none 0 0, .slice none 0 0, .slice none 0 0] 41)) w1.heap.size d (.pointer none) false (.slice none 0 0) (.slice none 0 0) false (.slice none 0 0) (.slice none 0 0) (.slice none 0 0) (.slice none 0 0) := heap_alloc_new w1 _
    have kf := format_ d (st0 N) _ _ (D1.below BA) ((HT.out.bel B1).bel BA) (fun q => by omega) (by show 0 ≤ _; omega) (by show 0 ≤ _; omega)
    rw [show (st0 N).n = N from rfl, hf] at kf
    have c0 : (w1.alloc (.cells #[.pointer (some ⟨d, 0, none⟩), .pointer none, .bool false, .slice none 0 0, .slice none 0 0, .bool false, .slice none 0 0, .slice none 0 0, .slice none 0 0, .slice none 0 0] 41)).cell? ⟨w1.heap.size, 0, none⟩ = some (.pointer (some ⟨d, 0, none⟩)) := (cell_of_row _ _ 0 _ _ (0, 0) tn0).trans rfl
    have HTN := hid tn0
    have HB1 := hid B1
    have HBA := hid BA
    clear kn D1 B1 BA tn0
    go_wp2_with fail
    obtain ⟨W2, HW2⟩ : ∃ W2, Hid (w1.alloc (.cells #[.pointer (some ⟨d, 0, none⟩), .pointer none, .bool false, .slice none 0 0, .slice none 0 0, .bool false, .slice none 0 0, .slice none 0 0, .slice none 0 0, .slice none 0 0] 41) = W2) := ⟨_, rfl⟩
    have szA : w1.heap.size < W2.heap.size := by rw [← HW2.out, World.size_alloc]; omega
    rw [HW2.out] at kf HTN HBA ⊢
    refine kf.mono ?_
    rintro en w3 ⟨rfl, D3, F3⟩
    simp only
    have nqt : ¬ Qn (fun b => w.heap.size ≤ b ∧ b < w1.heap.size) W2 w3 w1.heap.size := fun q => by rcases q with q | q <;> omega
    have tn3 := (F3.same w1.heap.size szA (fun q => by omega)).trans HTN.out
    have T3 : Tab w3 := ((HT.out.bel HB1.out).bel HBA.out).fr F3 (fun q => by omega)
    have BW2 : Below w.heap.size w W2 := bel_bel HB1.out s1 HBA.out
    have BW3 := hid (BW2.trans (F3.under BW2.size (fun b q => q.1)))
    have HD3 := hid D3
    have HT3 := hid T3
    have HTN3 := hid tn3
    have HNQ := hid nqt
    clear kf D3 F3 tn3 T3 BW2 nqt c0
    go_wp2_with (go_at_call 21; refine (num12 _ _).mono ?_; rintro e w' ⟨rfl, hw⟩; obtain rfl := hw.symm; clear hw)
    go_ret
    exact ⟨w1.heap.size, d, _, rfl, HTN3.out, HD3.out, fun b q => by rcases q with q | q <;> omega, HNQ.out, HT3.out, s1, BW3.out⟩
end Go.Proofs.YtblcpdffiafgnaaGreatDoor
namespace Go.Proofs.YtblcpdffiafgnaaGreatDoor
set_option linter.unusedSimpArgs false
set_option maxRecDepth 100000
open Go.RowKit Go.Shelf
set_option linter.unusedVariables false
set_option linter.unusedSimpArgs false

/-! A town without its memory. -/
abbrev Ac := List Int × List (List Int)
structure Tp where
  s : St
  lg : Option (Nat × Nat × Nat)
  safe : Bool
  A : Ac
  op : Bool
  M : Ac
  T : Ac
/-- On this device a log stands with that account; its numbers are at most n. -/
def Qa (N n : Nat) (D : Dcd) (a : Ac) : Prop := ∃ e q, Qt D N e q a.1 a.2 ∧ e ≤ n ∧ 1 ≤ q ∧ q + a.2.length ≤ n
/-- The newest log's numbers are those of the account. -/
def Qn3 (N n : Nat) (D : Dcd) (a : Ac) (ep nx pl : Nat) : Prop := ∃ q, Qt D N ep q a.1 a.2 ∧ ep ≤ n ∧ 1 ≤ q ∧ nx = q + a.2.length ∧ nx ≤ n ∧ pl = ends a.2 (pcN a.1.length)
theorem Qa.up {N n m : Nat} {D : Dcd} {a : Ac} (h : Qa N n D a) (hm : n ≤ m) : Qa N m D a := by
  obtain ⟨e, q, h1, h2, h3, h4⟩ := h
  exact ⟨e, q, h1, by omega, h3, by omega⟩
theorem Qn3.up {N n m : Nat} {D : Dcd} {a : Ac} {ep nx pl : Nat} (h : Qn3 N n D a ep nx pl) (hm : n ≤ m) : Qn3 N m D a ep nx pl := by
  obtain ⟨q, h1, h2, h3, h4, h5, h6⟩ := h
  exact ⟨q, h1, by omega, h3, h4, by omega, h6⟩
theorem Qn3.qa {N n : Nat} {D : Dcd} {a : Ac} {ep nx pl : Nat} (h : Qn3 N n D a ep nx pl) : Qa N n D a := by
  obtain ⟨q, h1, h2, h3, h4, h5, h6⟩ := h
  exact ⟨ep, q, h1, h2, h3, by omega⟩
structure Tv (T : Tp) (n : Nat) : Prop where
  n1 : 32 ≤ T.s.n
  n2 : T.s.n ≤ 100
  k : T.s.k ≤ n
  c : T.s.c ≤ 200 * n
  P : T.s.P.length ≤ 100 * n
  len : T.A.2.length ≤ n
  fu : Fu T.s.S T.s.P (fun D => Qa T.s.n n D T.A ∨ (T.op = true ∧ Qa T.s.n n D T.M))
  hs : T.safe = true → ∀ ep nx pl, T.lg = some (ep, nx, pl) → T.s.P = [] ∧ Qn3 T.s.n n (dv T.s.S) T.A ep nx pl
  hn : T.safe = false → ∀ ep nx pl, T.lg = some (ep, nx, pl) → (T.T = T.A ∨ (T.op = true ∧ T.T = T.M)) ∧ Qn3 T.s.n n (dv (layA T.s.S T.s.P)) T.T ep nx pl
theorem fu_up {N n m : Nat} {S : Nat → List Int} {P : List (Nat × List Int)} {A M : Ac} {op : Bool} (h : Fu S P (fun D => Qa N n D A ∨ (op = true ∧ Qa N n D M))) (hm : n ≤ m) : Fu S P (fun D => Qa N m D A ∨ (op = true ∧ Qa N m D M)) :=
  h.weak (fun D q => by
    rcases q with q | ⟨q1, q2⟩
    · exact .inl (q.up hm)
    · exact .inr ⟨q1, q2.up hm⟩)
theorem Tv.up {T : Tp} {n m : Nat} (h : Tv T n) (hm : n ≤ m) : Tv T m :=
  ⟨h.n1, h.n2, Nat.le_trans h.k hm, by have := h.c; omega, by have := h.P; omega, Nat.le_trans h.len hm, fu_up h.fu hm, fun a ep nx pl e => ⟨(h.hs a ep nx pl e).1, (h.hs a ep nx pl e).2.up hm⟩, fun a ep nx pl e => ⟨(h.hn a ep nx pl e).1, (h.hn a ep nx pl e).2.up hm⟩⟩
/-- Where a log is in hand its numbers are within their bounds. -/
theorem Tv.pl {T : Tp} {n : Nat} (h : Tv T n) {ep nx pl : Nat} (e : T.lg = some (ep, nx, pl)) : pl ≤ roo T.s.n ∧ 1 ≤ ep ∧ ep ≤ n ∧ 1 ≤ nx ∧ nx ≤ n := by
  have key : ∀ D a, Qn3 T.s.n n D a ep nx pl → pl ≤ roo T.s.n ∧ 1 ≤ ep ∧ ep ≤ n ∧ 1 ≤ nx ∧ nx ≤ n := fun D a q => by
    obtain ⟨q, h1, h2, h3, h4, h5, h6⟩ := q
    refine ⟨?_, h1.he, h2, by omega, h5⟩
    rw [h6]
    exact h1.ld.room
  cases hsf : T.safe with
  | true => exact key _ _ (h.hs hsf ep nx pl e).2
  | false => exact key _ _ (h.hn hsf ep nx pl e).2
/-! An Open. -/
def opT (T : Tp) : Tp :=
  match ((onP T.s.n).run { T.s with k := T.s.k + 1 }).1 with
  | .ok (some (st, l, ep, nx, pl)) => { T with s := ((onP T.s.n).run { T.s with k := T.s.k + 1 }).2, lg := some (ep, nx, pl), safe := false, T := (st, l) }
  | _ => { T with s := ((onP T.s.n).run { T.s with k := T.s.k + 1 }).2, lg := none, safe := false }
theorem opE_is (s : St) : opE s = 0 ∨ opE s = 103 ∨ opE s = 104 := by
  unfold opE
  split
  · split
    · exact .inr (.inr rfl)
    · split
      · exact .inr (.inl rfl)
      · exact .inl rfl
  · exact .inr (.inr rfl)
theorem run_err {α : Type} : ∀ (r : Rp α) (s : St) (E : Int), (r.run s).1 = .error E → E = 103 ∨ E = 104 := fun r => by
  induction r with
  | ret a => intro s E h; cases h
  | rd i k ih =>
    intro s E h
    unfold Rp.run at h
    split at h
    · exact ih _ _ _ h
    · rename_i hne
      simp only [Except.error.injEq] at h
      rw [← h]
      exact (opE_is s).resolve_left hne
/-- What an Open leans on. -/
structure Tu (T : Tp) (n : Nat) : Prop where
  n1 : 32 ≤ T.s.n
  n2 : T.s.n ≤ 100
  k : T.s.k ≤ n
  c : T.s.c ≤ 200 * n
  P : T.s.P.length ≤ 100 * n
  fu : Fu T.s.S T.s.P (fun D => Qa T.s.n n D T.A ∨ (T.op = true ∧ Qa T.s.n n D T.M))
theorem Tv.tu {T : Tp} {n : Nat} (h : Tv T n) : Tu T n := ⟨h.n1, h.n2, h.k, h.c, h.P, h.fu⟩
/-- What an Open answers in a town. -/
theorem Tu.run {T : Tp} {n : Nat} (h : Tu T n) : (∃ E, ((onP T.s.n).run { T.s with k := T.s.k + 1 }).1 = .error E ∧ (E = 103 ∨ E = 104)) ∨ ∃ a ep nx pl, ((onP T.s.n).run { T.s with k := T.s.k + 1 }).1 = .ok (some (a.1, a.2, ep, nx, pl)) ∧ (a = T.A ∨ (T.op = true ∧ a = T.M)) ∧ Qn3 T.s.n n (dv (layA T.s.S T.s.P)) a ep nx pl := by
  cases hr : ((onP T.s.n).run { T.s with k := T.s.k + 1 }).1 with
  | error E => exact .inl ⟨E, rfl, run_err _ _ _ hr⟩
  | ok r =>
    refine .inr ?_
    obtain ⟨D, hD, e1, e2⟩ := open_tells (s := { T.s with k := T.s.k + 1 }) h.fu hr
    have key : ∀ a, Qa T.s.n n D a → ∃ ep nx pl, r = some (a.1, a.2, ep, nx, pl) ∧ Qn3 T.s.n n (dv (layA T.s.S T.s.P)) a ep nx pl := fun a ha => by
      obtain ⟨e, q, h1, h2, h3, h4⟩ := ha
      have := h1.opn
      refine ⟨e, q + a.2.length, ends a.2 (pcN a.1.length), by rw [e2, this], q, ?_, h2, h3, rfl, h4, rfl⟩
      rw [← (show D = dv (layA T.s.S T.s.P) from e1)]
      exact h1
    rcases hD with hD | ⟨ho, hD⟩
    · obtain ⟨ep, nx, pl, e, hq⟩ := key _ hD
      exact ⟨_, ep, nx, pl, by rw [e], .inl rfl, hq⟩
    · obtain ⟨ep, nx, pl, e, hq⟩ := key _ hD
      exact ⟨_, ep, nx, pl, by rw [e], .inr ⟨ho, rfl⟩, hq⟩
theorem opT_s (T : Tp) : (opT T).s = ((onP T.s.n).run { T.s with k := T.s.k + 1 }).2 ∧ (opT T).safe = false ∧ (opT T).A = T.A ∧ (opT T).op = T.op ∧ (opT T).M = T.M := by
  unfold opT
  split <;> exact ⟨rfl, rfl, rfl, rfl, rfl⟩
theorem roo_100 {N : Nat} (h : N ≤ 100) : roo N ≤ 49 := by unfold roo; omega
theorem Tv.opens {T : Tp} {n : Nat} (h : Tv T n) : Tv (opT T) (n + 1) := by
  obtain ⟨o1, o2, o3, o4, o5⟩ := opT_s T
  have h3 := run_SP (onP T.s.n) { T.s with k := T.s.k + 1 }
  have h4 := run_nk (onP T.s.n) { T.s with k := T.s.k + 1 }
  have h5 := on_c T.s.n { T.s with k := T.s.k + 1 }
  have hr := roo_100 h.n2
  simp only at h3 h4 h5
  have hlg : ∀ ep nx pl, (opT T).lg = some (ep, nx, pl) → ((opT T).T = T.A ∨ (T.op = true ∧ (opT T).T = T.M)) ∧ Qn3 T.s.n n (dv (layA T.s.S T.s.P)) (opT T).T ep nx pl := fun ep nx pl e => by
    rcases h.tu.run with ⟨E, r1, _⟩ | ⟨a, ep', nx', pl', r1, r2, r3⟩
    · unfold opT at e
      rw [r1] at e
      cases e
    · have hT : (opT T).T = a ∧ (opT T).lg = some (ep', nx', pl') := by unfold opT; rw [r1]; exact ⟨rfl, rfl⟩
      rw [hT.2] at e
      cases e
      rw [hT.1]
      exact ⟨r2, r3⟩
  refine ⟨?_, ?_, ?_, ?_, ?_, ?_, ?_, fun q => ?_, fun _ ep nx pl e => ?_⟩
  · rw [o1, h4.1]; exact h.n1
  · rw [o1, h4.1]; exact h.n2
  · rw [o1, h4.2]; have := h.k; omega
  · rw [o1]; have := h.c; exact Nat.le_trans h5 (by omega)
  · rw [o1, h3.2]; have := h.P; omega
  · rw [o3]; have := h.len; omega
  · rw [o1, h3.1, h3.2, h4.1, o3, o4, o5]
    exact fu_up h.fu (by omega)
  · rw [o2] at q; cases q
  · obtain ⟨a1, a2⟩ := hlg ep nx pl e
    rw [o1, h3.1, h3.2, h4.1, o3, o4, o5]
    exact ⟨a1, a2.up (by omega)⟩
/-! A Safe. -/
def sfT (T : Tp) : Tp := if T.lg = none ∨ T.safe = true then T else if opE T.s = 0 then { T with s := flS T.s, safe := true, A := T.T, op := false } else { T with s := flS T.s, lg := none }
theorem flS_n (s : St) : (flS s).n = s.n ∧ (flS s).k = s.k ∧ (flS s).c ≤ s.c + 1 ∧ (flS s).P.length ≤ s.P.length := by
  have o1 := opS_c s
  unfold flS
  split
  · exact ⟨opS_n s, opS_k s, by show (opS s).c ≤ _; omega, Nat.zero_le _⟩
  · exact ⟨opS_n s, opS_k s, by omega, by rw [opS_P']; exact Nat.le_refl _⟩
theorem Tv.safes {T : Tp} {n : Nat} (h : Tv T n) : Tv (sfT T) (n + 1) := by
  unfold sfT
  split
  · exact h.up (by omega)
  · rename_i hno
    have hlg : T.lg ≠ none := fun q => hno (.inl q)
    have hsf : T.safe = false := by cases q : T.safe with | false => rfl | true => exact absurd (.inr q) hno
    obtain ⟨f1, f2, f3, f4⟩ := flS_n T.s
    have hk := h.k
    have hc := h.c
    have hP := h.P
    split
    · rename_i hE
      obtain ⟨x, hx⟩ := Option.ne_none_iff_exists'.1 hlg
      obtain ⟨ep, nx, pl⟩ := x
      obtain ⟨a1, a2⟩ := h.hn hsf ep nx pl hx
      have eS : (flS T.s).S = layA T.s.S T.s.P := by unfold flS; rw [if_pos hE]
      have eP : (flS T.s).P = [] := by unfold flS; rw [if_pos hE]
      refine ⟨by rw [f1]; exact h.n1, by rw [f1]; exact h.n2, by show (flS T.s).k ≤ _; omega, by show (flS T.s).c ≤ _; omega, by show (flS T.s).P.length ≤ _; omega, ?_, ?_, fun _ ep' nx' pl' e => ?_, fun q => (by cases q)⟩
      · obtain ⟨q, h1, h2, h3, h4, h5, h6⟩ := a2
        show T.T.2.length ≤ n + 1
        omega
      · show Fu (flS T.s).S (flS T.s).P _
        rw [eP]
        refine Fu.nil (.inl ?_)
        show Qa (flS T.s).n (n + 1) (dv (flS T.s).S) T.T
        rw [eS, f1]
        exact a2.qa.up (by omega)
      · have e' : T.lg = some (ep', nx', pl') := e
        rw [hx] at e'
        cases e'
        refine ⟨eP, ?_⟩
        show Qn3 (flS T.s).n (n + 1) (dv (flS T.s).S) T.T ep nx pl
        rw [eS, f1]
        exact a2.up (by omega)
    · rename_i hE
      have eS : (flS T.s).S = T.s.S := by unfold flS; rw [if_neg hE]; exact opS_S' _
      have eP : (flS T.s).P = T.s.P := by unfold flS; rw [if_neg hE]; exact opS_P' _
      refine ⟨by rw [f1]; exact h.n1, by rw [f1]; exact h.n2, by show (flS T.s).k ≤ _; omega, by show (flS T.s).c ≤ _; omega, by show (flS T.s).P.length ≤ _; omega, by have := h.len; show T.A.2.length ≤ _; omega, ?_, fun q => (by have : T.safe = true := q; rw [hsf] at this; cases this), fun _ ep' nx' pl' e => (by cases e)⟩
      show Fu (flS T.s).S (flS T.s).P (fun D => Qa (flS T.s).n (n + 1) D T.A ∨ (T.op = true ∧ Qa (flS T.s).n (n + 1) D T.M))
      rw [eS, eP, f1]
      exact fu_up h.fu (by omega)
end Go.Proofs.YtblcpdffiafgnaaGreatDoor
namespace Go.Proofs.YtblcpdffiafgnaaGreatDoor
set_option linter.unusedSimpArgs false
set_option maxRecDepth 100000
open Go.RowKit Go.Shelf
set_option linter.unusedVariables false

theorem getD_mem {fs : List (Int × Int)} {i : Nat} (h : i < fs.length) : fs.getD i (0, 0) ∈ fs := by simp [List.getD, h]
/-- The first j are right. -/
def Upt (fs : List (Int × Int)) (j : Nat) : Prop := (∀ t, t < j → 1 ≤ (fs.getD t (0, 0)).1 ∧ ((fs.getD t (0, 0)).2 = 1 ∨ (fs.getD t (0, 0)).2 = 2)) ∧ ∀ t, t + 1 < j → (fs.getD t (0, 0)).1 ≠ (fs.getD (t + 1) (0, 0)).1
theorem upt_all {fs : List (Int × Int)} (hs : fs.Pairwise (fun a b => a.1 ≤ b.1)) (h : Upt fs fs.length) : okF fs ∧ srt fs := by
  have key : srt fs := by
    refine List.pairwise_iff_getElem.2 (fun i j hi hj hij => ?_)
    have step : ∀ k, i + k + 1 < fs.length → (fs.getD i (0, 0)).1 < (fs.getD (i + k + 1) (0, 0)).1 := by
      intro k
      induction k with
      | zero =>
        intro hk
        have h1 := h.2 i hk
        have h2 := List.pairwise_iff_getElem.1 hs i (i + 1) hi hk (by omega)
        simp only [Nat.add_zero] at hk ⊢
        simp only [List.getD, List.getElem?_eq_getElem hi, List.getElem?_eq_getElem hk, Option.getD_some] at h1 ⊢
        omega
      | succ k ih =>
        intro hk
        have h1 := ih (by omega)
        have h2 := List.pairwise_iff_getElem.1 hs (i + k + 1) (i + (k + 1) + 1) (by omega) hk (by omega)
        simp only [List.getD, List.getElem?_eq_getElem hi, List.getElem?_eq_getElem hk, List.getElem?_eq_getElem (show i + k + 1 < fs.length from by omega), Option.getD_some] at h1 ⊢
        omega
    have := step (j - i - 1) (by omega)
    rw [show i + (j - i - 1) + 1 = j from by omega] at this
    simpa only [List.getD, List.getElem?_eq_getElem hi, List.getElem?_eq_getElem hj, Option.getD_some] using this
  refine ⟨⟨fun f hf => ?_, srt_ne key⟩, key⟩
  obtain ⟨i, hi, rfl⟩ := List.getElem_of_mem hf
  have := h.1 i hi
  simpa only [List.getD, List.getElem?_eq_getElem hi, Option.getD_some] using this
theorem not_ok1 {fs : List (Int × Int)} {j : Nat} (hj : j < fs.length) (h : ¬ (1 ≤ (fs.getD j (0, 0)).1 ∧ ((fs.getD j (0, 0)).2 = 1 ∨ (fs.getD j (0, 0)).2 = 2))) : decide (okF fs) = false := decide_eq_false (fun h2 => h (h2.1 _ (getD_mem hj)))
theorem not_ok2 {fs : List (Int × Int)} {j : Nat} (hj : j + 1 < fs.length) (h : (fs.getD j (0, 0)).1 = (fs.getD (j + 1) (0, 0)).1) : decide (okF fs) = false := decide_eq_false (fun h2 => by
  have := List.pairwise_iff_getElem.1 h2.2 j (j + 1) (by omega) hj (by omega)
  simp only [List.getD, List.getElem?_eq_getElem hj, List.getElem?_eq_getElem (show j < fs.length from by omega), Option.getD_some] at h
  exact this h)
set_option maxHeartbeats 4000000 in
theorem armable_ (a : Option Addr) (m c : Nat) (fs : List (Int × Int)) (w : World) (h : Fs w a m fs) (hs : fs.Pairwise (fun a b => a.1 ≤ b.1)) (hm : m ≤ 140737488355328) :
    Calls Tryz.prog 43 #[.slice a m c] w fun e w' => e = .returned (.bool (decide (okF fs))) ∧ Below w.heap.size w w' := by
  have HF := hid h
  have HS := hid hs
  have hl := h.1
  obtain ⟨R, HR⟩ : ∃ R, Hid (decide (okF fs) = R) := ⟨_, rfl⟩
  rw [HR.out]
  clear h hs
  go_enter Tryz.func43, Tryz.ntmps43
  go_wp2_with fail
  go_loopw [3, 4, 7] (fun _ _ i wr => ∃ j : Nat, j ≤ m ∧ i = .int .i64 j ∧ Upt fs j ∧ Below w.heap.size w wr) (fun _ _ i _ => m - (intOf i).toNat)
  case atStart => exact ⟨0, Nat.zero_le _, rfl, ⟨fun t ht => by omega, fun t ht => by omega⟩, Below.refl _ _⟩
  case round =>
    obtain ⟨j, hj, rfl, hu, hbl⟩ := hrel
    have HU := hid hu
    clear hu
    by_cases hlt : j < m
    · have hjI : (j : Int) < (m : Int) := by omega
      obtain ⟨b, off, rfl, hc⟩ : ∃ b off, a = some ⟨b, off, none⟩ ∧ ∀ i, i < m → w.cell? ⟨b, off + i * 2, none⟩ = some (.int .i64 (fs.getD i (0, 0)).1) ∧ w.cell? ⟨b, off + i * 2 + 1, none⟩ = some (.int .i64 (fs.getD i (0, 0)).2) := by
        rcases HF.out.2 with h0 | h
        · omega
        · exact h
      have hbl' : ∀ o : Obj, Below w.heap.size w (wr.alloc o) := fun o => hbl.alloc hbl.size o
      have HBL := hid hbl'
      have cc : ∀ i, i < m → wr.cell? ⟨b, off + i * 2, none⟩ = some (.int .i64 (fs.getD i (0, 0)).1) ∧ wr.cell? ⟨b, off + i * 2 + 1, none⟩ = some (.int .i64 (fs.getD i (0, 0)).2) := fun i hi => ⟨(hbl.cell (p := ⟨b, off + i * 2, none⟩) (World.block_lt_of_cell? w _ (hc i hi).1)).trans (hc i hi).1, (hbl.cell (p := ⟨b, off + i * 2 + 1, none⟩) (World.block_lt_of_cell? w _ (hc i hi).2)).trans (hc i hi).2⟩
      have hbw : b < wr.heap.size := World.block_lt_of_cell? wr _ (cc j hlt).1
      obtain ⟨c0, c1⟩ := cc j hlt
      obtain ⟨A, HA⟩ : ∃ A, Hid ((fs.getD j (0, 0)).1 = A) := ⟨_, rfl⟩
      obtain ⟨K, HK⟩ : ∃ K, Hid ((fs.getD j (0, 0)).2 = K) := ⟨_, rfl⟩
      rw [HA.out] at c0
      rw [HK.out] at c1
      have HCC := hid cc
      clear hc cc hbl hbl'
      by_cases hA : A < 1
      · have HN : Hid (R = false) := by show _ = _; rw [← HR.out]; exact not_ok1 (j := j) (by omega) (fun h => by rw [HA.out] at h; omega)
        go_wp2_with fail
        go_ret
        exact ⟨by rw [HN.out]; rfl, HBL.out _⟩
      · by_cases hK : K = 1 ∨ K = 2
        case neg =>
          have k1 : (K != 1) = true := by rw [bne_iff_ne]; omega
          have k2 : (K != 2) = true := by rw [bne_iff_ne]; omega
          have HN : Hid (R = false) := by show _ = _; rw [← HR.out]; exact not_ok1 (j := j) (by omega) (fun h => by rw [HK.out] at h; omega)
          clear hK
          go_wp2_with fail
          go_ret
          exact ⟨by rw [HN.out]; rfl, HBL.out _⟩
        case pos =>
          have HOK : Hid (1 ≤ (fs.getD j (0, 0)).1 ∧ ((fs.getD j (0, 0)).2 = 1 ∨ (fs.getD j (0, 0)).2 = 2)) := by
            show _ ∧ _
            rw [HA.out, HK.out]
            exact ⟨by omega, hK⟩
          have kk : ((K != 1) = true ∧ (K != 2) = false) ∨ (K != 1) = false := by
            rcases hK with rfl | rfl
            · exact .inr rfl
            · exact .inl ⟨rfl, rfl⟩
          clear hK
          by_cases hj0 : j = 0
          · have HU1 : Hid (Upt fs (j + 1)) := by
              refine ⟨fun t ht => ?_, fun t ht => by omega⟩
              obtain rfl : t = j := by omega
              exact HOK.out
            have e0 : decide ((0 : Int) < (j : Int)) = false := decide_eq_false (by omega)
            have e0' : decide (0 < j) = false := decide_eq_false (by omega)
            clear hj0
            rcases kk with ⟨k1, k2⟩ | k1
            all_goals
              go_wp2_with fail
              go_quiet (fail)
              go_wp2_with fail
              go_roundw
              case rel => exact ⟨j + 1, by omega, by go_num, HU1.out, bel_drawn (HBL.out _) _⟩
              case measure => simp [intOf]; omega
          · obtain ⟨i, HJ⟩ : ∃ i, Hid (j = i + 1) := ⟨j - 1, by show _ = _; omega⟩
            have him : i < m := by have := HJ.out; omega
            obtain ⟨p0, p1⟩ := HCC.out i him
            obtain ⟨A', HA'⟩ : ∃ A', Hid ((fs.getD i (0, 0)).1 = A') := ⟨_, rfl⟩
            rw [HA'.out] at p0
            have q0 := (((Below.refl wr.heap.size wr).alloc (Nat.le_refl _) (.cells #[.int .i64 A, .int .i64 K] 50)).cell (p := ⟨b, off + i * 2, none⟩) hbw).trans p0
            have ej : (j : Int) - 1 = (i : Int) := by have := HJ.out; omega
            have eg : decide ((0 : Int) < (j : Int)) = true := decide_eq_true (by omega)
            have eg' : decide (0 < j) = true := decide_eq_true (by omega)
            have hjm : (i : Int) < (m : Int) := by omega
            clear p1 hj0
            by_cases hq : A' = A
            · have HN : Hid (R = false) := by
                show _ = _
                rw [← HR.out]
                have hl2 : i + 1 < fs.length := by have := HJ.out; omega
                exact not_ok2 (j := i) hl2 (by rw [HA'.out, hq, ← HJ.out, HA.out])
              have eq1 : (A' == A) = true := by simpa using hq
              clear hq
              rcases kk with ⟨k1, k2⟩ | k1
              all_goals
                go_wp2_with fail
                go_quiet (fail)
                go_wp2_with fail
                go_ret
                exact ⟨by rw [HN.out]; rfl, bel_drawn (HBL.out _) _⟩
            · have eq1 : (A' == A) = false := by simpa using hq
              have HU1 : Hid (Upt fs (j + 1)) := by
                refine ⟨fun t ht => ?_, fun t ht => ?_⟩
                · by_cases e : t = j
                  · rw [e]; exact HOK.out
                  · exact HU.out.1 t (by omega)
                · by_cases e : t = i
                  · rw [e, HA'.out, ← HJ.out, HA.out]; exact hq
                  · exact HU.out.2 t (by have := HJ.out; omega)
              clear hq
              rcases kk with ⟨k1, k2⟩ | k1
              all_goals
                go_wp2_with fail
                go_quiet (fail)
                go_wp2_with fail
                go_roundw
                case rel => exact ⟨j + 1, by omega, by go_num, HU1.out, bel_drawn (HBL.out _) _⟩
                case measure => simp [intOf]; omega
    · have hjI : ¬ (j : Int) < (m : Int) := by omega
      obtain rfl : j = m := by omega
      have HN : Hid (R = true) := by
        show _ = _
        rw [← HR.out]
        refine decide_eq_true ?_
        have := HU.out
        rw [← hl] at this
        exact (upt_all HS.out this).1
      go_wp2_with fail
      go_ret
      exact ⟨by rw [HN.out]; rfl, hbl⟩
end Go.Proofs.YtblcpdffiafgnaaGreatDoor
