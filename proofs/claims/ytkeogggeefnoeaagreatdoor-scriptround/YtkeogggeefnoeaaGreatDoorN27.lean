import Derived.Test.YtkeogggeefnoeaaGreatDoorN26
namespace Go.Proofs.YtkeogggeefnoeaaGreatDoor
set_option linter.unusedSimpArgs false
open Go.RowKit Go.Shelf
set_option linter.unusedVariables false
set_option maxRecDepth 100000
attribute [local go_sem] Oper.semAt_some

/-! Reading: a script. -/
def lfold : Option Scr → List (List Nat) → R (Option Scr)
  | s, [] => .ok s
  | s, l :: ls => match linv s l with
    | .error e => .error e
    | .ok s' => lfold s' ls
theorem lfold_snoc : ∀ (ls : List (List Nat)) (s s' : Option Scr) (l : List Nat), lfold s ls = .ok s' → lfold s (ls ++ [l]) = linv s' l
  | [], s, s', l, h => by
    cases h
    show (match linv s l with
      | .error e => .error e
      | .ok s' => .ok s' : R (Option Scr)) = _
    cases linv s l <;> rfl
  | x :: ls, s, s', l, h => by
    rw [lfold] at h
    show lfold s (x :: (ls ++ [l])) = _
    rw [lfold]
    cases hx : linv s x with
    | error e => rw [hx] at h; cases h
    | ok s1 =>
      rw [hx] at h
      exact lfold_snoc ls s1 s' l h
theorem lnsv_ok2 : ∀ (ls : List (List Nat)) (s s' : Option Scr) (i : Nat), lfold s ls = .ok s' → lnsv s i ls = match s' with
    | none => (scr0, 0, 227)
    | some s => (s, 0, 0)
  | [], s, s', i, h => by
    cases h
    cases s <;> rfl
  | x :: ls, s, s', i, h => by
    rw [lfold] at h
    rw [lnsv]
    cases hx : linv s x with
    | error e => rw [hx] at h; cases h
    | ok s1 =>
      rw [hx] at h
      exact lnsv_ok2 ls s1 s' (i + 1) h
theorem lnsv_err2 : ∀ (ls : List (List Nat)) (s s' : Option Scr) (i : Nat) (l : List Nat) (post : List (List Nat)) (e : Nat), lfold s ls = .ok s' → linv s' l = .error e → lnsv s i (ls ++ l :: post) = (scr0, i + ls.length, e)
  | [], s, s', i, l, post, e, h, he => by
    cases h
    show lnsv s i (l :: post) = _
    rw [lnsv, he]
    rfl
  | x :: ls, s, s', i, l, post, e, h, he => by
    rw [lfold] at h
    show lnsv s i (x :: (ls ++ l :: post)) = _
    rw [lnsv]
    cases hx : linv s x with
    | error e => rw [hx] at h; cases h
    | ok s1 =>
      rw [hx] at h
      simp only
      rw [lnsv_err2 ls s1 s' (i + 1) l post e h he, List.length_cons]
      congr 2
      omega
/-- No more steps than may be. -/
def Few (s : Option Scr) : Prop := ∀ sc, s = some sc → sc.ops.length ≤ 2000
theorem linv_few {s s' : Option Scr} {l : List Nat} (h : linv s l = .ok s') (hf : Few s) : Few s' := by
  unfold linv at h
  split at h
  · split at h
    · cases h; exact hf
    · split at h
      · split at h
        · cases h
        · cases h
          intro sc hs
          cases hs
          simp
      · rename_i sc0 h2
        split at h
        · cases h
        · split at h
          · cases h
          · cases h
            intro sc hs
            cases hs
            simp
            omega
  · cases h
theorem lfold_few : ∀ (ls : List (List Nat)) (s s' : Option Scr), lfold s ls = .ok s' → Few s → Few s'
  | [], s, s', h, hf => by cases h; exact hf
  | x :: ls, s, s', h, hf => by
    rw [lfold] at h
    cases hx : linv s x with
    | error e => rw [hx] at h; cases h
    | ok s1 =>
      rw [hx] at h
      exact lfold_few ls s1 s' h (linv_few hx hf)
theorem map_range_getD (ls : List (List Nat)) : (List.range ls.length).map (fun k => ls.getD k []) = ls := by
  apply List.ext_getElem
  · simp
  · intro i h1 h2
    simp [List.getD, h2]
section
variable {X Y : World} {Bd : Nat} {row : Option Nat}
theorem Yx.non {g : Nat} {t : TypeId} {vs : List Value} (h : Yx X g t vs) (hg : X.grownBy Y row) (hr : ∀ r, row = some r → Bd ≤ r ∧ ∃ o : Obj, X.heap[r]? = some o ∧ o.isCells = false) : Yx Y g t vs :=
  (hg.block g h.lt (fun q => by
    obtain ⟨_, o, ho, hoc⟩ := hr g q.symm
    rw [show X.heap[g]? = _ from h] at ho
    cases ho
    cases hoc)).trans h
theorem Rde.non {S rb : Nat} {s : Option Scr} (h : Rde X S rb s) (hg : X.grownBy Y row) (hr : ∀ r, row = some r → Bd ≤ r ∧ ∃ o : Obj, X.heap[r]? = some o ∧ o.isCells = false) : Rde Y S rb s := by
  obtain ⟨sec, v, os, bg, h1, h2, h3, h4, h5, h6⟩ := h
  exact ⟨sec, v, os, bg, h1.non hg hr, own_non h2 hg hr, fun x hx => (h3 x hx).non hg hr, h4, Nat.le_trans h5 hg.size, h6⟩
end
/-- What Parse answers. -/
def PaV (w : World) (r : Scr × Nat × Nat) (e : Ending) (w' : World) : Prop := ∃ a p, e = .returned (.tuple #[.agg #[.int .i64 r.1.sec, .slice a r.1.ops.length p], .int .i64 (r.2.1 : Nat), .int .i64 (r.2.2 : Nat)]) ∧ Ops w' (fun x => w.heap.size ≤ x) a r.1.ops.length r.1.ops
theorem ops_none (w : World) (V : Nat → Prop) : Ops w V none 0 [] := ⟨[], rfl, rfl, .inl rfl, by simp⟩
set_option maxHeartbeats 8000000 in
theorem sparseAll_ (t : List Nat) (hy : ∀ x ∈ t, x < 256) (hl : t.length ≤ 1048576) (w : World) (hq : Tq w) : Calls Tryz.prog 11 #[.string (sb t)] w fun e w' => PaV w (lnsv none 1 (cutL [] t)) e w' ∧ Below w.heap.size w w' := by
  have hmx : Tryz.prog.follows .mixedOrders = true := by kernel_rfl
  have hsz : (sb t).size = t.length := sb_size t
  obtain ⟨ls, HLS⟩ : ∃ z, Hid (cutL [] t = z) := ⟨_, rfl⟩
  have HLB : Hid (∀ k, (∀ x ∈ ls.getD k [], x < 256) ∧ (ls.getD k []).length ≤ 1048576) := fun k => by
    by_cases hk : k < ls.length
    · have hm : ls.getD k [] ∈ cutL [] t := by rw [HLS.out]; simp [List.getD, hk]
      refine ⟨cutL_mem t [] (fun x => x < 256) (by simp) hy _ hm, ?_⟩
      have := cutL_len t [] _ hm
      rw [List.length_nil] at this
      omega
    · rw [show ls.getD k [] = [] by simp [List.getD, Nat.le_of_not_lt hk]]
      exact ⟨by simp, by simp⟩
  have HL1 := hid fun lp bt J Jx W hA hY hct h0 => line1_in 8 (by omega) lp bt t hy hl J Jx W hA hY hct h0
  have hmn := cutL_many t []
  rw [HLS.out] at HL1 hmn
  rw [HLS.out]
  obtain ⟨X, HX⟩ : ∃ z, Hid (sb t = z) := ⟨_, rfl⟩
  rw [HX.out] at HL1 hsz
  rw [HX.out]
  have hszi : ¬ (1048576 : Int) < (X.size : Int) := by omega
  refine (callsIn_wide (n := 9)).1 ?_
  refine callsIn_of_wp_marks Tryz.func11 rfl trivial ?_ rfl
  simp only [Tryz.ntmps11, List.size_toArray, List.length_cons, List.length_nil, Nat.reduceAdd, Nat.reduceSub, Array.replicate_succ, Array.replicate_zero, List.push_toArray, List.append_toArray, List.nil_append, List.cons_append]
  gi_wp2_with (refine ⟨trivial, ?_⟩; gi_at_call 21; refine (callsIn_wide.2 (lines_ _ _)).mono ?_; rintro e0 w2 ⟨rfl, hw2⟩)
  clear hw2 hszi
  obtain ⟨W2, HW2⟩ : ∃ W2, Hid (((((w.alloc (.cells #[.int .i64 0, .slice none 0 0] 24)).alloc (.cells #[.int .i64 0] 3)).alloc (.cells #[.int .i64 0] 26)).alloc (.cells #[.int .i64 0, .slice none 0 0, .bool false] 58)).alloc (.cells #[.string X] 9) = W2) := ⟨_, rfl⟩
  have sz2 : W2.heap.size = w.heap.size + 1 + 1 + 1 + 1 + 1 := by rw [← HW2.out]; simp
  have bel2 : Below w.heap.size w W2 := by
    rw [← HW2.out]
    exact (((((Below.refl _ _).alloc (Nat.le_refl _) _).alloc (by simp) _).alloc (by simp; omega) _).alloc (by simp; omega) _).alloc (by simp; omega) _
  have y0 : Yx W2 w.heap.size 24 [.int .i64 0, .slice none 0 0] := by
    rw [← HW2.out]
    have h0 := Yx.new w 24 [.int .i64 0, .slice none 0 0]
    exact (((h0.on ((Below.refl _ _).alloc (Nat.le_refl _) _)).on ((Below.refl _ _).alloc (Nat.le_refl _) _)).on ((Below.refl _ _).alloc (Nat.le_refl _) _)).on ((Below.refl _ _).alloc (Nat.le_refl _) _)
  have b1 : Boxed W2 (w.heap.size + 1) 3 (.int .i64 0) := by
    rw [← HW2.out]
    have := (((Boxed.new (w.alloc (.cells #[.int .i64 0, .slice none 0 0] 24)) 3 (.int .i64 0)).alloc (.cells #[.int .i64 0] 26)).alloc (.cells #[.int .i64 0, .slice none 0 0, .bool false] 58)).alloc (.cells #[.string X] 9)
    simpa using this
  have b2 : Boxed W2 (w.heap.size + 1 + 1) 26 (.int .i64 0) := by
    rw [← HW2.out]
    have := ((Boxed.new ((w.alloc (.cells #[.int .i64 0, .slice none 0 0] 24)).alloc (.cells #[.int .i64 0] 3)) 26 (.int .i64 0)).alloc (.cells #[.int .i64 0, .slice none 0 0, .bool false] 58)).alloc (.cells #[.string X] 9)
    simpa using this
  have y3 : Yx W2 (w.heap.size + 1 + 1 + 1) 58 [.int .i64 0, .slice none 0 0, .bool false] := by
    rw [← HW2.out]
    have h0 := Yx.new (((w.alloc (.cells #[.int .i64 0, .slice none 0 0] 24)).alloc (.cells #[.int .i64 0] 3)).alloc (.cells #[.int .i64 0] 26)) 58 [.int .i64 0, .slice none 0 0, .bool false]
    have := h0.on ((Below.refl _ _).alloc (Nat.le_refl _) (.cells #[.string X] 9))
    simpa using this
  have b4 : Boxed W2 (w.heap.size + 1 + 1 + 1 + 1) 9 (.string X) := by
    rw [← HW2.out]
    have := Boxed.new ((((w.alloc (.cells #[.int .i64 0, .slice none 0 0] 24)).alloc (.cells #[.int .i64 0] 3)).alloc (.cells #[.int .i64 0] 26)).alloc (.cells #[.int .i64 0, .slice none 0 0, .bool false] 58)) 9 (.string X)
    simpa using this
  rw [HW2.out]
  clear HW2
  generalize g4 : w.heap.size + 1 + 1 + 1 + 1 = B4 at *
  generalize g3 : w.heap.size + 1 + 1 + 1 = B3 at *
  generalize g2 : w.heap.size + 1 + 1 = B2 at *
  generalize g1 : w.heap.size + 1 = B1 at *
  obtain ⟨B0, HB0⟩ : ∃ B0, Hid (w.heap.size = B0) := ⟨_, rfl⟩
  have hB0 := HB0.out
  rw [hB0] at y0 ⊢
  have hBB : B0 < B1 ∧ B1 < B2 ∧ B2 < B3 ∧ B3 < B4 ∧ B4 < W2.heap.size := by omega
  have hwB : w.heap.size ≤ B0 := by omega
  have c4 := b4.cell
  have hseq : SeqStopsK Fence.wide 8 Tryz.prog 30 #[.pointer (some ⟨B4, 0, none⟩)] (fun x : Nat => #[Value.int .i64 ((x : Int) + 1), Value.string (sb (ls.getD x []))]) (fun _ _ => True) (fun ys => ys = List.range ls.length) (fun pre => pre <+: List.range ls.length) ls.length W2 := fun lp J Jx W hW hA _ hY hJ0 =>
    HL1.out lp B4 J Jx W hA hY ((hW.cell (p := ⟨B4, 0, none⟩) hBB.2.2.2.2).trans c4) hJ0
  have hs2 := bel2.size
  have HQ := hid hq
  have HRD0 : Hid (Rde W2 W2.heap.size B3 none) := ⟨0, .slice none 0 0, [], false, y3, World.ownsRow_nil _ _ _ _, by simp, by omega, Nat.le_refl _, rfl, rfl⟩
  clear b4 c4 y3 g1 g2 g3 g4 sz2 hq hy
  refine with_act (fun A hA => ?_)
  refine wpIn_rangeFunc_ownH rfl (by omega) (gf := 30) (lb := #[.pointer (some ⟨B4, 0, none⟩)]) (by rw [hA]; rfl) trivial (enters_of Tryz.func30 (by kernel_rfl) rfl) hseq (fun _ _ => trivial)
    (fun _ _ _ _ _ _ _ _ => trivial) (Below.refl _ _) (fun _ => rfl)
    (fun pre W => Yx W B0 24 [.int .i64 0, .slice none 0 0] ∧ Boxed W B1 3 (.int .i64 0) ∧ Boxed W B2 26 (.int .i64 0) ∧ ∃ s, Hid (lfold none (pre.map fun k => ls.getD k []) = .ok s) ∧ Rde W W2.heap.size B3 s ∧ Below w.heap.size w W)
    (fun c pre W => c = .ret ∧ ∃ pre0 x s, ∃ k : Nat, pre = pre0 ++ [x] ∧ Hid (lfold none (pre0.map fun k => ls.getD k []) = .ok s ∧ linv s (ls.getD x []) = .error k ∧ k ≠ 0) ∧ Yx W B0 24 [.int .i64 0, .slice none 0 0] ∧ Boxed W B1 3 (.int .i64 ((x : Int) + 1)) ∧ Boxed W B2 26 (.int .i64 (k : Nat)) ∧ Below w.heap.size w W)
    (fun pre X Y row hs hg hr => by
      obtain ⟨h0, h1, h2, s, hf, hx, hb⟩ := hs
      exact ⟨h0.non hg hr, boxed_non h1 hg hr, boxed_non h2 hg hr, s, hf, hx.non hg hr, hb.grown hg hb.size (fun k e => Nat.le_trans bel2.size (hr k e).1)⟩)
    (fun c pre X Y row hs hg hr => by
      obtain ⟨hc, pre0, x, s, k, hp, hk, h0, h1, h2, hb⟩ := hs
      exact ⟨hc, pre0, x, s, k, hp, hk, h0.non hg hr, boxed_non h1 hg hr, boxed_non h2 hg hr, hb.grown hg hb.size (fun k e => Nat.le_trans bel2.size (hr k e).1)⟩)
    ⟨y0, b1, b2, none, rfl, HRD0.out, bel2⟩
    (fun x a' W => a' = { tmps := (((A.tmps.setIfInBounds 15 (.int .i64 ((x : Int) + 1))).setIfInBounds 16 (.string (sb (ls.getD x [])))).setIfInBounds 6 (.int .i64 ((x : Int) + 1))).setIfInBounds 7 (.string (sb (ls.getD x []))), defers := [] })
    (fun x a' _ X Y row hs hg hr => hs)
    ?assign ?body ?done ?stop
  case assign =>
    subst hA
    rintro lp pre x W K' hI hK'
    gi_wp2
    refine hK' _ _ (KeepsFrom.refl _ _) trivial hI ?_
    simp only [List.setIfInBounds_toArray, List.set_cons_zero, List.set_cons_succ]
    rfl
  case body =>
    subst hA
    rintro lp pre x a' W hlp _ hI ha hlt'
    simp only [List.setIfInBounds_toArray, List.set_cons_zero, List.set_cons_succ] at ha
    subst ha
    obtain ⟨h0, h1, h2, s, HFS, hX, hWB⟩ := hI
    have hSN := lfold_snoc (pre.map fun k => ls.getD k []) none s (ls.getD x []) HFS.out
    have hfew := lfold_few _ _ _ HFS.out (fun sc e => by cases e)
    have k1 := line_ (ls.getD x []) (HLB.out x).1 (HLB.out x).2 W2.heap.size B3 w W HQ.out hWB (by omega) s hX hfew
    have HMP : Hid ((pre ++ [x]).map (fun k => ls.getD k []) = (pre.map fun k => ls.getD k []) ++ [ls.getD x []]) := by show _ = _; simp
    obtain ⟨rl, HRL⟩ : ∃ z, Hid (linv s (ls.getD x []) = z) := ⟨_, rfl⟩
    rw [HRL.out] at k1 hSN
    obtain ⟨XL, HXL⟩ : ∃ z, Hid (sb (ls.getD x []) = z) := ⟨_, rfl⟩
    rw [HXL.out] at k1 ⊢
    obtain ⟨N, HN⟩ : ∃ z, Hid (((x : Int) + 1) = z) := ⟨_, rfl⟩
    rw [HN.out]
    have H0 := hid h0
    have H1 := hid h1
    have H2 := hid h2
    have HWB := hid hWB
    have HSN := hid hSN
    clear h0 h1 h2 hWB hX hSN hfew hlt' HQ
    gi_wp2_with fail
    refine ⟨trivial, ?_⟩
    refine (CallsIn.inRound lp (callsIn_wide.2 k1)).mono ?_
    rintro e w1 ⟨hF, hM⟩
    have y0' : Yx w1 B0 24 [.int .i64 0, .slice none 0 0] := (hF.same B0 (by omega) (by omega)).trans H0.out
    have b1' : Boxed w1 B1 3 (.int .i64 0) := (hF.same B1 (by omega) (by omega)).trans H1.out
    have b2' : Boxed w1 B2 26 (.int .i64 0) := (hF.same B2 (by omega) (by omega)).trans H2.out
    have hb1 : Below w.heap.size w w1 := hF.bel HWB.out (by omega) (by omega)
    cases rl with
    | error ek =>
      obtain ⟨rfl, hek⟩ := hM
      have i1 : ¬ (ek : Int) = 0 := by omega
      have i2 : ((ek : Int) == 0) = false := by simp; omega
      have i3 : ((ek : Int) != 0) = true := by simp; omega
      have c0 := y0'.cell 0
      have c0b := y0'.cell 1
      have f0 := y0'.fz 0
      have f0b := y0'.fz 1
      simp only [List.getElem?_cons_succ, List.getElem?_cons_zero] at c0 c0b
      obtain ⟨wa, HWA⟩ : ∃ z, Hid ((w1.setCell ⟨B0, 0, none⟩ (.int .i64 0)).setCell ⟨B0, 1, none⟩ (.slice none 0 0) = z) := ⟨_, rfl⟩
      have HYA : Hid (Yx wa B0 24 [.int .i64 0, .slice none 0 0]) := by
        show Yx _ _ _ _
        rw [← HWA.out]
        exact (y0'.set 0 (.int .i64 0)).set 1 (.slice none 0 0)
      have hsa : ∀ k, k ≠ B0 → wa.heap[k]? = w1.heap[k]? := fun k hk => by
        rw [← HWA.out]
        exact (Below.heap_setCell _ _ _ _ (by show k ≠ B0; exact hk)).trans (Below.heap_setCell _ _ _ _ (by show k ≠ B0; exact hk))
      have b1a : Boxed wa B1 3 (.int .i64 0) := (hsa B1 (by omega)).trans b1'
      have b2a : Boxed wa B2 26 (.int .i64 0) := (hsa B2 (by omega)).trans b2'
      have hba : Below w.heap.size w wa := by
        rw [← HWA.out]
        exact (hb1.setCell (p := ⟨B0, 0, none⟩) (by show w.heap.size ≤ B0; omega) _).setCell (p := ⟨B0, 1, none⟩) (by show w.heap.size ≤ B0; omega) _
      have hka : KeepsOthers W wa := by
        rw [← HWA.out]
        exact hF.ko.trans ((KeepsOthers.setCell w1 ⟨B0, 0, none⟩ _).trans (KeepsOthers.setCell _ ⟨B0, 1, none⟩ _))
      have d1 := b1a.cell
      have d1f := b1a.frozen
      have d2 := (Boxed.other b2a (show B2 ≠ B1 by omega) (.int .i64 N)).cell
      have d2f := (Boxed.other b2a (show B2 ≠ B1 by omega) (.int .i64 N)).frozen
      have HYE : Hid (Yx ((wa.setCell ⟨B1, 0, none⟩ (.int .i64 N)).setCell ⟨B2, 0, none⟩ (.int .i64 ek)) B0 24 [.int .i64 0, .slice none 0 0]) := (HYA.out.other (by omega)).other (by omega)
      have HB1' : Hid (Boxed ((wa.setCell ⟨B1, 0, none⟩ (.int .i64 N)).setCell ⟨B2, 0, none⟩ (.int .i64 ek)) B1 3 (.int .i64 N)) := (b1a.set _).other (by omega) _
      have HB2' : Hid (Boxed ((wa.setCell ⟨B1, 0, none⟩ (.int .i64 N)).setCell ⟨B2, 0, none⟩ (.int .i64 ek)) B2 26 (.int .i64 ek)) := (b2a.other (by omega) _).set _
      have HKF : Hid (KeepsFrom W2.heap.size W ((wa.setCell ⟨B1, 0, none⟩ (.int .i64 N)).setCell ⟨B2, 0, none⟩ (.int .i64 ek))) := (hka.trans ((KeepsOthers.setCell wa ⟨B1, 0, none⟩ (.int .i64 N)).trans (KeepsOthers.setCell _ ⟨B2, 0, none⟩ (.int .i64 ek)))).from _
      have HBL : Hid (Below w.heap.size w ((wa.setCell ⟨B1, 0, none⟩ (.int .i64 N)).setCell ⟨B2, 0, none⟩ (.int .i64 ek))) := (hba.setCell (p := ⟨B1, 0, none⟩) (by show w.heap.size ≤ B1; omega) _).setCell (p := ⟨B2, 0, none⟩) (by show w.heap.size ≤ B2; omega) _
      have HEK := hid hek
      rw [← HWA.out] at d1 d1f d2 d2f HYE HB1' HB2' HKF HBL
      clear k1 y0' b1' b2' hb1 hF hsa b1a b2a hba hka hek
      gi_wp2
      exact ⟨HKF.out, rfl, pre, x, s, ek, rfl, ⟨HFS.out, HRL.out, HEK.out⟩, HYE.out, (by rw [HN.out]; exact HB1'.out), HB2'.out, HBL.out⟩
    | ok s' =>
      obtain ⟨rfl, hrd⟩ := hM
      have HY0 := hid y0'
      have HB1 := hid b1'
      have HB2 := hid b2'
      have HBL := hid hb1
      have HRD := hid hrd
      have HKF := hid (hF.ko.from W2.heap.size)
      clear k1 y0' b1' b2' hb1 hrd hF
      gi_wp2
      refine ⟨HKF.out, trivial, HY0.out, HB1.out, HB2.out, s', ?_, HRD.out, HBL.out⟩
      show _ = _
      rw [HMP.out, HSN.out]
  case done =>
    subst hA
    rintro D ys W hD rfl ⟨h0, h1, h2, s, HFS, hX, hWB⟩ hK'
    rw [map_range_getD] at HFS
    have hpa := lnsv_ok2 ls none s 1 HFS.out
    obtain ⟨sec, v, os, bg, q1, q2, q3, q4, q5, q6⟩ := hX
    obtain ⟨va, vc, rfl, _⟩ := own_slice q2
    have e0 := q1.cell 0
    have e1 := q1.cell 1
    have e2 := q1.cell 2
    simp only [List.getElem?_cons_succ, List.getElem?_cons_zero] at e0 e1 e2
    have c0 := h0.cell 0
    have c0b := h0.cell 1
    have f0 := h0.fz 0
    have f0b := h0.fz 1
    simp only [List.getElem?_cons_succ, List.getElem?_cons_zero] at c0 c0b
    obtain ⟨m, Hm⟩ : ∃ z, Hid (os.length = z) := ⟨_, rfl⟩
    rw [Hm.out] at q1 q2 e1
    cases s with
    | none =>
      obtain ⟨rfl, rfl⟩ := q6
      have hres : lnsv none 1 ls = (scr0, 0, 227) := hpa
      obtain ⟨wa, HWA⟩ : ∃ z, Hid ((W.setCell ⟨B0, 0, none⟩ (.int .i64 0)).setCell ⟨B0, 1, none⟩ (.slice none 0 0) = z) := ⟨_, rfl⟩
      have HYA : Hid (Yx wa B0 24 [.int .i64 0, .slice none 0 0]) := by
        show Yx _ _ _ _
        rw [← HWA.out]
        exact (h0.set 0 (.int .i64 0)).set 1 (.slice none 0 0)
      have hsa : ∀ k, k ≠ B0 → wa.heap[k]? = W.heap[k]? := fun k hk => by
        rw [← HWA.out]
        exact (Below.heap_setCell _ _ _ _ (by show k ≠ B0; exact hk)).trans (Below.heap_setCell _ _ _ _ (by show k ≠ B0; exact hk))
      have b1a : Boxed wa B1 3 (.int .i64 0) := (hsa B1 (by omega)).trans h1
      have b2a : Boxed wa B2 26 (.int .i64 0) := (hsa B2 (by omega)).trans h2
      have hba : Below w.heap.size w wa := by
        rw [← HWA.out]
        exact (hWB.setCell (p := ⟨B0, 0, none⟩) (by show w.heap.size ≤ B0; omega) _).setCell (p := ⟨B0, 1, none⟩) (by show w.heap.size ≤ B0; omega) _
      have d1 := b1a.cell
      have d1f := b1a.frozen
      have d2 := (Boxed.other b2a (show B2 ≠ B1 by omega) (.int .i64 0)).cell
      have d2f := (Boxed.other b2a (show B2 ≠ B1 by omega) (.int .i64 0)).frozen
      obtain ⟨wf, HWF⟩ : ∃ z, Hid ((wa.setCell ⟨B1, 0, none⟩ (.int .i64 0)).setCell ⟨B2, 0, none⟩ (.int .i64 227) = z) := ⟨_, rfl⟩
      have HYE : Hid (Yx wf B0 24 [.int .i64 0, .slice none 0 0]) := by
        show Yx _ _ _ _
        rw [← HWF.out]
        exact (HYA.out.other (by omega)).other (by omega)
      have HB1' : Hid (Boxed wf B1 3 (.int .i64 0)) := by
        show Boxed _ _ _ _
        rw [← HWF.out]
        exact (b1a.set _).other (by omega) _
      have HB2' : Hid (Boxed wf B2 26 (.int .i64 227)) := by
        show Boxed _ _ _ _
        rw [← HWF.out]
        exact (b2a.other (by omega) _).set _
      have HBL : Hid (Below w.heap.size w wf) := by
        show Below _ _ _
        rw [← HWF.out]
        exact (hba.setCell (p := ⟨B1, 0, none⟩) (by show w.heap.size ≤ B1; omega) _).setCell (p := ⟨B2, 0, none⟩) (by show w.heap.size ≤ B2; omega) _
      have HSM : Hid (∀ k, W2.heap.size ≤ k → wf.heap[k]? = W.heap[k]?) := fun k hk => by
        rw [← HWF.out]
        exact ((Below.heap_setCell _ _ _ _ (by show k ≠ B2; omega)).trans (Below.heap_setCell _ _ _ _ (by show k ≠ B1; omega))).trans (hsa k (by omega))
      have HSZ : Hid (wf.heap.size = W.heap.size) := by
        show _ = _
        rw [← HWF.out, ← HWA.out]
        simp [World.setCell]
      have HD3 : Hid (wf.heap[D]? = some (.deferred (some []))) := (HSM.out D (by omega)).trans hK'
      have HWW : Hid ((((W.setCell ⟨B0, 0, none⟩ (.int .i64 0)).setCell ⟨B0, 1, none⟩ (.slice none 0 0)).setCell ⟨B1, 0, none⟩ (.int .i64 0)).setCell ⟨B2, 0, none⟩ (.int .i64 227) = wf) := by
        show _ = _
        rw [HWA.out]
        exact HWF.out
      rw [← HWA.out] at d1 d1f d2 d2f
      have HRES := hid hres
      clear hsa b1a b2a hba h0 h1 h2 hWB q1 q2 q3 e0 e1 hres hpa HFS
      gi_wp2
      rw [HWW.out]
      refine ⟨by simp, .inl ⟨_, _, rfl, run_takeDeferred HD3.out, ?_⟩⟩
      have BF := HBL.out.trans (belowK_b (w := w) (Nat.le_refl _) _ D _ (.deferred none) (by omega) HD3.out rfl rfl)
      have hgD := grownBy_putObj' wf D (.deferred none)
      have hrD : ∀ r, some D = some r → 0 ≤ r ∧ ∃ o : Obj, wf.heap[r]? = some o ∧ o.isCells = false := fun r er => by cases er; exact ⟨Nat.zero_le _, _, HD3.out, rfl⟩
      have hy := HYE.out.non hgD hrD
      have r0 := hy.cell 0
      have r0b := hy.cell 1
      simp only [List.getElem?_cons_succ, List.getElem?_cons_zero] at r0 r0b
      have r1 := (boxed_non HB1'.out hgD hrD).cell
      have r2 := (boxed_non HB2'.out hgD hrD).cell
      refine ⟨.tuple #[.agg #[.int .i64 0, .slice none 0 0], .int .i64 0, .int .i64 227], ?_, ?_, ?_⟩
      · simp [results, Tryz.f11, go_sem, r0, r0b, r1, r2]
      · rw [HRES.out]
        exact ⟨none, 0, rfl, ops_none _ _⟩
      · first
          | exact BF
          | (rw [← hB0]; exact BF)
    | some sc =>
      obtain ⟨rfl, hsec, hops⟩ := q6
      have hres : lnsv none 1 ls = (sc, 0, 0) := hpa
      obtain ⟨wa, HWA⟩ : ∃ z, Hid ((W.setCell ⟨B0, 0, none⟩ (.int .i64 sec)).setCell ⟨B0, 1, none⟩ (.slice va m vc) = z) := ⟨_, rfl⟩
      have HYA : Hid (Yx wa B0 24 [.int .i64 sec, .slice va m vc]) := by
        show Yx _ _ _ _
        rw [← HWA.out]
        exact (h0.set 0 (.int .i64 sec)).set 1 (.slice va m vc)
      have hsa : ∀ k, k ≠ B0 → wa.heap[k]? = W.heap[k]? := fun k hk => by
        rw [← HWA.out]
        exact (Below.heap_setCell _ _ _ _ (by show k ≠ B0; exact hk)).trans (Below.heap_setCell _ _ _ _ (by show k ≠ B0; exact hk))
      have b1a : Boxed wa B1 3 (.int .i64 0) := (hsa B1 (by omega)).trans h1
      have b2a : Boxed wa B2 26 (.int .i64 0) := (hsa B2 (by omega)).trans h2
      have hba : Below w.heap.size w wa := by
        rw [← HWA.out]
        exact (hWB.setCell (p := ⟨B0, 0, none⟩) (by show w.heap.size ≤ B0; omega) _).setCell (p := ⟨B0, 1, none⟩) (by show w.heap.size ≤ B0; omega) _
      have d1 := b1a.cell
      have d1f := b1a.frozen
      have d2 := (Boxed.other b2a (show B2 ≠ B1 by omega) (.int .i64 0)).cell
      have d2f := (Boxed.other b2a (show B2 ≠ B1 by omega) (.int .i64 0)).frozen
      obtain ⟨wf, HWF⟩ : ∃ z, Hid ((wa.setCell ⟨B1, 0, none⟩ (.int .i64 0)).setCell ⟨B2, 0, none⟩ (.int .i64 0) = z) := ⟨_, rfl⟩
      have HYE : Hid (Yx wf B0 24 [.int .i64 sec, .slice va m vc]) := by
        show Yx _ _ _ _
        rw [← HWF.out]
        exact (HYA.out.other (by omega)).other (by omega)
      have HB1' : Hid (Boxed wf B1 3 (.int .i64 0)) := by
        show Boxed _ _ _ _
        rw [← HWF.out]
        exact (b1a.set _).other (by omega) _
      have HB2' : Hid (Boxed wf B2 26 (.int .i64 0)) := by
        show Boxed _ _ _ _
        rw [← HWF.out]
        exact (b2a.other (by omega) _).set _
      have HBL : Hid (Below w.heap.size w wf) := by
        show Below _ _ _
        rw [← HWF.out]
        exact (hba.setCell (p := ⟨B1, 0, none⟩) (by show w.heap.size ≤ B1; omega) _).setCell (p := ⟨B2, 0, none⟩) (by show w.heap.size ≤ B2; omega) _
      have HSM : Hid (∀ k, W2.heap.size ≤ k → wf.heap[k]? = W.heap[k]?) := fun k hk => by
        rw [← HWF.out]
        exact ((Below.heap_setCell _ _ _ _ (by show k ≠ B2; omega)).trans (Below.heap_setCell _ _ _ _ (by show k ≠ B1; omega))).trans (hsa k (by omega))
      have HSZ : Hid (wf.heap.size = W.heap.size) := by
        show _ = _
        rw [← HWF.out, ← HWA.out]
        simp [World.setCell]
      have HD3 : Hid (wf.heap[D]? = some (.deferred (some []))) := (HSM.out D (by omega)).trans hK'
      have HWW : Hid ((((W.setCell ⟨B0, 0, none⟩ (.int .i64 sec)).setCell ⟨B0, 1, none⟩ (.slice va m vc)).setCell ⟨B1, 0, none⟩ (.int .i64 0)).setCell ⟨B2, 0, none⟩ (.int .i64 0) = wf) := by
        show _ = _
        rw [HWA.out]
        exact HWF.out
      rw [← HWA.out] at d1 d1f d2 d2f
      have HRES := hid hres
      have HOW : Hid (wf.ownsRow W2.heap.size 53 14 (.slice va m vc) m (orow os)) := own_at' q2 (fun g eg => HSM.out g (q2.lt g eg).1)
      have HVO : Hid (∀ x ∈ os, Vo wf (fun k => W2.heap.size ≤ k) x) := fun x hx => ((q3 x hx).step (fun k hk hV => HSM.out k hV.1) (by rw [HSZ.out]; exact Nat.le_refl _)).wide fun k _ hV => hV.1
      have HSEC := hid hsec
      have HOPS := hid hops
      clear hsa b1a b2a hba h0 h1 h2 hWB q1 q2 q3 hres hpa HFS hsec hops
      gi_wp2
      rw [HWW.out]
      refine ⟨by simp, .inl ⟨_, _, rfl, run_takeDeferred HD3.out, ?_⟩⟩
      have BF := HBL.out.trans (belowK_b (w := w) (Nat.le_refl _) _ D _ (.deferred none) (by omega) HD3.out rfl rfl)
      have hgD := grownBy_putObj' wf D (.deferred none)
      have hrD : ∀ r, some D = some r → 0 ≤ r ∧ ∃ o : Obj, wf.heap[r]? = some o ∧ o.isCells = false := fun r er => by cases er; exact ⟨Nat.zero_le _, _, HD3.out, rfl⟩
      have hy := HYE.out.non hgD hrD
      have r0 := hy.cell 0
      have r0b := hy.cell 1
      simp only [List.getElem?_cons_succ, List.getElem?_cons_zero] at r0 r0b
      have r1 := (boxed_non HB1'.out hgD hrD).cell
      have r2 := (boxed_non HB2'.out hgD hrD).cell
      refine ⟨.tuple #[.agg #[.int .i64 sec, .slice va m vc], .int .i64 0, .int .i64 0], ?_, ?_, ?_⟩
      · simp [results, Tryz.f11, go_sem, r0, r0b, r1, r2]
      · rw [HRES.out]
        have hl : sc.ops.length = m := by rw [← HOPS.out, List.length_map]; exact Hm.out
        refine ⟨va, vc, by simp only [hl, HSEC.out]; rfl, ?_⟩
        rw [hl, ← HOPS.out]
        exact ops_own (own_non HOW.out hgD hrD) Hm.out (by omega) (fun x hx => (HVO.out x hx).non hgD hrD) (fun k hk => by omega)
      · first
          | exact BF
          | (rw [← hB0]; exact BF)
  case stop =>
    subst hA
    rintro D cc pre W hD hpre ⟨rfl, pre0, x, s, k, rfl, HK, h0, h1, h2, bel⟩ hK'
    obtain ⟨post, hpost⟩ := hpre
    have hx : x = pre0.length ∧ pre0 = List.range pre0.length := by
      have h1 : (List.range ls.length).take (pre0.length + 1) = pre0 ++ [x] := by
        rw [← hpost, List.take_append_of_le_length (by simp)]
        exact List.take_of_length_le (by simp)
      have h2 : (List.range ls.length).take pre0.length = pre0 := by
        rw [← hpost, List.append_assoc, List.take_append_of_le_length (Nat.le_refl _)]
        exact List.take_length
      have hle : pre0.length + 1 ≤ ls.length := by
        have := congrArg List.length hpost
        simp at this
        omega
      rw [List.take_range, Nat.min_eq_left (by omega)] at h1 h2
      refine ⟨?_, h2.symm⟩
      rw [List.range_succ, h2] at h1
      have := List.append_cancel_left h1
      simpa using this.symm
    have hres : lnsv none 1 ls = (scr0, x + 1, k) := by
      have hmap := map_range_getD ls
      rw [← hpost] at hmap
      rw [← hmap, List.map_append, List.map_append, List.map_cons, List.map_nil, List.append_assoc]
      have := lnsv_err2 (pre0.map fun k => ls.getD k []) none s 1 (ls.getD x []) (post.map fun k => ls.getD k []) k HK.out.1 HK.out.2.1
      rw [List.length_map, ← hx.1] at this
      rw [show x + 1 = 1 + x by omega]
      exact this
    have BF := bel.trans (belowK_b (w := w) (Nat.le_refl _) _ D _ (.deferred none) (by omega) hK' rfl rfl)
    have hgD := grownBy_putObj' W D (.deferred none)
    have hrD : ∀ r, some D = some r → 0 ≤ r ∧ ∃ o : Obj, W.heap[r]? = some o ∧ o.isCells = false := fun r er => by cases er; exact ⟨Nat.zero_le _, _, hK', rfl⟩
    have hy := h0.non hgD hrD
    have r0 := hy.cell 0
    have r0b := hy.cell 1
    simp only [List.getElem?_cons_succ, List.getElem?_cons_zero] at r0 r0b
    have r1 := (boxed_non h1 hgD hrD).cell
    have r2 := (boxed_non h2 hgD hrD).cell
    have HRES := hid hres
    clear hres hx hpost h0 h1 h2
    gi_wp2
    refine ⟨by simp, .inl ⟨_, _, rfl, run_takeDeferred hK', ?_⟩⟩
    refine ⟨.tuple #[.agg #[.int .i64 0, .slice none 0 0], .int .i64 ((x : Int) + 1), .int .i64 (k : Nat)], ?_, ?_, ?_⟩
    · simp [results, Tryz.f11, go_sem, r0, r0b, r1, r2]
    · rw [HRES.out]
      exact ⟨none, 0, rfl, ops_none _ _⟩
    · first
        | exact BF
        | (rw [← hB0]; exact BF)
end Go.Proofs.YtkeogggeefnoeaaGreatDoor
