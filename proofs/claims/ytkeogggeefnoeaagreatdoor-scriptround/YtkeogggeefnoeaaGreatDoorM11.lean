import Derived.Test.YtkeogggeefnoeaaGreatDoorM7
namespace Go.Proofs.YtkeogggeefnoeaaGreatDoor
set_option linter.unusedSimpArgs false
open Go.RowKit
set_option linter.unusedVariables false
set_option maxRecDepth 100000

/-! The tables in their variables. -/
def nmV (l : List (List Nat × List Nat)) : List Value := l.flatMap fun e => [.string (sb e.1), .string (sb e.2)]
structure Tq (w : World) : Prop where
  tb : Tb w
  ch : w.var? Tryz.prog "culvert/script.changes" = some (nmV cNm).toArray
  st : w.var? Tryz.prog "culvert/script.steps" = some (nmV sNm).toArray
  fl : w.var? Tryz.prog "culvert/script.faults" = some (fNm.map fun n => Value.string (sb n)).toArray
theorem Tq.kept {w w' : World} (h : Tq w) (hb : Below w.heap.size w w') : Tq w' := ⟨h.tb.kept hb, var_kept h.ch hb, var_kept h.st hb, var_kept h.fl hb⟩
theorem gCh : Tryz.prog.globalNamed "culvert/script.changes" = some 4 := by kernel_rfl
theorem gSt : Tryz.prog.globalNamed "culvert/script.steps" = some 0 := by kernel_rfl
theorem gFl : Tryz.prog.globalNamed "culvert/script.faults" = some 1 := by kernel_rfl
theorem nmV_at (l : List (List Nat × List Nat)) : ∀ k, k < l.length → (nmV l)[k * 2]? = some (.string (sb (l.getD k ([], [])).1)) ∧ (nmV l)[k * 2 + 1]? = some (.string (sb (l.getD k ([], [])).2)) := by
  induction l with
  | nil => intro k hk; simp at hk
  | cons e l ih =>
    intro k hk
    cases k with
    | zero => exact ⟨rfl, rfl⟩
    | succ k =>
      have := ih k (by simpa using hk)
      have e2 : nmV (e :: l) = .string (sb e.1) :: .string (sb e.2) :: nmV l := rfl
      rw [e2, show (k + 1) * 2 = k * 2 + 1 + 1 by omega]
      exact this
theorem Tq.chAt {w : World} (h : Tq w) {k : Nat} (hk : k < 6) : w.cell? ⟨4, k * 2, none⟩ = some (.string (sb (cNm.getD k ([], [])).1)) ∧ w.cell? ⟨4, k * 2 + 1, none⟩ = some (.string (sb (cNm.getD k ([], [])).2)) := by
  have h1 := World.var?_cell gCh h.ch (k * 2)
  have h2 := World.var?_cell gCh h.ch (k * 2 + 1)
  have := nmV_at cNm k hk
  simp only [List.getElem?_toArray] at h1 h2
  exact ⟨h1.trans this.1, h2.trans this.2⟩
theorem Tq.stAt {w : World} (h : Tq w) {k : Nat} (hk : k < 15) : w.cell? ⟨0, k * 2, none⟩ = some (.string (sb (sNm.getD k ([], [])).1)) ∧ w.cell? ⟨0, k * 2 + 1, none⟩ = some (.string (sb (sNm.getD k ([], [])).2)) := by
  have h1 := World.var?_cell gSt h.st (k * 2)
  have h2 := World.var?_cell gSt h.st (k * 2 + 1)
  have := nmV_at sNm k hk
  simp only [List.getElem?_toArray] at h1 h2
  exact ⟨h1.trans this.1, h2.trans this.2⟩
theorem catR_take {α : Type} {f : α → R (List (List Nat))} : ∀ (l : List α) (j : Nat) (ws : List (List Nat)) (hj : j < l.length), catR f (l.take j) = .ok ws → (∀ y, f l[j] = .ok y → catR f (l.take (j + 1)) = .ok (ws ++ y)) ∧ (∀ e, f l[j] = .error e → catR f l = .error e)
  | [], j, ws, hj, h => by simp at hj
  | x :: l, 0, ws, hj, h => by
    cases h
    refine ⟨fun y hy => ?_, fun e he => ?_⟩
    · show catR f [x] = _
      have hy : f x = .ok y := hy
      rw [catR, hy]
      simp [catR]
    · have he : f x = .error e := he
      rw [catR, he]
  | x :: l, j + 1, ws, hj, h => by
    obtain ⟨y0, r, h1, h2, rfl⟩ := catR_one (show catR f (x :: l.take j) = .ok ws from h)
    obtain ⟨i1, i2⟩ := catR_take l j r (by simpa using hj) h2
    refine ⟨fun y hy => ?_, fun e he => ?_⟩
    · have := i1 y hy
      show catR f (x :: l.take (j + 1)) = _
      rw [catR, h1, this]
      simp
    · have := i2 e he
      rw [catR, h1, this]
/-- A form in a variable. -/
def Fo (w : World) (g : Nat) (nm fs : List Nat) : Prop := w.heap[g]? = some (.cells #[.string (sb nm), .string (sb fs)] 77 (0, 0))
theorem Fo.c0 {w : World} {g : Nat} {nm fs : List Nat} (h : Fo w g nm fs) : w.cell? ⟨g, 0, none⟩ = some (.string (sb nm)) := (cell_of_row _ _ 0 _ _ (0, 0) h).trans rfl
theorem Fo.c1 {w : World} {g : Nat} {nm fs : List Nat} (h : Fo w g nm fs) : w.cell? ⟨g, 1, none⟩ = some (.string (sb fs)) := (cell_of_row _ _ 1 _ _ (0, 0) h).trans rfl
theorem Fo.on {w w' : World} {g : Nat} {nm fs : List Nat} (h : Fo w g nm fs) (hb : Below w.heap.size w w') : Fo w' g nm fs := (hb.block g (Array.getElem?_eq_some_iff.1 h).1).trans h
/-- What stands beside the page: one block more. -/
def Km (Kk : Nat → Obj → Prop) (i : Nat) (B : Obj) : Nat → Obj → Prop := fun j b => Kk j b ∨ (j = i ∧ b = B)
section
variable {Kk : Nat → Obj → Prop} {w0 w : World} {g i : Nat} {B : Obj} {T : List Nat}
theorem Pg.more (h : Pg Kk w0 w g T) (hi : w.heap[i]? = some B) (hg : i ≠ g) (hB : ∀ vs, B ≠ Obj.cells vs 5) : Pg (Km Kk i B) w0 w g T :=
  ⟨h.blk, h.lo, h.bel, h.byt, fun j b hj => hj.elim (h.kp j b) fun e => by obtain ⟨rfl, rfl⟩ := e; exact ⟨hi, hg, hB⟩⟩
theorem Pg.less (h : Pg (Km Kk i B) w0 w g T) : Pg Kk w0 w g T := ⟨h.blk, h.lo, h.bel, h.byt, fun j b hj => h.kp j b (.inl hj)⟩
theorem Pg.get (h : Pg (Km Kk i B) w0 w g T) : w.heap[i]? = some B := (h.kp i B (.inr ⟨rfl, rfl⟩)).1
theorem Pg.lt (h : Pg Kk w0 w g T) : g < w.heap.size := by
  obtain ⟨v, h1, _⟩ := h.blk
  exact (Array.getElem?_eq_some_iff.1 h1).1
theorem Pg.iter (h : Pg Kk w0 w g T) {S : ByteArray} {j : Nat} (hi : It w i S j) (hlo : w0.heap.size ≤ i) (hK : ∀ j b, Kk j b → j ≠ i) (j' : Nat) : Pg Kk w0 (w.iterAt i S j') g T := by
  obtain ⟨v, h1, h2⟩ := h.blk
  have hg : g ≠ i := fun e => by
    subst e
    have : w.heap[g]? = _ := hi
    rw [h1] at this
    simp at this
  have hv : v.ownBlock ≠ some i := fun e => by
    rcases h2.2 with ⟨e1, _⟩ | ⟨g', cap, cur, e1, _, hg', _⟩
    · rw [e1] at e; simp [Value.ownBlock] at e
    · rw [e1] at e
      obtain rfl : g' = i := by simpa [Value.ownBlock] using e
      have : w.heap[g']? = _ := hi
      rw [hg'] at this
      simp at this
  exact ⟨⟨v, (Lib.iterAt_other w i g S j' hg).trans h1, h2.kept (row := some i) ⟨rfl, rfl, rfl, by simp [World.iterAt], fun k hk hne => Lib.iterAt_other w i k S j' (fun e => hne (by rw [e]))⟩ (.inr hv)⟩, h.lo, Lib.below_iterAt h.bel hlo S j', h.byt, fun k b hb => by
    obtain ⟨a, b1, c⟩ := h.kp k b hb
    exact ⟨(Lib.iterAt_other w i k S j' (hK k b hb)).trans a, b1, c⟩⟩
end
/-- What a call that writes a line's words leaves. -/
def Pj (Kk : Nat → Obj → Prop) (w0 : World) (g : Nat) (T : List Nat) (r : R (List (List Nat))) (e : Ending) (w' : World) : Prop :=
  match r with
  | .ok ws => e = .returned (.int .i64 0) ∧ Pg Kk w0 w' g (T ++ jsp ws)
  | .error x => e = .returned (.int .i64 (x : Nat)) ∧ x ≠ 0 ∧ Below w0.heap.size w0 w'
section
variable {Kk : Nat → Obj → Prop} {w0 w : World} {g : Nat} {T : List Nat} {V : Nat → Prop}
set_option maxHeartbeats 4000000 in
theorem change_ (h : Pg Kk w0 w g T) (hq : Tq w0) (x : CD) (hx : InC x.c) (hv : Vc w0 V x) (hl : x.c.key.length ≤ 140737488355328) :
    Calls Tryz.prog 82 #[.pointer (some ⟨g, 0, none⟩), cdv x] w fun e w' => Pj Kk w0 g T (chgW x.c) e w' := by
  have HP0 := hid h
  have HC := hid (Cv.new w x)
  have HB := hid ((Below.refl w.heap.size w).alloc (Nat.le_refl _) (.cells #[.int .i64 x.c.kd, .int .i64 x.c.lk, .int .i64 x.c.sd, .slice x.a x.c.key.length x.p, .int .i64 x.c.f, .int .u64 x.c.h, .int .u64 x.c.l, .int .i64 x.c.b] 70))
  have HP := hid (h.on HB.out)
  obtain ⟨w1, HW1⟩ : ∃ z, Hid (w.alloc (.cells #[.int .i64 x.c.kd, .int .i64 x.c.lk, .int .i64 x.c.sd, .slice x.a x.c.key.length x.p, .int .i64 x.c.f, .int .u64 x.c.h, .int .u64 x.c.l, .int .i64 x.c.b] 70) = z) := ⟨_, rfl⟩
  obtain ⟨cg, HCG⟩ : ∃ z, Hid (w.heap.size = z) := ⟨_, rfl⟩
  rw [HW1.out] at HC HB HP
  rw [HCG.out] at HC
  have v0 := HC.out.c 0
  simp only [cdc, List.getElem?_cons_zero] at v0
  obtain ⟨kd, HKD⟩ : ∃ z, Hid (x.c.kd = z) := ⟨_, rfl⟩
  have HX := hid hx
  have HVX := hid hv
  have HL := hid hl
  have HQ := hid hq
  unfold cdv
  rw [HKD.out] at v0 HW1 ⊢
  clear h hx hv hl hq
  by_cases hk : 1 ≤ kd ∧ kd ≤ 5
  · obtain ⟨k, rfl⟩ : ∃ k : Nat, kd = (k : Int) := ⟨kd.toNat, by omega⟩
    have hk6 : k < 6 := by omega
    have h1 : ¬ (k : Int) < 1 := by omega
    have h2 : ¬ (6 : Int) ≤ (k : Int) := by omega
    have h3 : (k : Int) < 6 := by omega
    have HTQ := hid (HQ.out.kept HP.out.bel)
    obtain ⟨t1, t2⟩ := HTQ.out.chAt hk6
    have HK5 : Hid (k ≠ 0 ∧ k ≤ 5) := ⟨by omega, by omega⟩
    obtain ⟨nm, HNM⟩ : ∃ z, Hid ((cNm.getD k ([], [])).1 = z) := ⟨_, rfl⟩
    obtain ⟨fs, HFS⟩ : ∃ z, Hid ((cNm.getD k ([], [])).2 = z) := ⟨_, rfl⟩
    rw [HNM.out] at t1
    rw [HFS.out] at t2
    have hr : chgW x.c = if cSpr x.c fs then .error 228 else match catR (cTx x.c) fs with
        | .error e => .error e
        | .ok ws => .ok (nm :: ws) := by
      unfold chgW cFm
      rw [HKD.out, if_pos hk, Int.toNat_natCast, HNM.out, HFS.out]
      split
      · rfl
      · cases catR (cTx x.c) fs <;> rfl
    have HFL : Hid (∀ f ∈ fs, cLet f) := by
      rw [← HFS.out]
      exact (cFm_let HK5.out.1 HK5.out.2).2
    obtain ⟨r, HR⟩ : ∃ z, Hid (chgW x.c = z) := ⟨_, rfl⟩
    rw [HR.out] at hr ⊢
    have HRE := hid hr
    have v1 := HC.out.c 1
    have v2 := HC.out.c 2
    have v3 := HC.out.c 3
    have v4 := HC.out.c 4
    have v5 := HC.out.c 5
    have v6 := HC.out.c 6
    have v7 := HC.out.c 7
    simp only [cdc, List.getElem?_cons_succ, List.getElem?_cons_zero] at v1 v2 v3 v4 v5 v6 v7
    clear hr hk hk6
    go_enter Tryz.func82, Tryz.ntmps82
    go_upto_region 1 with fail
    rw [HW1.out, HCG.out]
    have HF2 : Hid (Fo (w1.alloc (.cells #[.string (sb nm), .string (sb fs)] 77)) w1.heap.size nm fs) := heap_alloc_new w1 _
    have HB2 : Hid (Below w1.heap.size w1 (w1.alloc (.cells #[.string (sb nm), .string (sb fs)] 77))) := (Below.refl _ _).alloc (Nat.le_refl _) _
    have HP2 := hid (HP.out.on HB2.out)
    have HC2 := hid (HC.out.on HB2.out)
    go_upto_region 4 with fail
    obtain ⟨w2, HW2⟩ : ∃ z, Hid (w1.alloc (.cells #[.string (sb nm), .string (sb fs)] 77) = z) := ⟨_, rfl⟩
    obtain ⟨fg, HFG⟩ : ∃ z, Hid (w1.heap.size = z) := ⟨_, rfl⟩
    rw [HW2.out] at HF2 HB2 HP2 HC2 ⊢
    rw [HFG.out] at HF2 ⊢
    have u0 := HC2.out.c 0
    have u1 := HC2.out.c 1
    have u2 := HC2.out.c 2
    have u3 := HC2.out.c 3
    have u4 := HC2.out.c 4
    have u5 := HC2.out.c 5
    have u6 := HC2.out.c 6
    have u7 := HC2.out.c 7
    simp only [cdc, List.getElem?_cons_succ, List.getElem?_cons_zero, HKD.out] at u0 u1 u2 u3 u4 u5 u6 u7
    have n0 := HF2.out.c0
    have n1 := HF2.out.c1
    have hfs : ∀ y ∈ fs, y < 256 := fun y hy => by
      have := HFL.out y hy
      unfold cLet at this
      omega
    have hnm : (∀ y ∈ nm, y < 256) ∧ nm.length ≤ 10 := by
      rw [← HNM.out]
      rcases (show k = 1 ∨ k = 2 ∨ k = 3 ∨ k = 4 ∨ k = 5 by have := HK5.out; omega) with rfl | rfl | rfl | rfl | rfl <;> exact ⟨by decide, by decide⟩
    have HCG1 : Hid (cg < w1.heap.size) := (Array.getElem?_eq_some_iff.1 HC.out).1
    have HGL : Hid (g < cg) := by
      have e := (show Pg Kk w0 w g T from HP0.out).lt
      show g < cg
      rw [← HCG.out]; exact e
    have HP3 : Hid (Pg (Km (Km Kk cg (.cells #[.int .i64 x.c.kd, .int .i64 x.c.lk, .int .i64 x.c.sd, .slice x.a x.c.key.length x.p, .int .i64 x.c.f, .int .u64 x.c.h, .int .u64 x.c.l, .int .i64 x.c.b] 70)) fg (.cells #[.string (sb nm), .string (sb fs)] 77)) w0 w2 g T) := (HP2.out.more HC2.out (by have := HGL.out; omega) (fun vs e => by simp at e)).more HF2.out (by have := HGL.out; have := HCG1.out; have := HFG.out; omega) (fun vs e => by simp at e)
    obtain ⟨K2, HK2⟩ : ∃ z, Hid (Km (Km Kk cg (.cells #[.int .i64 x.c.kd, .int .i64 x.c.lk, .int .i64 x.c.sd, .slice x.a x.c.key.length x.p, .int .i64 x.c.f, .int .u64 x.c.h, .int .u64 x.c.l, .int .i64 x.c.b] 70)) fg (.cells #[.string (sb nm), .string (sb fs)] 77) = z) := ⟨_, rfl⟩
    rw [HK2.out] at HP3
    have HKC : Hid (∀ wx T', Pg K2 w0 wx g T' → Cv wx cg x) := by
      show ∀ wx T', _
      rw [← HK2.out]
      exact fun wx T' h => h.less.get
    have HKF : Hid (∀ wx T', Pg K2 w0 wx g T' → Fo wx fg nm fs) := by
      show ∀ wx T', _
      rw [← HK2.out]
      exact fun wx T' h => h.get
    have HKL : Hid (∀ wx T', Pg K2 w0 wx g T' → Pg Kk w0 wx g T') := by
      show ∀ wx T', _
      rw [← HK2.out]
      exact fun wx T' h => h.less.less
    have HSP := hid (changeSpare_ x fs hfs w2)
    have HAD : Hid (∀ wx, Below w2.heap.size w2 wx → Calls Tryz.prog 16 #[.pointer (some ⟨g, 0, none⟩), .string (sb nm)] wx fun e w' => e = .returned (.tuple #[]) ∧ Pg K2 w0 w' g (T ++ nm)) := fun wx hb => add_ (HP3.out.on hb) nm hnm.1 (by have := hnm.2; unfold maxLen; omega)
    have HCF : Hid (∀ K3 wx T' f, Pg K3 w0 wx g T' → cLet f → Calls Tryz.prog 105 #[.pointer (some ⟨g, 0, none⟩), cdv x, .int .i32 (f : Int)] wx fun e w' => Pw K3 w0 g T' (cTx x.c f) e w') := fun K3 wx T' f h hf => changeField_ h HQ.out.tb x HX.out HVX.out HL.out f hf
    have k1 := HSP.out
    unfold cdv at k1 HCF
    rw [HKD.out] at k1 HCF
    have HNL := hid (next_low fs hfs)
    have HNE := hid (next_end fs)
    have HF128 : Hid (∀ j, j < fs.length → cLet (fs.getD j 0) ∧ fs.getD j 0 < 128) := fun j hj => by
      have e : cLet (fs.getD j 0) := HFL.out _ (by simp [List.getD, hj])
      refine ⟨e, ?_⟩
      unfold cLet at e
      omega
    clear v0 v1 v2 v3 v4 v5 v6 v7 t1 t2 hfs hnm
    cases hs : cSpr x.c fs
    · rw [hs] at k1
      have HRE2 : Hid (r = match catR (cTx x.c) fs with
        | .error e => .error e
        | .ok ws => .ok (nm :: ws)) := by
        show r = _
        rw [HRE.out, hs]
        rfl
      clear hs
      go_wp2_with fail
      refine k1.mono ?_
      rintro e w3 ⟨rfl, g3⟩
      have HP4 := hid (HP3.out.on g3)
      have k2 := HAD.out w3 g3
      have m0 := (HKF.out _ _ HP4.out).c0
      clear k1 g3 u0 u1 u2 u3 u4 u5 u6 u7 n0 n1
      go_wp2_with fail
      refine k2.mono ?_
      rintro e w4 ⟨rfl, g4⟩
      have HP5 := hid g4
      have m1 := (HKF.out _ _ g4).c1
      clear k2 g4 m0
      go_wp2_with fail
      obtain ⟨ig, HIG⟩ : ∃ z, Hid (w4.heap.size = z) := ⟨_, rfl⟩
      obtain ⟨Sx, HS⟩ : ∃ z, Hid (sb fs = z) := ⟨_, rfl⟩
      rw [HS.out] at HNL HNE m1 ⊢
      have HI0 : Hid (It (w4.iter Sx 0) w4.heap.size Sx 0) := heap_alloc_new w4 _
      have HP6 : Hid (Pg K2 w0 (w4.iter Sx 0) g (T ++ nm)) := (HP5.out.on ((Below.refl w4.heap.size w4).alloc (Nat.le_refl _) (.stringIter Sx 0)))
      have HKI : Hid (∀ j b, K2 j b → j ≠ ig) := fun j b hj e => by
        have := (Array.getElem?_eq_some_iff.1 (HP5.out.kp j b hj).1).1
        have := HIG.out
        omega
      have HLO : Hid (w0.heap.size ≤ ig ∧ g < ig) := by
        have e1 := HP5.out.lt
        have e2 := HP5.out.lo
        have := HIG.out
        exact ⟨by omega, by omega⟩
      rw [HIG.out] at HI0 ⊢
      generalize w4.iter Sx 0 = w5 at *
      clear m1
      obtain ⟨q, HQF⟩ : ∃ z, Hid (fs.length = z) := ⟨_, rfl⟩
      go_loopw [7, 8] (fun u u' wr => ∃ j : Nat, j ≤ q ∧ ∃ ws, Hid (catR (cTx x.c) (fs.take j) = .ok ws) ∧ Hid (It wr ig Sx j) ∧ Hid (Pg K2 w0 wr g (T ++ nm ++ spw ws))) (fun u u' wr => q - wr.iterPos ig)
      case atStart => exact ⟨0, by omega, [], rfl, HI0, by show Pg _ _ _ _ _; simpa [spw] using HP6.out⟩
      case round =>
        obtain ⟨j, hj, ws, HA, HI, HV⟩ := hrel
        by_cases hlt : j < q
        · have hlf : j < fs.length := by rw [HQF.out]; exact hlt
          obtain ⟨f, HF⟩ : ∃ z, Hid (fs.getD j 0 = z) := ⟨_, rfl⟩
          have HFL2 := hid (HF128.out j hlf)
          have hnx := HNL.out j hlf wr _ HI.out HFL2.out.2
          rw [HF.out] at hnx HFL2
          have hit2 : It (wr.iterAt ig Sx (j + 1)) ig Sx (j + 1) := Lib.iterAt_heap wr _ Sx j (j + 1) HI.out
          have HV2 := hid (HV.out.iter HI.out HLO.out.1 HKI.out (j + 1))
          have HP1 := hid HI.out.pos
          have HI2 := hid hit2
          have HCT := hid (catR_take fs j ws hlf HA.out)
          have hgd : fs[j] = f := by rw [← HF.out]; simp [List.getD, hlf]
          rw [hgd] at HCT
          generalize wr.iterAt ig Sx (j + 1) = w6 at *
          have HV3 := hid (HV2.out.more HI2.out (by have := HLO.out.2; omega) (fun vs e => by simp at e))
          have k2 := HCF.out _ w6 _ f HV3.out HFL2.out.1
          have HCV := hid (HKC.out _ _ HV2.out)
          have u0 := HCV.out.c 0
          have u1 := HCV.out.c 1
          have u2 := HCV.out.c 2
          have u3 := HCV.out.c 3
          have u4 := HCV.out.c 4
          have u5 := HCV.out.c 5
          have u6 := HCV.out.c 6
          have u7 := HCV.out.c 7
          simp only [cdc, List.getElem?_cons_succ, List.getElem?_cons_zero, HKD.out] at u0 u1 u2 u3 u4 u5 u6 u7
          obtain ⟨r2, HR2⟩ : ∃ z, Hid (cTx x.c f = z) := ⟨_, rfl⟩
          rw [HR2.out] at k2 HCT
          clear hit2 HI HV HV2 hgd hlf
          go_wp2_with fail
          refine k2.mono ?_
          intro e w7 h7
          cases r2 with
          | ok y =>
            obtain ⟨rfl, h7⟩ := h7
            have HI4 := hid h7.get
            have HV4 := hid h7.less
            clear k2 h7 u0 u1 u2 u3 u4 u5 u6 u7 hnx
            go_wp2_with fail
            go_roundw
            case rel => exact ⟨j + 1, by omega, ws ++ y, HCT.out.1 y rfl, HI4, by show Pg _ _ _ _ _; rw [spw_app, ← List.append_assoc]; exact HV4.out⟩
            case measure => rw [(show It w7 ig Sx (j + 1) from HI4.out).pos, HP1.out]; omega
          | error y =>
            obtain ⟨rfl, hy, h7⟩ := h7
            have H7 := hid h7
            have HY := hid hy
            have h1 : ¬ (y : Int) = 0 := by omega
            have h2 : ((y : Int) == 0) = false := by simp [hy]
            have hr2 : r = .error y := by rw [HRE2.out, HCT.out.2 y rfl]
            have HRR := hid hr2
            clear k2 h7 hr2 u0 u1 u2 u3 u4 u5 u6 u7 hnx
            go_wp2_with fail
            go_ret
            show Pj _ _ _ _ _ _ _
            rw [HRR.out]
            exact ⟨rfl, HY.out, H7.out⟩
        · obtain rfl : j = q := by omega
          have hq := HQF.out
          have hie : It wr ig Sx fs.length := by rw [hq]; exact HI.out
          have hnx := HNE.out wr _ hie
          have hca : catR (cTx x.c) fs = .ok ws := by
            have := HA.out
            rw [← hq, List.take_length] at this
            exact this
          have HRR : Hid (r = .ok (nm :: ws)) := by show r = _; rw [HRE2.out, hca]
          clear hq hie hca HA HI
          go_wp2_with fail
          go_ret
          show Pj _ _ _ _ _ _ _
          rw [HRR.out]
          exact ⟨rfl, by rw [show jsp (nm :: ws) = nm ++ spw ws from rfl, ← List.append_assoc]; exact HKL.out _ _ HV.out⟩
    · rw [hs] at k1
      have HRR : Hid (r = .error 228) := by show r = _; rw [HRE.out, hs]; rfl
      clear hs
      go_wp2_with fail
      refine k1.mono ?_
      rintro e w3 ⟨rfl, g3⟩
      have HP4 := hid (HP2.out.on g3)
      clear k1 g3 u0 u1 u2 u3 u4 u5 u6 u7 n0 n1
      go_wp2_with fail
      go_ret
      show Pj _ _ _ _ _ _ _
      rw [HRR.out]
      exact ⟨rfl, by decide, HP4.out.bel⟩
  · have hr : chgW x.c = .error 222 := by unfold chgW; rw [HKD.out, if_neg hk]
    rw [hr]
    have h2 : kd < 1 ∨ (¬ kd < 1 ∧ (6 : Int) ≤ kd) := by omega
    clear hr hk
    rcases h2 with h2 | ⟨h2, h3⟩
    all_goals
      go_enter Tryz.func82, Tryz.ntmps82
      go_upto_region 1 with fail
      rw [HW1.out, HCG.out]
      go_wp2_with fail
      go_ret
      exact ⟨rfl, by decide, HP.out.bel⟩
end
end Go.Proofs.YtkeogggeefnoeaaGreatDoor
namespace Go.Proofs.YtkeogggeefnoeaaGreatDoor
set_option linter.unusedSimpArgs false
open Go.RowKit
set_option linter.unusedVariables false
set_option maxRecDepth 100000

/-! Writing: faults. -/
def fl1 (x : Int × Int) : R (List (List Nat)) :=
  if 1 ≤ x.2 ∧ x.2 ≤ 2 then match nTx x.1 with
    | .error e => .error e
    | .ok n => .ok (fNm.getD x.2.toNat [] :: n)
  else .error 222
theorem fltW_cat : ∀ l : List (Int × Int), fltW l = catR fl1 l
  | [] => rfl
  | (at', kd) :: l => by
    rw [fltW, catR, fltW_cat l]
    unfold fl1
    by_cases hk : 1 ≤ kd ∧ kd ≤ 2
    · simp only [if_pos hk]
      cases nTx at' with
      | error e => rfl
      | ok n => cases catR fl1 l <;> rfl
    · simp only [if_neg hk]
theorem Tq.flAt {w : World} (h : Tq w) {k : Nat} (h1 : k ≠ 0) (hk : k ≤ 2) : w.cell? ⟨1, k, none⟩ = some (.string (sb (fNm.getD k []))) := by
  have e := World.var?_cell gFl h.fl k
  rcases (show k = 1 ∨ k = 2 by omega) with rfl | rfl <;> exact e
section
variable {Kk : Nat → Obj → Prop} {w0 w : World} {g : Nat} {T : List Nat} {V : Nat → Prop}
set_option maxHeartbeats 4000000 in
theorem faults_ (h : Pg Kk w0 w g T) (hq : Tq w0) {a : Option Addr} {n p : Nat} {l : List (Int × Int)} (hl : Fts w0 V a n l) (hin : ∀ x ∈ l, InI x.1 ∧ InI x.2) (hn : n ≤ 140737488355328) :
    Calls Tryz.prog 42 #[.pointer (some ⟨g, 0, none⟩), .slice a n p] w fun e w' => Pw Kk w0 g T (fltW l) e w' := by
  rw [fltW_cat]
  obtain ⟨r, HR⟩ : ∃ z, Hid (catR fl1 l = z) := ⟨_, rfl⟩
  rw [HR.out]
  have HP := hid h
  have HQ := hid hq
  have HL := hid hl
  have HIN := hid hin
  have HN : Hid (l.length = n) := hl.1
  clear h hq hl hin
  go_enter Tryz.func42, Tryz.ntmps42
  go_wp2_with fail
  go_loopw [10] (fun i wr => ∃ j : Nat, j ≤ n ∧ i = .int .i64 j ∧ ∃ ws, Hid (catR fl1 (l.take j) = .ok ws) ∧ Hid (Pg Kk w0 wr g (T ++ spw ws))) (fun i wr => n - (intOf i).toNat)
  case atStart => exact ⟨0, by omega, rfl, [], rfl, by show Pg _ _ _ _ _; simpa [spw] using HP.out⟩
  case round =>
    obtain ⟨j, hj, rfl, ws, HA, HV⟩ := hrel
    by_cases hlt : j < n
    · have hjI : (j : Int) < n := by omega
      have hst := HL.out.2.step (w' := wr) (fun k hk _ => HV.out.bel.block k hk) HV.out.bel.size
      obtain ⟨b, off, rfl, hc⟩ := hst.at hlt
      have hlf : j < l.length := by rw [HN.out]; exact hlt
      obtain ⟨x, HX⟩ : ∃ z, Hid (l.getD j (0, 0) = z) := ⟨_, rfl⟩
      have c0 := hc 0 (.int .i64 (l.getD j (0, 0)).1) rfl
      have c1 := hc 1 (.int .i64 (l.getD j (0, 0)).2) rfl
      rw [HX.out] at c0 c1
      obtain ⟨at', kd⟩ := x
      simp only [Nat.add_zero] at c0 c1
      have HCT := hid (catR_take (f := fl1) l j ws hlf HA.out)
      have hgd : l[j] = (at', kd) := by rw [← HX.out]; simp [List.getD, hlf]
      rw [hgd] at HCT
      have HII : Hid (InI at' ∧ InI kd) := by
        have := HIN.out l[j] (List.getElem_mem hlf)
        rw [hgd] at this
        exact this
      clear hc hst hgd hlf
      have HB2 : Hid (Below wr.heap.size wr (wr.alloc (.cells #[.int .i64 at', .int .i64 kd] 72))) := (Below.refl _ _).alloc (Nat.le_refl _) _
      have HF2 : Hid ((wr.alloc (.cells #[.int .i64 at', .int .i64 kd] 72)).heap[wr.heap.size]? = some (.cells #[.int .i64 at', .int .i64 kd] 72)) := heap_alloc_new wr _
      have HV2 := hid (HV.out.on HB2.out)
      have HGL := hid HV.out.lt
      by_cases hk : 1 ≤ kd ∧ kd ≤ 2
      · obtain ⟨k, rfl⟩ : ∃ k : Nat, kd = (k : Int) := ⟨kd.toNat, by omega⟩
        have h1 : ¬ (k : Int) < 1 := by omega
        have h2 : ¬ (3 : Int) ≤ (k : Int) := by omega
        have h3 : (k : Int) < 3 := by omega
        have hk0 : k ≠ 0 := by omega
        have hk2 : k ≤ 2 := by omega
        obtain ⟨nm, HNM⟩ : ∃ z, Hid (fNm.getD k [] = z) := ⟨_, rfl⟩
        have hnm : (∀ y ∈ nm, y < 256) ∧ nm.length ≤ 10 := by
          rw [← HNM.out]
          rcases (show k = 1 ∨ k = 2 by omega) with rfl | rfl <;> exact ⟨by decide, by decide⟩
        have HTA : Hid (∀ wx, Below w0.heap.size w0 wx → wx.cell? ⟨1, k, none⟩ = some (.string (sb nm))) := fun wx hb => by
          rw [← HNM.out]
          exact (HQ.out.kept hb).flAt hk0 hk2
        have HFE : Hid (fl1 (at', (k : Int)) = match nTx at' with
            | .error e => .error e
            | .ok y => .ok (nm :: y)) := by
          show fl1 _ = _
          unfold fl1
          rw [if_pos hk]
          simp only [Int.toNat_natCast, HNM.out]
        clear hk hk0 hk2
        go_upto_region 4 with fail
        obtain ⟨fg, HFG⟩ : ∃ z, Hid (wr.heap.size = z) := ⟨_, rfl⟩
        generalize wr.alloc (.cells #[.int .i64 at', .int .i64 (k : Int)] 72) = w6 at *
        rw [HFG.out] at HF2 HB2 ⊢
        have HV3 := hid (HV2.out.more HF2.out (by have := HGL.out; have := HFG.out; omega) (fun vs e => by simp at e))
        have m1 : w6.cell? ⟨fg, 1, none⟩ = some (.int .i64 (k : Int)) := (cell_of_row _ _ 1 _ _ (0, 0) HF2.out).trans rfl
        have t1 := HTA.out w6 HV2.out.bel
        have k1 := word_ HV3.out nm hnm.1 (by have := hnm.2; unfold maxLen; omega)
        clear c0 c1 hnm
        go_wp2_with fail
        refine k1.mono ?_
        rintro e w7 ⟨rfl, h7⟩
        have H7 := hid h7
        have m0 : w7.cell? ⟨fg, 0, none⟩ = some (.int .i64 at') := (cell_of_row _ _ 0 _ _ (0, 0) h7.get).trans rfl
        have k2 := number_ h7 HQ.out.tb at' HII.out.1
        obtain ⟨r2, HR2⟩ : ∃ z, Hid (nTx at' = z) := ⟨_, rfl⟩
        rw [HR2.out] at k2 HFE
        clear k1 h7 m1 t1
        go_wp2_with fail
        refine k2.mono ?_
        intro e w8 h8
        cases r2 with
        | ok y =>
          obtain ⟨rfl, h8⟩ := h8
          have H8 := hid h8.less
          clear k2 h8 m0
          go_wp2_with fail
          go_roundw
          case rel => exact ⟨j + 1, by omega, by go_num, ws ++ (nm :: y), HCT.out.1 _ HFE.out, by show Pg _ _ _ _ _; rw [spw_app, ← List.append_assoc, show spw (nm :: y) = (32 :: nm) ++ spw y from rfl, ← List.append_assoc]; exact H8.out⟩
          case measure => simp [intOf]; omega
        | error y =>
          obtain ⟨rfl, hy, h8⟩ := h8
          have H8 := hid h8
          have HY := hid hy
          have h4 : ¬ (y : Int) = 0 := by omega
          have h5 : ((y : Int) == 0) = false := by simp [hy]
          have HRR : Hid (r = .error y) := by show r = _; rw [← HR.out]; exact HCT.out.2 y HFE.out
          clear k2 h8 m0
          go_wp2_with fail
          go_ret
          show Pw _ _ _ _ _ _ _
          rw [HRR.out]
          exact ⟨rfl, HY.out, H8.out⟩
      · have HRR : Hid (r = .error 222) := by
          show r = _
          rw [← HR.out]
          exact HCT.out.2 222 (by unfold fl1; rw [if_neg hk])
        have h2 : kd < 1 ∨ (¬ kd < 1 ∧ (3 : Int) ≤ kd) := by omega
        clear hk
        rcases h2 with h2 | ⟨h2, h3⟩
        all_goals
          go_upto_region 4 with fail
          have m1 : (wr.alloc (.cells #[.int .i64 at', .int .i64 kd] 72)).cell? ⟨wr.heap.size, 1, none⟩ = some (.int .i64 kd) := (cell_of_row _ _ 1 _ _ (0, 0) HF2.out).trans rfl
          generalize wr.alloc (.cells #[.int .i64 at', .int .i64 kd] 72) = w6 at *
          clear c0 c1
          go_wp2_with fail
          go_ret
          show Pw _ _ _ _ _ _ _
          rw [HRR.out]
          exact ⟨rfl, by decide, HV2.out.bel⟩
    · obtain rfl : j = n := by omega
      have hjI : ¬ (j : Int) < j := by omega
      have HRR : Hid (r = .ok ws) := by
        show r = _
        rw [← HR.out, ← HA.out, ← HN.out, List.take_length]
      clear HA
      go_wp2_with fail
      go_ret
      show Pw _ _ _ _ _ _ _
      rw [HRR.out]
      exact ⟨rfl, HV.out⟩
end
end Go.Proofs.YtkeogggeefnoeaaGreatDoor
namespace Go.Proofs.YtkeogggeefnoeaaGreatDoor
set_option linter.unusedSimpArgs false
open Go.RowKit
set_option linter.unusedVariables false
set_option maxRecDepth 100000

/-! Printing changes. -/
theorem mapR_take {α β : Type} {f : α → R β} : ∀ (l : List α) (j : Nat) (ws : List β) (hj : j < l.length), mapR f (l.take j) = .ok ws → ws.length = j ∧ (∀ y, f l[j] = .ok y → mapR f (l.take (j + 1)) = .ok (ws ++ [y])) ∧ (∀ e, f l[j] = .error e → mapR f l = .error e)
  | [], j, ws, hj, h => by simp at hj
  | x :: l, 0, ws, hj, h => by
    cases h
    refine ⟨rfl, fun y hy => ?_, fun e he => ?_⟩
    · show mapR f [x] = _
      have hy : f x = .ok y := hy
      rw [mapR, hy]
      simp [mapR]
    · have he : f x = .error e := he
      rw [mapR, he]
  | x :: l, j + 1, ws, hj, h => by
    have h : mapR f (x :: l.take j) = .ok ws := h
    rw [mapR] at h
    split at h
    · cases h
    · rename_i y0 h1
      split at h
      · cases h
      · rename_i r h2
        cases h
        obtain ⟨i0, i1, i2⟩ := mapR_take l j r (by simpa using hj) h2
        refine ⟨by simp [i0], fun y hy => ?_, fun e he => ?_⟩
        · have := i1 y hy
          show mapR f (x :: l.take (j + 1)) = _
          rw [mapR, h1, this]
          simp
        · have := i2 e he
          rw [mapR, h1, this]
theorem chgW_hd {c : Chg} {ws : List (List Nat)} (h : chgW c = .ok ws) : ∃ nm r, ws = nm :: r ∧ nm ≠ [] := by
  unfold chgW at h
  split at h
  · rename_i hk
    split at h
    · cases h
    · split at h
      · cases h
      · cases h
        refine ⟨_, _, rfl, ?_⟩
        have := (cKd_nm hk).2.1.1
        exact this
  · cases h
theorem jsp_app {a b : List (List Nat)} (h : a ≠ []) : jsp (a ++ b) = jsp a ++ spw b := by
  cases a with
  | nil => exact absurd rfl h
  | cons n r => simp [jsp, spw]
theorem spw_jsp {a : List (List Nat)} (h : a ≠ []) : spw a = 32 :: jsp a := by
  cases a with
  | nil => exact absurd rfl h
  | cons n r => simp [jsp, spw]
theorem joc_snoc : ∀ (l : List (List (List Nat))) (y : List (List Nat)), l ≠ [] → joc (l ++ [y]) = joc l ++ [44] :: y
  | [], y, h => absurd rfl h
  | [x], y, _ => by simp [joc]
  | x :: z :: l, y, _ => by
    have := joc_snoc (z :: l) y (by simp)
    show x ++ [44] :: joc (z :: l ++ [y]) = (x ++ [44] :: joc (z :: l)) ++ [44] :: y
    rw [this]
    simp
theorem joc_ne2 {l : List (List (List Nat))} (h : l ≠ []) (hl : ∀ x ∈ l, x ≠ []) : joc l ≠ [] := by
  match l with
  | [] => exact absurd rfl h
  | [x] => exact hl x (by simp)
  | x :: z :: l =>
    intro e
    have e : x ++ [44] :: joc (z :: l) = [] := e
    simp at e
theorem jsp_snoc {l : List (List (List Nat))} {y : List (List Nat)} (h : l ≠ []) (hl : ∀ x ∈ l, x ≠ []) (hy : y ≠ []) : jsp (joc (l ++ [y])) = jsp (joc l) ++ [32, 44, 32] ++ jsp y := by
  rw [joc_snoc l y h, jsp_app (joc_ne2 h hl), show spw ([44] :: y) = [32, 44] ++ spw y from rfl, spw_jsp hy]
  simp
theorem pchW_end {l : List Chg} {ws : List (List (List Nat))} (h : mapR chgW l = .ok ws) : pchW l = if 1048576 < (jsp (joc ws)).length then .error 221 else .ok (jsp (joc ws)) := by
  unfold pchW chsW
  rw [h]
  by_cases hT : 1048576 < (jsp (joc ws)).length <;> simp [hT]
theorem pchW_err {l : List Chg} {x : Nat} (h : mapR chgW l = .error x) : pchW l = .error x := by
  unfold pchW chsW
  rw [h]
/-- A text, or an error. -/
def TxV (r : R (List Nat)) : Value := match r with
  | .ok t => .tuple #[.string (sb t), .int .i64 0]
  | .error x => .tuple #[.string (sb []), .int .i64 (x : Nat)]
def Bt (r : R (List Nat)) : Prop := ∀ t, r = .ok t → (∀ x ∈ t, x < 256) ∧ t.length ≤ 1048576
theorem Bt.no (x : Nat) : Bt (.error x) := fun t e => by cases e
def K0 : Nat → Obj → Prop := fun _ _ => False
theorem Pg.new (w : World) : Pg K0 w (w.alloc (.cells #[.slice none 0 0] 42)) w.heap.size [] :=
  ⟨⟨_, heap_alloc_new w _, rfl, .inl ⟨rfl, rfl⟩⟩, Nat.le_refl _, (Below.refl _ _).alloc (Nat.le_refl _) _, by simp, fun _ _ h => h.elim⟩
section
variable {w : World} {V : Nat → Prop}
set_option maxHeartbeats 4000000 in
theorem printChanges_ (hq : Tq w) {a : Option Addr} {n p : Nat} {l : List Chg} (hl : Cs w V a n l) (hin : ∀ x ∈ l, InC x ∧ x.key.length ≤ 140737488355328) (hn : n ≤ 140737488355328) :
    Calls Tryz.prog 63 #[.slice a n p] w fun e w' => e = .returned (TxV (pchW l)) ∧ Below w.heap.size w w' ∧ Bt (pchW l) := by
  have HQ := hid hq
  have HIN := hid hin
  have HP := hid (Pg.new w)
  obtain ⟨cs, hcs, hln, hrow, hvs⟩ := hl
  have HCS := hid hcs
  have HLN := hid hln
  have HROW := hid hrow
  have HVS := hid hvs
  have HN : Hid (l.length = n) := by show _ = _; rw [← hcs, List.length_map]; exact hln
  obtain ⟨r, HR⟩ : ∃ z, Hid (pchW l = z) := ⟨_, rfl⟩
  rw [HR.out]
  clear hq hcs hln hrow hvs hin
  go_enter Tryz.func63, Tryz.ntmps63
  go_upto_region 2 with fail
  obtain ⟨g, HG⟩ : ∃ z, Hid (w.heap.size = z) := ⟨_, rfl⟩
  generalize w.alloc (.cells #[.slice none 0 0] 42) = w1 at *
  rw [HG.out] at HP ⊢
  go_wp2_with fail
  go_loopw [10] (fun i wr => ∃ j : Nat, j ≤ n ∧ i = .int .i64 j ∧ ∃ ws, Hid (mapR chgW (l.take j) = .ok ws ∧ ws.length = j ∧ ∀ x ∈ ws, x ≠ []) ∧ Hid (Pg K0 w wr g (jsp (joc ws)))) (fun i wr => n - (intOf i).toNat)
  case atStart => exact ⟨0, by omega, rfl, [], ⟨rfl, rfl, by simp⟩, HP.out⟩
  case round =>
    obtain ⟨j, hj, rfl, ws, HA, HV⟩ := hrel
    by_cases hlt : j < n
    · have hjI : (j : Int) < n := by omega
      have hst := HROW.out.step (w' := wr) (fun k hk _ => HV.out.bel.block k hk) HV.out.bel.size
      obtain ⟨b, off, rfl, hc⟩ := hst.at hlt
      have hlf : j < l.length := by rw [HN.out]; exact hlt
      have hlc : j < cs.length := by rw [HLN.out]; exact hlt
      obtain ⟨x, HX⟩ : ∃ z, Hid (cs.getD j cd0 = z) := ⟨_, rfl⟩
      have hxm : x ∈ cs := by rw [← HX.out]; simp [List.getD, hlc]
      have hgd : l[j] = x.c := by
        have e1 : l[j]? = (cs.map (·.c))[j]? := by rw [HCS.out]
        rw [List.getElem?_eq_getElem hlf, List.getElem?_map, List.getElem?_eq_getElem hlc] at e1
        have e2 : cs[j] = x := by rw [← HX.out]; simp [List.getD, hlc]
        rw [e2] at e1
        exact Option.some.inj e1
      have HCT := hid (mapR_take (f := chgW) l j ws hlf HA.out.1)
      rw [hgd] at HCT
      have HII : Hid (InC x.c ∧ x.c.key.length ≤ 140737488355328) := by
        have := HIN.out l[j] (List.getElem_mem hlf)
        rw [hgd] at this
        exact this
      have HVX := hid (HVS.out x hxm)
      have c0 := hc 0 (.int .i64 (cs.getD j cd0).c.kd) rfl
      have c1 := hc 1 (.int .i64 (cs.getD j cd0).c.lk) rfl
      have c2 := hc 2 (.int .i64 (cs.getD j cd0).c.sd) rfl
      have c3 := hc 3 (.slice (cs.getD j cd0).a (cs.getD j cd0).c.key.length (cs.getD j cd0).p) rfl
      have c4 := hc 4 (.int .i64 (cs.getD j cd0).c.f) rfl
      have c5 := hc 5 (.int .u64 (cs.getD j cd0).c.h) rfl
      have c6 := hc 6 (.int .u64 (cs.getD j cd0).c.l) rfl
      have c7 := hc 7 (.int .i64 (cs.getD j cd0).c.b) rfl
      rw [HX.out] at c0 c1 c2 c3 c4 c5 c6 c7
      simp only [Nat.add_zero] at c0 c1 c2 c3 c4 c5 c6 c7
      have HC2 := hid (Cv.new wr x)
      have HB2 : Hid (Below wr.heap.size wr (wr.alloc (.cells #[.int .i64 x.c.kd, .int .i64 x.c.lk, .int .i64 x.c.sd, .slice x.a x.c.key.length x.p, .int .i64 x.c.f, .int .u64 x.c.h, .int .u64 x.c.l, .int .i64 x.c.b] 70))) := (Below.refl _ _).alloc (Nat.le_refl _) _
      have HV2 := hid (HV.out.on HB2.out)
      have HGL := hid HV.out.lt
      clear hc hst hgd hlf hlc hxm
      go_upto_region 5 with fail
      obtain ⟨bg, HBG⟩ : ∃ z, Hid (wr.heap.size = z) := ⟨_, rfl⟩
      generalize wr.alloc (.cells #[.int .i64 x.c.kd, .int .i64 x.c.lk, .int .i64 x.c.sd, .slice x.a x.c.key.length x.p, .int .i64 x.c.f, .int .u64 x.c.h, .int .u64 x.c.l, .int .i64 x.c.b] 70) = w6 at *
      rw [HBG.out] at HC2 HB2 ⊢
      have HV3 := hid (HV2.out.more HC2.out (by have := HGL.out; have := HBG.out; omega) (fun vs e => by simp at e))
      clear c0 c1 c2 c3 c4 c5 c6 c7
      have HCH : Hid (∀ wx T', Pg _ w wx g T' → Calls Tryz.prog 82 #[.pointer (some ⟨g, 0, none⟩), cdv x] wx fun e w' => Pj _ w g T' (chgW x.c) e w') := fun wx T' h => change_ (Kk := Km K0 bg (.cells #[.int .i64 x.c.kd, .int .i64 x.c.lk, .int .i64 x.c.sd, .slice x.a x.c.key.length x.p, .int .i64 x.c.f, .int .u64 x.c.h, .int .u64 x.c.l, .int .i64 x.c.b] 70)) h HQ.out x HII.out.1 HVX.out HII.out.2
      obtain ⟨r2, HR2⟩ : ∃ z, Hid (chgW x.c = z) := ⟨_, rfl⟩
      rw [HR2.out] at HCH HCT
      have HNE : Hid (∀ y, r2 = .ok y → y ≠ []) := fun y e => by
        obtain ⟨nm, r, rfl, _⟩ := chgW_hd (HR2.out.trans e)
        simp
      have HRE : Hid (∀ y, r2 = .error y → r = .error y) := fun y e => by
        show r = _
        rw [← HR.out]
        exact pchW_err (HCT.out.2.2 y e)
      unfold cdv at HCH
      have u0 := HC2.out.c 0
      have u1 := HC2.out.c 1
      have u2 := HC2.out.c 2
      have u3 := HC2.out.c 3
      have u4 := HC2.out.c 4
      have u5 := HC2.out.c 5
      have u6 := HC2.out.c 6
      have u7 := HC2.out.c 7
      simp only [cdc, List.getElem?_cons_succ, List.getElem?_cons_zero] at u0 u1 u2 u3 u4 u5 u6 u7
      by_cases hj0 : j = 0
      · subst hj0
        have h0 : ¬ (0 : Int) < ((0 : Nat) : Int) := by omega
        have k1 := HCH.out w6 _ HV3.out
        obtain rfl : ws = [] := List.length_eq_zero_iff.1 HA.out.2.1
        go_wp2_with fail
        refine k1.mono ?_
        intro e w8 h8
        cases r2 with
        | ok y =>
          obtain ⟨rfl, h8⟩ := h8
          have H8 := hid h8.less
          clear k1 h8 u0 u1 u2 u3 u4 u5 u6 u7 HV2 HV3
          go_wp2_with fail
          go_roundw
          case rel => exact ⟨1, by omega, by go_num, [y], ⟨HCT.out.2.1 y rfl, rfl, by simpa using HNE.out y rfl⟩, H8.out⟩
          case measure => simp [intOf]; omega
        | error y =>
          obtain ⟨rfl, hy, h8⟩ := h8
          have H8 := hid h8
          have h4 : ¬ (y : Int) = 0 := by omega
          have h5 : ((y : Int) == 0) = false := by simp [hy]
          have HRR := hid (HRE.out y rfl)
          clear k1 h8 u0 u1 u2 u3 u4 u5 u6 u7
          go_wp2_with fail
          go_ret2
          exact ⟨by rw [HRR.out]; rfl, H8.out, by rw [HRR.out]; exact Bt.no _⟩
      · have h0 : (0 : Int) < (j : Int) := by omega
        have k1 := add_ HV3.out [32, 44, 32] (by decide) (by decide)
        rw [show sb [32, 44, 32] = ⟨#[32, 44, 32]⟩ from rfl] at k1
        have HWS : Hid (ws ≠ []) := fun e => hj0 (by rw [← HA.out.2.1, e]; rfl)
        clear u0 u1 u2 u3 u4 u5 u6 u7
        go_wp2_with fail
        refine k1.mono ?_
        rintro e w7 ⟨rfl, h7⟩
        have k2 := HCH.out w7 _ h7
        have HC3 : Hid (Cv w7 bg x) := h7.get
        have u0 := HC3.out.c 0
        have u1 := HC3.out.c 1
        have u2 := HC3.out.c 2
        have u3 := HC3.out.c 3
        have u4 := HC3.out.c 4
        have u5 := HC3.out.c 5
        have u6 := HC3.out.c 6
        have u7 := HC3.out.c 7
        simp only [cdc, List.getElem?_cons_succ, List.getElem?_cons_zero] at u0 u1 u2 u3 u4 u5 u6 u7
        clear k1 h7
        go_wp2_with fail
        refine k2.mono ?_
        intro e w8 h8
        cases r2 with
        | ok y =>
          obtain ⟨rfl, h8⟩ := h8
          have H8 := hid h8.less
          have HJ : Hid (jsp (joc (ws ++ [y])) = jsp (joc ws) ++ [32, 44, 32] ++ jsp y) := jsp_snoc HWS.out HA.out.2.2 (HNE.out y rfl)
          clear k2 h8 u0 u1 u2 u3 u4 u5 u6 u7
          go_wp2_with fail
          go_roundw
          case rel => exact ⟨j + 1, by omega, by go_num, ws ++ [y], ⟨HCT.out.2.1 y rfl, by simp [HA.out.2.1], fun x hx => by
            rcases List.mem_append.1 hx with e | e
            · exact HA.out.2.2 x e
            · rw [List.mem_singleton.1 e]; exact HNE.out y rfl⟩, by show Pg _ _ _ _ _; rw [HJ.out]; exact H8.out⟩
          case measure => simp [intOf]; omega
        | error y =>
          obtain ⟨rfl, hy, h8⟩ := h8
          have H8 := hid h8
          have h4 : ¬ (y : Int) = 0 := by omega
          have h5 : ((y : Int) == 0) = false := by simp [hy]
          have HRR := hid (HRE.out y rfl)
          clear k2 h8 u0 u1 u2 u3 u4 u5 u6 u7
          go_wp2_with fail
          go_ret2
          exact ⟨by rw [HRR.out]; rfl, H8.out, by rw [HRR.out]; exact Bt.no _⟩
    · obtain rfl : j = n := by omega
      have hjI : ¬ (j : Int) < j := by omega
      have k1 := whole_ HV.out
      have HRR : Hid (r = if 1048576 < (jsp (joc ws)).length then .error 221 else .ok (jsp (joc ws))) := by
        show r = _
        have e := HA.out.1
        rw [← HN.out, List.take_length] at e
        rw [← HR.out]
        exact pchW_end e
      have HBL := hid HV.out.bel
      have HBY := hid HV.out.byt
      clear HA HV
      go_wp2_with fail
      refine k1.mono ?_
      rintro e w3 ⟨rfl, hw⟩
      obtain rfl := hw.symm
      clear k1
      by_cases hT : 1048576 < (jsp (joc ws)).length
      · rw [if_pos hT]
        go_wp2_with fail
        go_ret2
        exact ⟨by rw [HRR.out, if_pos hT]; rfl, HBL.out, by rw [HRR.out, if_pos hT]; exact Bt.no _⟩
      · rw [if_neg hT]
        go_wp2_with fail
        go_ret2
        exact ⟨by rw [HRR.out, if_neg hT]; rfl, HBL.out, by rw [HRR.out, if_neg hT]; intro t e; cases e; exact ⟨HBY.out, by omega⟩⟩
end
end Go.Proofs.YtkeogggeefnoeaaGreatDoor
namespace Go.Proofs.YtkeogggeefnoeaaGreatDoor
set_option linter.unusedSimpArgs false
open Go.RowKit
set_option linter.unusedVariables false
set_option maxRecDepth 100000

/-! Writing: a step's changes. -/
section
variable {Kk : Nat → Obj → Prop} {w0 w : World} {g : Nat} {T : List Nat} {V : Nat → Prop}
theorem mapR_hd {l : List Chg} {ws : List (List (List Nat))} (h : mapR chgW l = .ok ws) : ∀ x ∈ ws, ∃ nm r, x = nm :: r ∧ nm ≠ [] := mapR_all (fun _ _ e => chgW_hd e) l ws h
theorem chsW_text {l : List Chg} {ws : List (List Nat)} (h : chsW l = .ok ws) : ws ≠ [] → jsp ws ≠ [] := by
  unfold chsW at h
  split at h
  · cases h
  · rename_i vs hv
    split at h
    · cases h
    · cases h
      intro hne
      match vs, hv, hne with
      | [], _, hne => exact absurd rfl hne
      | [x], hv, _ =>
        obtain ⟨nm, r, rfl, hn⟩ := mapR_hd hv x (by simp)
        intro e
        have e : nm ++ r.flatMap (32 :: ·) = [] := e
        exact hn (List.append_eq_nil_iff.1 e).1
      | x :: z :: vs, hv, _ =>
        obtain ⟨nm, r, rfl, hn⟩ := mapR_hd hv x (by simp)
        intro e
        have e : nm ++ (r ++ [44] :: joc (z :: vs)).flatMap (32 :: ·) = [] := e
        exact hn (List.append_eq_nil_iff.1 e).1
set_option maxHeartbeats 4000000 in
theorem changes_ (h : Pg Kk w0 w g T) (hq : Tq w0) {a : Option Addr} {n p : Nat} {l : List Chg} (hl : Cs w0 V a n l) (hin : ∀ x ∈ l, InC x ∧ x.key.length ≤ 140737488355328) (hn : n ≤ 140737488355328) (hz : ∀ x, chsW l = .error x → x ≠ 0) :
    Calls Tryz.prog 43 #[.pointer (some ⟨g, 0, none⟩), .slice a n p] w fun e w' => Pw Kk w0 g T (chsW l) e w' := by
  have k1 := printChanges_ (p := p) (hq.kept h.bel) (hl.step (w' := w) (fun k hk _ => h.bel.block k hk) h.bel.size) hin hn
  have HP := hid h
  have hp : pchW l = match chsW l with
    | .error e => .error e
    | .ok ws => .ok (jsp ws) := rfl
  have HTX : Hid (∀ ws, chsW l = .ok ws → ws ≠ [] → jsp ws ≠ []) := fun ws => chsW_text
  have HZ := hid hz
  obtain ⟨r, HR⟩ : ∃ z, Hid (chsW l = z) := ⟨_, rfl⟩
  rw [HR.out] at hp HTX HZ ⊢
  rw [hp] at k1
  clear h hq hl hin hp hz
  cases r with
  | error x =>
    rw [show TxV (match (.error x : R (List (List Nat))) with | .error e => .error e | .ok ws => .ok (jsp ws)) = .tuple #[.string ⟨#[]⟩, .int .i64 (x : Nat)] from rfl] at k1
    have HX := hid (HZ.out x rfl)
    go_enter Tryz.func43, Tryz.ntmps43
    go_wp2_with fail
    refine k1.mono ?_
    rintro e w2 ⟨rfl, h2, _⟩
    have H2 := hid (HP.out.on h2)
    clear k1 h2
    go_wp2_with fail
    go_ret
    exact ⟨rfl, HX.out, H2.out.bel⟩
  | ok ws =>
    by_cases hw : ws = []
    · subst hw
      rw [show TxV (match (.ok [] : R (List (List Nat))) with | .error e => .error e | .ok ws => .ok (jsp ws)) = .tuple #[.string ⟨#[]⟩, .int .i64 0] from rfl] at k1
      go_enter Tryz.func43, Tryz.ntmps43
      go_wp2_with fail
      refine k1.mono ?_
      rintro e w2 ⟨rfl, h2, _⟩
      have H2 := hid (HP.out.on h2)
      clear k1 h2
      go_wp2_with fail
      go_ret
      exact ⟨rfl, by rw [show spw [] = [] from rfl, List.append_nil]; exact H2.out⟩
    · rw [show TxV (match (.ok ws : R (List (List Nat))) with | .error e => .error e | .ok ws => .ok (jsp ws)) = .tuple #[.string (sb (jsp ws)), .int .i64 0] from rfl] at k1
      have HSP : Hid (spw ws = 32 :: jsp ws) := spw_jsp hw
      have hne := HTX.out ws rfl hw
      have HW : Hid (∀ wx, Bt (.ok (jsp ws)) → Below w.heap.size w wx → Calls Tryz.prog 25 #[.pointer (some ⟨g, 0, none⟩), .string (sb (jsp ws))] wx fun e w' => e = .returned (.tuple #[]) ∧ Pg Kk w0 w' g (T ++ 32 :: jsp ws)) := fun wx hb hx => word_ (HP.out.on hx) _ (hb _ rfl).1 (by have := (hb _ rfl).2; unfold maxLen; omega)
      have hs : (sb (jsp ws)).toList.isEmpty = false := by
        cases hj : jsp ws with
        | nil => exact absurd hj hne
        | cons x r => simp [toList_data, sb]
      obtain ⟨S, HS⟩ : ∃ z, Hid (sb (jsp ws) = z) := ⟨_, rfl⟩
      rw [HS.out] at k1 HW hs
      clear hw hne
      go_enter Tryz.func43, Tryz.ntmps43
      go_wp2_with fail
      refine k1.mono ?_
      rintro e w2 ⟨rfl, h2, hb⟩
      have k2 := HW.out w2 hb h2
      clear k1 h2 hb
      go_wp2_with fail
      refine k2.mono ?_
      rintro e w3 ⟨rfl, h3⟩
      have H3 := hid h3
      clear k2 h3
      go_wp2_with fail
      go_ret
      exact ⟨rfl, by rw [HSP.out]; exact H3.out⟩
end
end Go.Proofs.YtkeogggeefnoeaaGreatDoor
