import Derived.Test.YtkeogggeefnoeaaGreatDoorN18
namespace Go.Proofs.YtkeogggeefnoeaaGreatDoor
set_option linter.unusedSimpArgs false
open Go.RowKit
set_option linter.unusedVariables false
set_option maxRecDepth 100000

/-! Reading: one change. -/
theorem Yx.rng {w : World} {g : Nat} {t : TypeId} {vs : List Value} (h : Yx w g t vs) : w.rangeAt g 0 vs := fun j z hz => by
  rw [Nat.zero_add, h.cell]
  exact hz
theorem results_yx {fn : Func} {p u : Tmp} {t : TypeId} {d : TypeDesc} (h : fn.results = #[.cell p t, .tmp u]) (tmps : Array Value) (w : World) (g : Nat) (vs : List Value) (x : Value)
    (hp : tmps.getD p undef = .pointer (some ⟨g, 0, none⟩)) (hu : tmps.getD u undef = x) (hg : Yx w g t vs) (hd : Tryz.prog.underlying t = some d) (hr : d.isRow = true) (hi : (Tryz.prog.info? t).map (·.size) = some vs.length) :
    (results fn tmps).run Tryz.prog w = .ok (.tuple #[.agg vs.toArray, x]) w := by
  have hl := run_loadVar_mid (P := Tryz.prog) w g 0 t vs d hg.rng hd hr hi
  have hp' : tmps[p]?.getD undef = .pointer (some ⟨g, 0, none⟩) := by simpa using hp
  have hu' : tmps[u]?.getD undef = x := by simpa using hu
  simp [results, h, hp', hu', asAddr, hl]
theorem yx_setsF {g : Nat} {t : TypeId} : ∀ (us : List Value) (o : Nat) (w : World) (vs : List Value), Yx w g t vs → o + us.length = vs.length → Yx (w.setCells g o us) g t (vs.take o ++ us)
  | [], o, w, vs, h, hl => by
    rw [List.append_nil, List.take_of_length_le (by simp at hl; omega)]
    exact h
  | u :: us, o, w, vs, h, hl => by
    have ih := yx_setsF us (o + 1) _ _ (h.set o u) (by rw [List.length_set]; simp at hl; omega)
    have e : (vs.set o u).take (o + 1) = vs.take o ++ [u] := by
      rw [List.take_succ_eq_append_getElem (by rw [List.length_set]; simp at hl; omega)]
      simp only [List.getElem_set_self, List.take_set]
      rw [List.set_eq_of_length_le (by rw [List.length_take]; omega)]
    rw [e, List.append_assoc] at ih
    exact ih
theorem Yx.sets {w : World} {g : Nat} {t : TypeId} {vs us : List Value} (h : Yx w g t vs) (hl : us.length = vs.length) : Yx (w.setCells g 0 us) g t us := by
  have := yx_setsF us 0 w vs h (by omega)
  simpa using this
theorem grown_sets {g : Nat} : ∀ (us : List Value) (o : Nat) (w : World), w.grownBy (w.setCells g o us) (some g)
  | [], o, w => ⟨rfl, rfl, rfl, Nat.le_refl _, fun _ _ _ => rfl⟩
  | u :: us, o, w => by_trans (set_by w g o u) (grown_sets us (o + 1) _)
theorem sizeCh : (Tryz.prog.info? 70).map (·.size) = some 8 := by kernel_rfl
/-- What readChange answers. -/
def RcV (w : World) (r : R Chg) (e : Ending) (w' : World) : Prop := match r with
  | .error k => e = .returned (.tuple #[cdv cd0, .int .i64 (k : Nat)]) ∧ k ≠ 0
  | .ok c => ∃ x : CD, x.c = c ∧ e = .returned (.tuple #[cdv x, .int .i64 0]) ∧ Vc w' (fun b => w.heap.size ≤ b) x
theorem cRun_step {c : Chg} {fs : List Nat} {ws : List (List Nat)} {j : Nat} (hf : j < fs.length) (hw : j < ws.length) : cRun c (fs.drop j) (ws.drop j) = match cFil c (fs.getD j 0) (ws.getD j []) with
    | .error e => .error e
    | .ok c' => cRun c' (fs.drop (j + 1)) (ws.drop (j + 1)) := by
  have e1 : fs.drop j = fs.getD j 0 :: fs.drop (j + 1) := by rw [List.drop_eq_getElem_cons hf]; simp [List.getD, hf]
  have e2 : ws.drop j = ws.getD j [] :: ws.drop (j + 1) := by rw [List.drop_eq_getElem_cons hw]; simp [List.getD, hw]
  rw [e1, e2, cRun]
  cases cFil c (fs.getD j 0) (ws.getD j []) <;> rfl
theorem cFil_err {c : Chg} {f : Nat} {w : List Nat} {e : Nat} (h : cFil c f w = .error e) : e ≠ 0 := by
  unfold cFil at h
  split at h
  · split at h
    · cases h; decide
    · cases h
  · split at h
    · split at h
      · cases h
      · cases h; decide
    · split at h
      · cases h; decide
      · cases h
theorem cKd_lt (n : List Nat) : cKd n < 6 := by
  unfold cKd
  have : ∀ (l : List (List Nat)) (i : Nat), fndN i n l < i + l.length ∨ fndN i n l = 0 := by
    intro l
    induction l with
    | nil => intro i; exact .inr rfl
    | cons m l ih =>
      intro i
      rw [fndN]
      split
      · left; simp
      · rcases ih (i + 1) with h | h
        · left; simp at h ⊢; omega
        · exact .inr h
  rcases this (cNm.map (·.1)) 0 with h | h
  · simpa [cNm] using h
  · omega
def cz : List Value := [.int .i64 0, .int .i64 0, .int .i64 0, .slice none 0 0, .int .i64 0, .int .u64 0, .int .u64 0, .int .i64 0]
theorem cz_eq : cdc cd0 = cz := rfl
set_option maxHeartbeats 8000000 in
theorem readChange_ (V : Nat → Prop) (a : Option Addr) (n p : Nat) (ws : List (List Nat)) (hw : Gw ws) (w : World) (h : Wv w V a n p ws) (hq : Tq w) : Calls Tryz.prog 115 #[.slice a n p] w fun e w' => RcV w (chgv ws) e w' ∧ Below w.heap.size w w' := by
  have hub : Below w.heap.size w (w.alloc (.cells cz.toArray 70)) := (Below.refl _ _).alloc (Nat.le_refl _) _
  have hy0 : Yx (w.alloc (.cells cz.toArray 70)) w.heap.size 70 cz := heap_alloc_new w _
  have HUB := hid hub
  have HY0 := hid hy0
  have HW := hid h
  have HG := hid hw
  have HQ := hid hq
  obtain ⟨g0, HG0⟩ : ∃ z, Hid (w.heap.size = z) := ⟨_, rfl⟩
  obtain ⟨w1, HW1⟩ : ∃ z, Hid (w.alloc (.cells cz.toArray 70) = z) := ⟨_, rfl⟩
  have HW1' : Hid (w.alloc (.cells #[.int .i64 0, .int .i64 0, .int .i64 0, .slice none 0 0, .int .i64 0, .int .u64 0, .int .u64 0, .int .i64 0] 70) = w1) := HW1.out
  rw [HW1.out] at HUB HY0
  rw [HG0.out] at HY0
  have hln := h.ln
  have hpm := h.pm
  have hnp := h.np
  unfold maxLen at hpm
  obtain ⟨r, HR⟩ : ∃ z, Hid (chgv ws = z) := ⟨_, rfl⟩
  rw [HR.out]
  have HEE : Hid (∀ (k : Nat) (w' : World), r = .error k → k ≠ 0 → RcV w r (.returned (.tuple #[.agg cz.toArray, .int .i64 (k : Nat)])) w') := fun k w' hr hk => by
    rw [hr]
    exact ⟨rfl, hk⟩
  clear hub hy0 h hw hq
  by_cases hz : n = 0
  · subst hz
    have hr : r = .error 222 := by
      rw [← HR.out, List.eq_nil_of_length_eq_zero hln]
      rfl
    have HRR := hid hr
    have c0 := HY0.out.cell 0
    have c1 := HY0.out.cell 1
    have c2 := HY0.out.cell 2
    have c3 := HY0.out.cell 3
    have c4 := HY0.out.cell 4
    have c5 := HY0.out.cell 5
    have c6 := HY0.out.cell 6
    have c7 := HY0.out.cell 7
    simp only [cz, List.getElem?_cons_succ, List.getElem?_cons_zero] at c0 c1 c2 c3 c4 c5 c6 c7
    have f0 := HY0.out.fz 0
    have f1 := HY0.out.fz 1
    have f2 := HY0.out.fz 2
    have f3 := HY0.out.fz 3
    have f4 := HY0.out.fz 4
    have f5 := HY0.out.fz 5
    have f6 := HY0.out.fz 6
    have f7 := HY0.out.fz 7
    clear hr hln
    go_enter Tryz.func115, Tryz.ntmps115
    go_upto_region 1 with fail
    rw [HW1'.out, HG0.out]
    go_wp2_with fail
    refine bodyPost_ret (v := .tuple #[.agg cz.toArray, .int .i64 222]) (results_yx rfl _ _ g0 cz _ rfl rfl ?_ Tryz.underlying70 rfl sizeCh) rfl ⟨HEE.out 222 _ HRR.out (by decide), ?_⟩
    · exact HY0.out.sets (us := cz) rfl
    · exact HUB.out.grown (grown_sets cz 0 _) HUB.out.size (fun k e => by cases e; have := HG0.out; omega)
  · obtain ⟨b, off, rfl, hc0⟩ := (HW.out.on HUB.out).at (i := 0) (by omega)
    rw [Nat.add_zero] at hc0
    obtain ⟨nm, ws', hws⟩ : ∃ nm ws', ws = nm :: ws' := by
      cases ws with
      | nil => simp at hln; omega
      | cons x l => exact ⟨x, l, rfl⟩
    have HR2 : Hid (r = if cKd nm = 0 then .error 222 else if ws'.length ≠ (cFm (cKd nm)).length then .error 226 else cRun (chg0 (cKd nm)) (cFm (cKd nm)) ws') := by
      show _ = _
      rw [← HR.out, hws]
      rfl
    rw [show ws.getD 0 [] = nm by rw [hws]; rfl] at hc0
    have k1 := changeNamed_ nm (HG.out nm (by rw [hws]; simp)).1 w1 (HQ.out.kept HUB.out)
    have hkd := cKd_lt nm
    have hl' : ws'.length = n - 1 := by rw [hws] at hln; simp at hln; omega
    have hG' : Gw ws' := by
      have := HG.out.drop 1
      rw [hws] at this
      exact this
    have HG' := hid hG'
    obtain ⟨a2, hs2, V2⟩ := list_of (k := 1) HW.out (by omega)
    rw [show ((1 : Nat) : Int) = 1 from rfl] at hs2
    rw [show ws.drop 1 = ws' by rw [hws]; rfl] at V2
    have HV2 := hid V2
    obtain ⟨kd, HKD⟩ : ∃ z, Hid (cKd nm = z) := ⟨_, rfl⟩
    rw [HKD.out] at k1 hkd HR2
    obtain ⟨Sn, HSN⟩ : ∃ z, Hid (sb nm = z) := ⟨_, rfl⟩
    rw [HSN.out] at k1 hc0
    have HHS := hid hs2
    have hn0 : ¬ (n : Int) = 0 := by omega
    have hn00 : ((n : Int) == 0) = false := by simp; omega
    have hn1 : (0 : Int) < (n : Int) := by omega
    clear hws hln hG' V2 hs2
    go_enter Tryz.func115, Tryz.ntmps115
    go_upto_region 1 with fail
    rw [HW1'.out, HG0.out]
    go_wp2_with fail
    refine k1.mono ?_
    rintro e w2 ⟨rfl, g2⟩
    go_upto_region 4 with fail
    have HC3 : Hid (Cv (w2.alloc (.cells #[.int .i64 kd, .int .i64 0, .int .i64 0, .slice none 0 0, .int .i64 0, .int .u64 0, .int .u64 0, .int .i64 0] 70)) w2.heap.size ⟨chg0 kd, none, 0⟩) := heap_alloc_new w2 _
    have hb3 : Below w2.heap.size w2 (w2.alloc (.cells #[.int .i64 kd, .int .i64 0, .int .i64 0, .slice none 0 0, .int .i64 0, .int .u64 0, .int .u64 0, .int .i64 0] 70)) := (Below.refl _ _).alloc (Nat.le_refl _) _
    have HY3 := hid ((HY0.out.on g2).on hb3)
    have HB2 := hid (bel_bel HUB.out HUB.out.size g2)
    have HB3 := hid (bel_bel HB2.out HB2.out.size hb3)
    obtain ⟨w3, HW3⟩ : ∃ z, Hid (w2.alloc (.cells #[.int .i64 kd, .int .i64 0, .int .i64 0, .slice none 0 0, .int .i64 0, .int .u64 0, .int .u64 0, .int .i64 0] 70) = z) := ⟨_, rfl⟩
    obtain ⟨cg, HCG⟩ : ∃ z, Hid (w2.heap.size = z) := ⟨_, rfl⟩
    have hgc : g0 < cg := by rw [← HCG.out]; exact (HY0.out.on g2).lt
    rw [HW3.out] at HC3 HY3 HB3 ⊢
    rw [HCG.out] at HC3 ⊢
    have u0 := HC3.out.yx.cell 0
    simp only [cdc, chg0, List.getElem?_cons_zero] at u0
    clear k1 hc0 g2 hb3 HY0 HUB
    by_cases hk0 : kd = 0
    · subst hk0
      have hr : r = .error 222 := by rw [HR2.out, if_pos rfl]
      have HRR := hid hr
      rw [show ((0 : Nat) : Int) = 0 from rfl] at u0
      have c0 := HY3.out.cell 0
      have c1 := HY3.out.cell 1
      have c2 := HY3.out.cell 2
      have c3 := HY3.out.cell 3
      have c4 := HY3.out.cell 4
      have c5 := HY3.out.cell 5
      have c6 := HY3.out.cell 6
      have c7 := HY3.out.cell 7
      simp only [cz, List.getElem?_cons_succ, List.getElem?_cons_zero] at c0 c1 c2 c3 c4 c5 c6 c7
      have f0 := HY3.out.fz 0
      have f1 := HY3.out.fz 1
      have f2 := HY3.out.fz 2
      have f3 := HY3.out.fz 3
      have f4 := HY3.out.fz 4
      have f5 := HY3.out.fz 5
      have f6 := HY3.out.fz 6
      have f7 := HY3.out.fz 7
      clear hr HHS
      go_wp2_with fail
      refine bodyPost_ret (v := .tuple #[.agg cz.toArray, .int .i64 222]) (results_yx rfl _ _ g0 cz _ rfl rfl ?_ Tryz.underlying70 rfl sizeCh) rfl ⟨HEE.out 222 _ HRR.out (by decide), ?_⟩
      · exact HY3.out.sets (us := cz) rfl
      · exact HB3.out.grown (grown_sets cz 0 _) HB3.out.size (fun k e => by cases e; have := HG0.out; omega)
    · have HR3 : Hid (r = if ws'.length ≠ (cFm kd).length then .error 226 else cRun (chg0 kd) (cFm kd) ws') := by
        show _ = _
        rw [HR2.out, if_neg hk0]
      have hkI : ¬ (kd : Int) = 0 := by omega
      have hkB : ((kd : Int) == 0) = false := by simp; omega
      have h2 : ¬ (6 : Int) ≤ (kd : Int) := by omega
      have h3 : (kd : Int) < 6 := by omega
      have h4 : (0 : Int) ≤ (kd : Int) := by omega
      have t2 := ((HQ.out.kept HB3.out).chAt hkd).2
      obtain ⟨fs, HFS⟩ : ∃ z, Hid (cFm kd = z) := ⟨_, rfl⟩
      rw [show (cNm.getD kd ([], [])).2 = fs from HFS.out] at t2
      rw [HFS.out] at HR3
      have HFL : Hid ((∀ f ∈ fs, cLet f) ∧ 1 ≤ fs.length) := by
        rw [← HFS.out]
        refine ⟨(cFm_let hk0 (by omega)).2, ?_⟩
        rcases (show kd = 1 ∨ kd = 2 ∨ kd = 3 ∨ kd = 4 ∨ kd = 5 by omega) with rfl | rfl | rfl | rfl | rfl <;> decide
      have hsz : (sb fs).size = fs.length := sb_size fs
      have hfs : ∀ y ∈ fs, y < 256 := fun y hy => by
        have := HFL.out.1 y hy
        unfold cLet at this
        omega
      have HNL := hid (next_low fs hfs)
      have HNE := hid (next_end fs)
      have HF128 : Hid (∀ j, j < fs.length → cLet (fs.getD j 0) ∧ fs.getD j 0 < 128) := fun j hj => by
        have e : cLet (fs.getD j 0) := HFL.out.1 _ (by simp [List.getD, hj])
        refine ⟨e, ?_⟩
        unfold cLet at e
        omega
      obtain ⟨Sx, HS⟩ : ∃ z, Hid (sb fs = z) := ⟨_, rfl⟩
      obtain ⟨q, HQF⟩ : ∃ z, Hid (fs.length = z) := ⟨_, rfl⟩
      rw [HS.out, HQF.out] at hsz
      rw [HS.out] at HNL HNE t2
      have hq1 : 1 ≤ q := by rw [← HQF.out]; exact HFL.out.2
      rw [HQF.out] at HR3
      rw [hl'] at HR3
      have hs2 := HHS.out
      obtain ⟨n1, HN1⟩ : ∃ z, Hid (n - 1 = z) := ⟨_, rfl⟩
      obtain ⟨p1, HP1⟩ : ∃ z, Hid (p - 1 = z) := ⟨_, rfl⟩
      rw [HN1.out, HP1.out] at hs2 HV2
      rw [HN1.out] at HR3 hl'
      have HC4 : Hid (Cv w3.drew cg ⟨chg0 kd, none, 0⟩) := HC3.out
      have HY4 : Hid (Yx w3.drew g0 70 cz) := HY3.out
      have HB4 : Hid (Below w.heap.size w w3.drew) := bel_bel HB3.out HB3.out.size (below_drew w3)
      clear hk0 hfs HR2 HHS hn0 hn00 hn1
      go_wp2_with fail
      go_region
      generalize w3.drew = w4 at *
      clear HC3 HY3 HB3 HW3 u0 t2
      by_cases hlen : n1 = q
      · subst hlen
        have HR4 : Hid (r = cRun (chg0 kd) fs ws') := by
          show _ = _
          rw [HR3.out, if_neg (by simp)]
        have hne : ¬ (n1 : Int) ≠ (n1 : Int) := by simp
        clear HR3
        obtain ⟨b2, off2, rfl, _⟩ := HV2.out.at (i := 0) (by omega)
        go_wp2_with fail
        have HI0 : Hid (It (w4.iter Sx 0) w4.heap.size Sx 0) := heap_alloc_new w4 _
        have hwb : Below w4.heap.size w4 (w4.iter Sx 0) := (Below.refl _ _).alloc (Nat.le_refl _) _
        have HB5 := hid (bel_bel HB4.out HB4.out.size hwb)
        have HY5 := hid (HY4.out.on hwb)
        have HC5 := hid (HC4.out.on hwb)
        obtain ⟨ig, HIG⟩ : ∃ z, Hid (w4.heap.size = z) := ⟨_, rfl⟩
        have hci : cg < ig := by rw [← HIG.out]; exact HC4.out.yx.lt
        have HLO : Hid (w.heap.size ≤ ig ∧ w.heap.size ≤ cg) := ⟨by have := HIG.out; have := HB4.out.size; omega, by have := HG0.out; omega⟩
        clear hwb HB4 HY4 HC4
        generalize w4.iter Sx 0 = w5 at *
        rw [HIG.out] at HI0 ⊢
        have HVC0 : Hid (Vc w5 (Vg (ig + 1) cg) ⟨chg0 kd, none, 0⟩) := vs_none _ _
        go_loopw [6, 7] (fun _ _ wr => ∃ (j : Nat) (x : CD), j ≤ n1 ∧ Hid (r = cRun x.c (fs.drop j) (ws'.drop j)) ∧ Hid (Cv wr cg x) ∧ Hid (Vc wr (Vg (ig + 1) cg) x) ∧ Hid (Yx wr g0 70 cz) ∧ Hid (It wr ig Sx j) ∧ Hid (Below w.heap.size w wr)) (fun _ _ wr => n1 - wr.iterPos ig)
        case atStart => exact ⟨0, ⟨chg0 kd, none, 0⟩, by omega, HR4, HC5, HVC0, HY5, HI0, HB5⟩
        case round =>
          clear HI0 HVC0 HY5 HC5 HB5 HR4
          obtain ⟨j, x, hj, HRJ, HCX, HVX, HYX, HI, HBX⟩ := hrel
          by_cases hlt : j < n1
          · have hlf : j < fs.length := by rw [HQF.out]; exact hlt
            obtain ⟨f, HF⟩ : ∃ z, Hid (fs.getD j 0 = z) := ⟨_, rfl⟩
            have HFL2 := hid (HF128.out j hlf)
            have hnx := HNL.out j hlf wr _ HI.out HFL2.out.2
            rw [HF.out] at hnx HFL2
            have hit2 : It (wr.iterAt ig Sx (j + 1)) ig Sx (j + 1) := Lib.iterAt_heap wr _ Sx j (j + 1) HI.out
            have HCX2 : Hid (Cv (wr.iterAt ig Sx (j + 1)) cg x) := (Lib.iterAt_other wr ig cg Sx (j + 1) (by omega)).trans HCX.out
            have HYX2 : Hid (Yx (wr.iterAt ig Sx (j + 1)) g0 70 cz) := (Lib.iterAt_other wr ig g0 Sx (j + 1) (by omega)).trans HYX.out
            have HVX2 : Hid (Vc (wr.iterAt ig Sx (j + 1)) (Vg (ig + 1) cg) x) := Vs.step HVX.out fun k hk hV hnm => Lib.iterAt_other wr ig k Sx (j + 1) (fun e => by have := hV.1; omega)
            have HB2' : Hid (Below w.heap.size w (wr.iterAt ig Sx (j + 1))) := Lib.below_iterAt HBX.out HLO.out.1 Sx (j + 1)
            have HP1' := hid HI.out.pos
            have HI2 := hid hit2
            clear hit2 HI HCX HVX HYX HBX
            generalize wr.iterAt ig Sx (j + 1) = w6 at *
            obtain ⟨b', off', e', hcw⟩ := (HV2.out.on HB2'.out).at (i := j) (by omega)
            obtain ⟨rfl, rfl⟩ : b2 = b' ∧ off2 = off' := by simpa using e'
            have hwd := HG'.out.at j
            have HST := hid (cRun_step (c := x.c) (fs := fs) (ws := ws') hlf (by rw [hl']; exact hlt))
            rw [HF.out] at HST
            have hw6 : ig + 1 ≤ w6.heap.size := (Array.getElem?_eq_some_iff.1 HI2.out).1
            have k2 := fillChange_ cg x f HFL2.out.1 (ws'.getD j []) hwd.1 hwd.2 (ig + 1) w6 HCX2.out HVX2.out hw6 (HQ.out.kept HB2'.out).tb
            obtain ⟨wd, HWD⟩ : ∃ z, Hid (ws'.getD j [] = z) := ⟨_, rfl⟩
            rw [HWD.out] at k2 hcw HST
            obtain ⟨X, HX⟩ : ∃ z, Hid (sb wd = z) := ⟨_, rfl⟩
            rw [HX.out] at k2 hcw
            have hjn : (j : Int) < (n1 : Int) := by omega
            obtain ⟨rs, HRS⟩ : ∃ z, Hid (cFil x.c f wd = z) := ⟨_, rfl⟩
            rw [HRS.out] at k2 HST
            have HRN1 : Hid (∀ e, rs = .error e → r = .error e) := fun e he => by
              have h1 := HST.out
              rw [he] at h1
              exact HRJ.out.trans h1
            have HRN2 : Hid (∀ c', rs = .ok c' → r = cRun c' (fs.drop (j + 1)) (ws'.drop (j + 1))) := fun c' he => by
              have h1 := HST.out
              rw [he] at h1
              exact HRJ.out.trans h1
            clear hwd e' HCX2 HVX2 HST HRJ hlf
            go_wp2_with fail
            refine k2.mono ?_
            rintro e w7 ⟨hg7, h7⟩
            have HI7 : Hid (It w7 ig Sx (j + 1)) := (hg7.block ig (Array.getElem?_eq_some_iff.1 HI2.out).1 (fun e => by cases e; omega)).trans HI2.out
            have HY7 : Hid (Yx w7 g0 70 cz) := (hg7.block g0 HYX2.out.lt (fun e => by cases e; omega)).trans HYX2.out
            have HB7 := hid (HB2'.out.grown hg7 HB2'.out.size (fun k e => by cases e; exact HLO.out.2))
            clear hg7 k2 hnx hcw
            cases rs with
            | error ek =>
              obtain rfl : e = _ := h7
              have hek : ek ≠ 0 := cFil_err HRS.out
              have i1 : ¬ (ek : Int) = 0 := by omega
              have i2 : ((ek : Int) == 0) = false := by simp; omega
              have i3 : ((ek : Int) != 0) = true := by simp; omega
              have HRR : Hid (r = .error ek) := HRN1.out ek rfl
              have c0 := HY7.out.cell 0
              have c1 := HY7.out.cell 1
              have c2 := HY7.out.cell 2
              have c3 := HY7.out.cell 3
              have c4 := HY7.out.cell 4
              have c5 := HY7.out.cell 5
              have c6 := HY7.out.cell 6
              have c7 := HY7.out.cell 7
              simp only [cz, List.getElem?_cons_succ, List.getElem?_cons_zero] at c0 c1 c2 c3 c4 c5 c6 c7
              have f0 := HY7.out.fz 0
              have f1 := HY7.out.fz 1
              have f2 := HY7.out.fz 2
              have f3 := HY7.out.fz 3
              have f4 := HY7.out.fz 4
              have f5 := HY7.out.fz 5
              have f6 := HY7.out.fz 6
              have f7 := HY7.out.fz 7
              have HEK := hid hek
              clear hek HRN1 HRN2
              go_wp2_with fail
              refine bodyPost_ret (v := .tuple #[.agg cz.toArray, .int .i64 (ek : Nat)]) (results_yx rfl _ _ g0 cz _ rfl rfl ?_ Tryz.underlying70 rfl sizeCh) rfl ⟨HEE.out ek _ HRR.out HEK.out, ?_⟩
              · exact HY7.out.sets (us := cz) rfl
              · exact HB7.out.grown (grown_sets cz 0 _) HB7.out.size (fun k e => by cases e; have := HG0.out; omega)
            | ok c' =>
              obtain ⟨rfl, y, hyc, HCY, HVY⟩ := h7
              have HRN3 := hid (HRN2.out _ rfl)
              subst hyc
              have HCY := hid HCY
              have HVY := hid HVY
              go_wp2_with fail
              go_roundw
              case rel => exact ⟨j + 1, y, by omega, HRN3.out, HCY.out, HVY.out, HY7.out, HI7.out, HB7.out⟩
              case measure => rw [HI7.out.pos, HP1'.out]; omega
          · obtain rfl : j = n1 := by omega
            have hie : It wr ig Sx fs.length := by rw [HQF.out]; exact HI.out
            have hnx := HNE.out wr _ hie
            have HRF : Hid (r = .ok x.c) := by
              show _ = _
              rw [HRJ.out, List.drop_of_length_le (by rw [HQF.out]; exact Nat.le_refl _)]
              rfl
            have v0 := HCX.out.yx.cell 0
            have v1 := HCX.out.yx.cell 1
            have v2 := HCX.out.yx.cell 2
            have v3 := HCX.out.yx.cell 3
            have v4 := HCX.out.yx.cell 4
            have v5 := HCX.out.yx.cell 5
            have v6 := HCX.out.yx.cell 6
            have v7 := HCX.out.yx.cell 7
            simp only [cdc, List.getElem?_cons_succ, List.getElem?_cons_zero] at v0 v1 v2 v3 v4 v5 v6 v7
            have c0 := HYX.out.cell 0
            have c1 := HYX.out.cell 1
            have c2 := HYX.out.cell 2
            have c3 := HYX.out.cell 3
            have c4 := HYX.out.cell 4
            have c5 := HYX.out.cell 5
            have c6 := HYX.out.cell 6
            have c7 := HYX.out.cell 7
            simp only [cz, List.getElem?_cons_succ, List.getElem?_cons_zero] at c0 c1 c2 c3 c4 c5 c6 c7
            have f0 := HYX.out.fz 0
            have f1 := HYX.out.fz 1
            have f2 := HYX.out.fz 2
            have f3 := HYX.out.fz 3
            have f4 := HYX.out.fz 4
            have f5 := HYX.out.fz 5
            have f6 := HYX.out.fz 6
            have f7 := HYX.out.fz 7
            have HVF : Hid (Vc (wr.setCells g0 0 (cdc x)) (fun b => w.heap.size ≤ b) x) := (HVX.out.step fun k hk hV => (grown_sets (cdc x) 0 wr).block k hk (fun e => by have := hV.1; have := Option.some.inj e; omega)).wide (fun k hk hV => by have := hV.1; have := HLO.out.1; omega)
            have HBF : Hid (Below w.heap.size w (wr.setCells g0 0 (cdc x))) := HBX.out.grown (grown_sets _ 0 _) HBX.out.size (fun k e => by cases e; have := HG0.out; omega)
            have HYF := hid (HYX.out.sets (us := cdc x) rfl)
            clear hie HI HRJ HVX
            go_wp2_with fail
            refine bodyPost_ret (v := .tuple #[cdv x, .int .i64 0]) (results_yx rfl _ _ g0 (cdc x) _ rfl rfl ?_ Tryz.underlying70 rfl sizeCh) rfl ⟨?_, ?_⟩
            · exact HYF.out
            · rw [HRF.out]
              exact ⟨x, rfl, rfl, HVF.out⟩
            · exact HBF.out
      · have hr : r = .error 226 := by rw [HR3.out, if_pos hlen]
        have HRR := hid hr
        have hne : ((n1 : Int) != (q : Int)) = true := by simp; omega
        have hne2 : ¬ (n1 : Int) = (q : Int) := by omega
        have c0 := HY4.out.cell 0
        have c1 := HY4.out.cell 1
        have c2 := HY4.out.cell 2
        have c3 := HY4.out.cell 3
        have c4 := HY4.out.cell 4
        have c5 := HY4.out.cell 5
        have c6 := HY4.out.cell 6
        have c7 := HY4.out.cell 7
        simp only [cz, List.getElem?_cons_succ, List.getElem?_cons_zero] at c0 c1 c2 c3 c4 c5 c6 c7
        have f0 := HY4.out.fz 0
        have f1 := HY4.out.fz 1
        have f2 := HY4.out.fz 2
        have f3 := HY4.out.fz 3
        have f4 := HY4.out.fz 4
        have f5 := HY4.out.fz 5
        have f6 := HY4.out.fz 6
        have f7 := HY4.out.fz 7
        clear hr HR3
        go_wp2_with fail
        refine bodyPost_ret (v := .tuple #[.agg cz.toArray, .int .i64 226]) (results_yx rfl _ _ g0 cz _ rfl rfl ?_ Tryz.underlying70 rfl sizeCh) rfl ⟨HEE.out 226 _ HRR.out (by decide), ?_⟩
        · exact HY4.out.sets (us := cz) rfl
        · exact HB4.out.grown (grown_sets cz 0 _) HB4.out.size (fun k e => by cases e; have := HG0.out; omega)
end Go.Proofs.YtkeogggeefnoeaaGreatDoor
