import Derived.Test.YtcbmgpmjnehjdaaGreatRP
namespace Go.Proofs.YtcbmgpmjnehjdaaGreat
set_option maxRecDepth 100000
open Go.RowKit
set_option linter.unusedVariables false

theorem own_of_row {w : World} {B g : Nat} {zs : List Int} (h : Row w g zs) (hb : B ≤ g) (hl : zs.length ≤ maxLen) : w.ownsRow B 5 1 (.slice (some ⟨g, 0, none⟩) zs.length zs.length) zs.length (cells zs) := by
  refine ⟨by rw [cells_length, Nat.mul_one], .inr ⟨g, zs.length, _, rfl, hb, h, Nat.le_refl _, hl, by simp [cells_length], ?_⟩⟩
  rw [Nat.mul_one]
  exact List.take_of_length_le (by simp [cells_length])
/-- Put of the numbers: the bytes and the number behind them, in new memory. -/
theorem oput8 (a : Option Addr) (n c : Nat) (zs : List Int) (x : Int) (w : World) (hb : Bs w a n zs) (hn : n ≤ 100000) (h0 : 0 ≤ x) (h1 : x ≤ 255) :
    Calls Tryz.prog 78 #[.slice a n c, .int .u8 x] w fun e w' => ∃ v, e = .returned v ∧ w'.ownsRow w.heap.size 5 1 v (n + 1) (cells (zs ++ be 1 x)) ∧ Below w.heap.size w w' := by
  refine (putW8 a n c zs x w hb (by omega) h0 h1).mono ?_
  rintro e w' ⟨rfl, h, g⟩
  have hl : (zs ++ be 1 x).length = n + 1 := by rw [List.length_append, be_length, hb.1]
  have o := own_of_row h (Nat.le_refl _) (by rw [hl]; unfold maxLen; omega)
  rw [hl] at o
  exact ⟨_, rfl, o, below_of_grown g⟩
/-- Put of the numbers: the bytes and the number behind them, in new memory. -/
theorem oput32 (a : Option Addr) (n c : Nat) (zs : List Int) (x : Int) (w : World) (hb : Bs w a n zs) (hn : n ≤ 100000) (h0 : 0 ≤ x) (h1 : x ≤ 4294967295) :
    Calls Tryz.prog 79 #[.slice a n c, .int .u32 x] w fun e w' => ∃ v, e = .returned v ∧ w'.ownsRow w.heap.size 5 1 v (n + 4) (cells (zs ++ be 4 x)) ∧ Below w.heap.size w w' := by
  refine (putW32 a n c zs x w hb (by omega) h0 h1).mono ?_
  rintro e w' ⟨rfl, h, g⟩
  have hl : (zs ++ be 4 x).length = n + 4 := by rw [List.length_append, be_length, hb.1]
  have o := own_of_row h (Nat.le_refl _) (by rw [hl]; unfold maxLen; omega)
  rw [hl] at o
  exact ⟨_, rfl, o, below_of_grown g⟩
/-- Put of the numbers: the bytes and the number behind them, in new memory. -/
theorem oput64 (a : Option Addr) (n c : Nat) (zs : List Int) (x : Int) (w : World) (hb : Bs w a n zs) (hn : n ≤ 100000) (h0 : 0 ≤ x) (h1 : x ≤ 18446744073709551615) :
    Calls Tryz.prog 76 #[.slice a n c, .int .u64 x] w fun e w' => ∃ v, e = .returned v ∧ w'.ownsRow w.heap.size 5 1 v (n + 8) (cells (zs ++ be 8 x)) ∧ Below w.heap.size w w' := by
  refine (putW64 a n c zs x w hb (by omega) h0 h1).mono ?_
  rintro e w' ⟨rfl, h, g⟩
  have hl : (zs ++ be 8 x).length = n + 8 := by rw [List.length_append, be_length, hb.1]
  have o := own_of_row h (Nat.le_refl _) (by rw [hl]; unfold maxLen; omega)
  rw [hl] at o
  exact ⟨_, rfl, o, below_of_grown g⟩
set_option maxHeartbeats 400000 in
/-- The landed PutBoots. -/
theorem putBoots_ (n : Int) (w : World) (hn : -9223372036854775808 ≤ n ∧ n ≤ 9223372036854775807) :
    Calls Tryz.prog 37 #[.int .i64 n] w fun e w' => Rp w (bK n) (bV n) (bE n) e w' := by
  have BA : Below w.heap.size w (w.alloc (.cells #[.slice none 0 0, .slice none 0 0] 54)) := (Below.refl _ _).alloc (Nat.le_refl _) _
  have m1 := heap_alloc_new w (.cells #[.slice none 0 0, .slice none 0 0] 54)
  by_cases h : 0 ≤ n ∧ n ≤ 4611686018427387904
  · have hok : bOk n = true := decide_eq_true h
    have HK : Hid (bK n = [66]) := by show _ = _; unfold bK; rw [hok]; rfl
    have HV : Hid (bV n = be 8 n) := by show _ = _; unfold bV; rw [hok]; rfl
    have HE : Hid (bE n = 0) := by show _ = _; unfold bE; rw [hok]; rfl
    rw [HK.out, HV.out, HE.out]
    have kw := fun wx => rwithin_ n 0 4611686018427387904 wx
    have hw : wtn n 0 4611686018427387904 = true := decide_eq_true h
    rw [hw] at kw
    have hwr : IntKind.u64.wrap n = n := by simp [IntKind.wrap, IntKind.bits, IntKind.signed]; omega
    have n0 : 0 ≤ n := h.1
    have n1 : n < 18446744073709551616 := by omega
    clear hok HK HV HE h hw
    have HBA := hid BA
    have HM := hid m1
    clear BA m1
    go_enter Tryz.func37, Tryz.ntmps37
    go_wp2_with fail
    refine (kw _).mono ?_
    rintro e w1 ⟨rfl, hw⟩
    rw [hw]
    clear hw w1 kw
    have BA : Below w.heap.size w ((w.alloc (.cells #[.slice none 0 0, .slice none 0 0] 54)).alloc (.cells #[.int .u8 66] 5)) := HBA.out.alloc (by simp) _
    have m1 : ((w.alloc (.cells #[.slice none 0 0, .slice none 0 0] 54)).alloc (.cells #[.int .u8 66] 5)).heap[w.heap.size]? = some (.cells #[.slice none 0 0, .slice none 0 0] 54 (0, 0)) := (Below.heap_alloc _ _ _ (by simp)).trans HM.out
    have m2 : Bs ((w.alloc (.cells #[.slice none 0 0, .slice none 0 0] 54)).alloc (.cells #[.int .u8 66] 5)) (some ⟨w.heap.size + 1, 0, none⟩) 1 [66] := by
      have := bs_lit (w.alloc (.cells #[.slice none 0 0, .slice none 0 0] 54)) [66] (0, 0) (Okb1 66 (by omega))
      rw [World.size_alloc] at this
      exact this
    clear HM HBA
    go_wp2_with fail
    refine (oput64 none 0 0 [] n _ ⟨rfl, by simp, .inl rfl⟩ (by omega) n0 (by omega)).mono ?_
    rintro e w2 ⟨v2, rfl, o2, g2⟩
    rw [List.nil_append] at o2
    obtain ⟨va, vc, rfl, vs⟩ := Vs.ofOwn o2 (be_byte _ _)
    have HB := hid (bel_bel BA BA.size g2)
    have HM := hid ((g2.block w.heap.size (by simp; omega)).trans m1)
    have HKB := hid (m2.below g2)
    have HVS := hid (vs.wide (V' := fun x => w.heap.size < x) fun x _ hx => by simp at hx; omega)
    clear BA m1 m2 o2 g2 vs
    have c0 := (two_cell HM.out).1
    have c1 := (two_cell HM.out).2
    have f0 := two_fz HM.out 0
    have f1 := two_fz HM.out 1
    have HM2 := hid (two_set (a := .slice (some ⟨w.heap.size + 1, 0, none⟩) 1 1) (b := .slice va 8 vc) HM.out)
    have HO := fun j (h : j ≠ w.heap.size) => two_other (w := w2) (a := .slice (some ⟨w.heap.size + 1, 0, none⟩) 1 1) (b := .slice va 8 vc) h
    have HB3 := hid ((HB.out.setCell (p := ⟨w.heap.size, 0, none⟩) (Nat.le_refl _) (.slice (some ⟨w.heap.size + 1, 0, none⟩) 1 1)).setCell (p := ⟨w.heap.size, 1, none⟩) (Nat.le_refl _) (.slice va 8 vc))
    go_wp2_with fail
    refine bodyPost_ret (v := .tuple #[.agg #[.slice (some ⟨w.heap.size + 1, 0, none⟩) 1 1, .slice va 8 vc], .int .i64 0]) ?_ rfl ?_
    · exact results_rw rfl _ _ w.heap.size _ _ 1 1 8 vc _ rfl rfl (two_cell HM2.out).1 (two_cell HM2.out).2
    · refine ⟨some ⟨w.heap.size + 1, 0, none⟩, 1, va, vc, by rw [be_length]; rfl, ?_, ?_, HB3.out⟩
      · exact ⟨HKB.out.same_block fun ad e _ => by obtain rfl := Option.some.inj e; exact HO _ (by show w.heap.size + 1 ≠ _; omega), by simp, by unfold maxLen; simp, fun e => (by cases e), fun ad e _ => by obtain rfl := Option.some.inj e; show w.heap.size ≤ w.heap.size + 1; omega⟩
      · rw [be_length]
        exact (HVS.out.step fun x _ hx _ => HO x (by omega)).wide fun x _ hx => by omega
  · have hok : bOk n = false := decide_eq_false h
    have HK : Hid (bK n = []) := by show _ = _; unfold bK; rw [hok]; rfl
    have HV : Hid (bV n = []) := by show _ = _; unfold bV; rw [hok]; rfl
    have HE : Hid (bE n = 114) := by show _ = _; unfold bE; rw [hok]; rfl
    rw [HK.out, HV.out, HE.out]
    have kw := fun wx => rwithin_ n 0 4611686018427387904 wx
    have hw : wtn n 0 4611686018427387904 = false := decide_eq_false h
    rw [hw] at kw
    have HM2 := hid m1
    have HB2 := hid BA
    clear hok HK HV HE BA m1 hw h
    go_enter Tryz.func37, Tryz.ntmps37
    go_wp2_with fail
    refine (kw _).mono ?_
    rintro e w1 ⟨rfl, hw⟩
    rw [hw]
    clear hw w1 kw
    go_wp2_with fail
    refine bodyPost_ret (v := .tuple #[.agg #[.slice none 0 0, .slice none 0 0], .int .i64 114]) ?_ rfl ⟨none, 0, none, 0, rfl, vs_none _ _, vs_none _ _, HB2.out⟩
    exact results_rw rfl _ _ w.heap.size _ _ 0 0 0 0 _ rfl rfl (two_cell HM2.out).1 (two_cell HM2.out).2
end Go.Proofs.YtcbmgpmjnehjdaaGreat
namespace Go.Proofs.YtcbmgpmjnehjdaaGreat
set_option maxRecDepth 100000
open Go.RowKit
set_option linter.unusedVariables false

/-- What readBoots reads of a value. -/
def brd (v : List Int) : Int := IntKind.i64.wrap (gv 8 v 0)
theorem brd_in (v : List Int) : -9223372036854775808 ≤ brd v ∧ brd v ≤ 9223372036854775807 := by
  unfold brd
  simp [IntKind.wrap, IntKind.bits, IntKind.signed]
  split <;> omega
theorem readBoots_ (rk rv gg : Nat) (v : List Int) (w : World) (h : RS w rv gg v 0 0) (hl : v.length ≤ 140737488351232) (hb : Okb v) :
    Calls Tryz.prog 58 #[.pointer (some ⟨rk, 0, none⟩), .pointer (some ⟨rv, 0, none⟩)] w fun e w' => e = .returned (.int .i64 (brd v)) ∧ Only rv w w' := by
  have k1 := fun wx hx => getAny64 rv gg v 0 0 wx hx hl (by omega)
  have b := gvIn64 (e := 0) hb
  unfold brd
  generalize gv 8 v 0 = x at *
  obtain ⟨y, HY⟩ : ∃ y, IntKind.i64.wrap x = y := ⟨_, rfl⟩
  rw [HY]
  go_enter Tryz.func58, Tryz.ntmps58
  go_wp2_with fail
  refine (k1 _ h).mono ?_
  rintro e w1 ⟨rfl, -, g1⟩
  go_wp2_with fail
  go_ret
  exact ⟨rfl, g1⟩
/-- A row whose Put is this row. -/
def gtB (k v : List Int) : Bool := decide (bE (brd v) = 0) && sameB (bK (brd v)) k && sameB (bV (brd v)) v
theorem gtB_eq (k v : List Int) (hb : Okb v) : gtB k v = gbOk k v ∧ (gbOk k v = true → brd v = val v) := by
  have key : gbOk k v = true → brd v = val v ∧ bOk (val v) = true := fun h => by
    obtain ⟨h1, h2, h3⟩ := of_decide_eq_true h
    have hv := val_bound v hb
    have e : gv 8 v 0 = val v := by
      rw [(g_yes (p := 0) (show 8 ≤ v.length by omega)).1, List.take_of_length_le (by omega)]
    refine ⟨?_, decide_eq_true ⟨hv.1, h2⟩⟩
    unfold brd
    rw [e]
    simp [IntKind.wrap, IntKind.bits, IntKind.signed]
    omega
  refine ⟨?_, fun h => (key h).1⟩
  cases hg : gbOk k v with
  | true =>
    obtain ⟨e1, e2⟩ := key hg
    obtain ⟨h1, h2, h3⟩ := of_decide_eq_true hg
    unfold gtB
    rw [e1]
    have f1 : bK (val v) = [66] := by unfold bK; rw [e2]; rfl
    have f2 : bV (val v) = be 8 (val v) := by unfold bV; rw [e2]; rfl
    have f3 : bE (val v) = 0 := by unfold bE; rw [e2]; rfl
    rw [f1, f2, f3, be_val8 hb h1, h3, sameB_self, sameB_self]
    rfl
  | false =>
    cases hq : gtB k v with
    | false => rfl
    | true =>
      exfalso
      unfold gtB at hq
      simp only [Bool.and_eq_true, decide_eq_true_eq] at hq
      obtain ⟨⟨q1, q2⟩, q3⟩ := hq
      have ok : bOk (brd v) = true := by
        cases h : bOk (brd v) with
        | true => rfl
        | false => unfold bE at q1; rw [h] at q1; simp at q1
      unfold bK at q2
      unfold bV at q3
      rw [ok] at q2 q3
      simp only [if_true] at q2 q3
      have k66 : k = [66] := (of_decide_eq_true q2).symm
      have v8 : be 8 (brd v) = v := of_decide_eq_true q3
      have hlen : v.length = 8 := by rw [← v8, be_length]
      have hin := of_decide_eq_true ok
      have e : gv 8 v 0 = val v := by
        rw [(g_yes (p := 0) (show 8 ≤ v.length by omega)).1, List.take_of_length_le (by omega)]
      have hv := val_bound v hb
      rw [hlen] at hv
      have : val v = brd v := by
        have hz : val (be 8 (brd v)) = brd v := by rw [val_be]; exact Int.emod_eq_of_lt hin.1 (by have := hin.2; omega)
        rw [v8] at hz
        exact hz
      have : gbOk k v = true := decide_eq_true ⟨hlen, by rw [this]; exact hin.2, k66⟩
      rw [hg] at this
      cases this
end Go.Proofs.YtcbmgpmjnehjdaaGreat
namespace Go.Proofs.YtcbmgpmjnehjdaaGreat
set_option maxRecDepth 100000
open Go.RowKit
set_option linter.unusedVariables false

theorem bE_or (n : Int) : bE n = 0 ∨ bE n = 114 := by unfold bE; split <;> simp
theorem only_cell {q : Nat} {w w' : World} (h : Only q w w') {p : Addr} (hp : p.block ≠ q) : w'.cell? p = w.cell? p := World.cell?_of_block (h.block p.block hp)
set_option maxHeartbeats 1000000 in
/-- The landed get, of the boots. -/
theorem getI_ (ka va : Option Addr) (kn kc vn vc : Nat) (k v : List Int) (w : World) (hk : Bs w ka kn k) (hv : Bs w va vn v) (hka : ka = none → kc = 0) (hva : va = none → vc = 0) (hkc : kn ≤ kc) (hvc : vn ≤ vc) (h1 : kn ≤ 140737488351232) (h2 : vn ≤ 140737488351232) :
    Calls Tryz.prog 57 #[.agg #[.slice ka kn kc, .slice va vn vc], .func (.func 58) #[] #[], .func (.func 37) #[] #[]] w fun e w' => e = .returned (.tuple #[.int .i64 (gbN k v), .int .i64 (gbE k v)]) ∧ Below w.heap.size w w' := by
  have HG := hid (gtB_eq k v hv.2.1)
  have BA : Below w.heap.size w (w.alloc (.cells #[.slice ka kn kc, .slice va vn vc] 54)) := (Below.refl _ _).alloc (Nat.le_refl _) _
  have m1 := heap_alloc_new w (.cells #[.slice ka kn kc, .slice va vn vc] 54)
  have HBA := hid BA
  have HM1 := hid m1
  have HK := hid hk
  have HV := hid hv
  have HWS : Hid ((w.alloc (.cells #[.slice ka kn kc, .slice va vn vc] 54)).heap.size = w.heap.size + 1) := by show _ = _; simp
  clear BA m1 hk hv
  have y0 := (two_cell HM1.out).1
  have y1 := (two_cell HM1.out).2
  generalize HW : (w.alloc (.cells #[.slice ka kn kc, .slice va vn vc] 54)) = W at *
  have k1 := fun wx (h : Bw W wx) => newReader15 ka kn kc k wx ((HK.out.below HBA.out).below h) hka h1 hkc (by have := Below.size h; have := HWS.out; omega)
  have k2 := fun wx (h : Bw W wx) => newReader15 va vn vc v wx ((HV.out.below HBA.out).below h) hva h2 hvc (by have := Below.size h; have := HWS.out; omega)
  have BW0 : Bw W { W with drawn := W.drawn + 1 } := Bw.drew W
  have k3 := fun rk rv g wx h => readBoots_ rk rv g v wx h (by rw [HV.out.1]; exact h2) HV.out.2.1
  obtain ⟨x, HX⟩ : ∃ x, Hid (brd v = x) := ⟨_, rfl⟩
  have hx := brd_in v
  rw [HX.out] at hx k3
  clear hka hva hkc hvc
  go_enter Tryz.func57, Tryz.ntmps57
  go_wp2_with fail
  clear HW
  go_region_held (fun wx => wx.cell? ⟨w.heap.size, 0, none⟩ = some (.slice ka kn kc) ∧ wx.cell? ⟨w.heap.size, 1, none⟩ = some (.slice va vn vc)) (go_keep) (first | (go_at_call 58; refine (k3 _ _ _ _ (by exact R2.out)).mono ?_; rintro en w4 ⟨rfl, o4⟩; have HNE : w.heap.size ≠ r2 := (by have := HI2.out; have := Below.size G2; have := HWS.out; omega); have u4 := (only_cell o4 (p := ⟨w.heap.size, 0, none⟩) HNE).trans u2; have u5 := (only_cell o4 (p := ⟨w.heap.size, 1, none⟩) HNE).trans u3; have HO4 := hid o4; clear o4) | (have hh := G2; clear hh; go_at_call 89; refine (k2 _ (by exact G2)).mono ?_; rintro en w3 ⟨r2, g2, rfl, s2, i2, j2, -, b3⟩; have G3 := Bw.on G2 b3; have u2 := Bw.cell G3 y0; have u3 := Bw.cell G3 y1; have R2 := hid s2; have HI2 := hid i2; clear s2 i2 j2 b3) | (go_at_call 89; refine (k1 _ (by exact BW0)).mono ?_; rintro en w2 ⟨r1, g1, rfl, s1, i1, j1, -, b2⟩; have G2 := Bw.on BW0 b2; have u0 := Bw.cell G2 y0; have u1 := Bw.cell G2 y1; clear s1 i1 j1 b2))
  have HB4 : Hid (Below w.heap.size w w4) := bel_only (bel_bel HBA.out HBA.out.size G3) HO4.out (by have := HI2.out; have := Below.size G2; have := HWS.out; omega)
  have HM4 : Hid (w4.heap[w.heap.size]? = some (.cells #[.slice ka kn kc, .slice va vn vc] 54 (0, 0))) := by
    show _ = _
    rw [HO4.out.block _ (by have := HI2.out; have := Below.size G2; have := HWS.out; omega), Below.block G3 _ (by have := HWS.out; omega)]
    exact HM1.out
  clear HNE u0 u1 u2 u3 u4 u5 G2 G3 BW0 y0 y1 k1 k2 k3 R2 HI2 HO4 HM1 HBA
  go_wp2_with fail
  refine (putBoots_ x w4 hx).mono ?_
  rintro e w5 ⟨pa, pc, qa, qc, rfl, vk, vv, g5⟩
  have HG2 : Hid (gbOk k v = (decide (bE x = 0) && sameB (bK x) k && sameB (bV x) v) ∧ (gbOk k v = true → x = val v)) := by
    have h := HG.out
    unfold gtB at h
    rw [HX.out] at h
    exact ⟨h.1.symm, h.2⟩
  have hE := bE_or x
  clear HG
  generalize bE x = E at *
  generalize bK x = K at *
  generalize bV x = V at *
  have HB5 := hid (bel_bel HB4.out HB4.out.size g5)
  have HM5 := hid ((g5.block w.heap.size (Array.getElem?_eq_some_iff.1 HM4.out).1).trans HM4.out)
  have B6 : Below w5.heap.size w5 (w5.alloc (.cells #[.slice pa K.length pc, .slice qa V.length qc] 54)) := (Below.refl _ _).alloc (Nat.le_refl _) _
  have m6 := heap_alloc_new w5 (.cells #[.slice pa K.length pc, .slice qa V.length qc] 54)
  have m7 := (B6.block w.heap.size (Array.getElem?_eq_some_iff.1 HM5.out).1).trans HM5.out
  have HB6 := hid (bel_bel HB5.out HB5.out.size B6)
  have HK6 := hid ((HK.out.below HB5.out).below B6)
  have HV6 := hid ((HV.out.below HB5.out).below B6)
  have HP6 := hid (vk.bs.below B6)
  have HQ6 := hid (vv.bs.below B6)
  have y0 := (two_cell m6).1
  have y1 := (two_cell m6).2
  have z0 := (two_cell m7).1
  have z1 := (two_cell m7).2
  obtain ⟨kl, HKL⟩ : ∃ n : Nat, Hid (K.length = n) := ⟨_, rfl⟩
  obtain ⟨vl, HVL⟩ : ∃ n : Nat, Hid (V.length = n) := ⟨_, rfl⟩
  simp only [HKL.out, HVL.out] at y0 y1 z0 z1 HB6 HK6 HV6 HP6 HQ6 ⊢
  clear HB4 HM4 HB5 HM5 B6 m6 m7 vk vv g5 HK HV
  rcases hE with hE | hE
  · subst hE
    have ke := fun wx (hx : wx = (w5.alloc (.cells #[.slice pa kl pc, .slice qa vl qc] 54))) => beq_ pa ka kl pc kn kc K k wx (by rw [hx]; exact HP6.out) (by rw [hx]; exact HK6.out)
    have kf := fun wx (hx : wx = (w5.alloc (.cells #[.slice pa kl pc, .slice qa vl qc] 54))) => beq_ qa va vl qc vn vc V v wx (by rw [hx]; exact HQ6.out) (by rw [hx]; exact HV6.out)
    generalize sameB K k = q1 at *
    generalize sameB V v = q2 at *
    cases q1
    · have HR : Hid (gbN k v = 0 ∧ gbE k v = 114) := by
        have h : gbOk k v = false := by rw [HG2.out.1]; rfl
        unfold gbN gbE
        rw [h]
        exact ⟨rfl, rfl⟩
      clear HG2
      go_wp2_with fail
      refine (ke _ rfl).mono ?_
      rintro e w7 ⟨rfl, rfl⟩
      clear ke kf
      go_wp2_with fail
      go_ret2
      exact ⟨by rw [HR.out.1, HR.out.2]; rfl, HB6.out⟩
    · cases q2
      · have HR : Hid (gbN k v = 0 ∧ gbE k v = 114) := by
          have h : gbOk k v = false := by rw [HG2.out.1]; rfl
          unfold gbN gbE
          rw [h]
          exact ⟨rfl, rfl⟩
        clear HG2
        go_wp2_with fail
        refine (ke _ rfl).mono ?_
        rintro e w7 ⟨rfl, rfl⟩
        go_wp2_with fail
        refine (kf _ rfl).mono ?_
        rintro e w7 ⟨rfl, rfl⟩
        clear ke kf
        go_wp2_with fail
        go_ret2
        exact ⟨by rw [HR.out.1, HR.out.2]; rfl, HB6.out⟩
      · have HR : Hid (gbN k v = x ∧ gbE k v = 0) := by
          have h : gbOk k v = true := by rw [HG2.out.1]; rfl
          have e := HG2.out.2 h
          unfold gbN gbE
          rw [h, e]
          exact ⟨rfl, rfl⟩
        clear HG2
        go_wp2_with fail
        refine (ke _ rfl).mono ?_
        rintro e w7 ⟨rfl, rfl⟩
        go_wp2_with fail
        refine (kf _ rfl).mono ?_
        rintro e w7 ⟨rfl, rfl⟩
        clear ke kf
        go_wp2_with fail
        go_ret2
        exact ⟨by rw [HR.out.1, HR.out.2]; rfl, HB6.out⟩
  · subst hE
    have HR : Hid (gbN k v = 0 ∧ gbE k v = 114) := by
      have h : gbOk k v = false := by rw [HG2.out.1]; rfl
      unfold gbN gbE
      rw [h]
      exact ⟨rfl, rfl⟩
    clear HG2
    go_wp2_with fail
    go_ret2
    exact ⟨by rw [HR.out.1, HR.out.2]; rfl, HB6.out⟩
set_option maxHeartbeats 400000 in
/-- The landed GetBoots. -/
theorem getBoots_ (ka va : Option Addr) (kn kc vn vc : Nat) (k v : List Int) (w : World) (hk : Bs w ka kn k) (hv : Bs w va vn v) (hka : ka = none → kc = 0) (hva : va = none → vc = 0) (hkc : kn ≤ kc) (hvc : vn ≤ vc) (h1 : kn ≤ 140737488351232) (h2 : vn ≤ 140737488351232) :
    Calls Tryz.prog 25 #[.agg #[.slice ka kn kc, .slice va vn vc]] w fun e w' => e = .returned (.tuple #[.int .i64 (gbN k v), .int .i64 (gbE k v)]) ∧ Below w.heap.size w w' := by
  have kk := fun wx (h : Below w.heap.size w wx) => getI_ ka va kn kc vn vc k v wx (hk.below h) (hv.below h) hka hva hkc hvc h1 h2
  clear hk hv
  generalize gbN k v = N at *
  generalize gbE k v = E at *
  go_enter Tryz.func25, Tryz.ntmps25
  have B0 : Below w.heap.size w (w.alloc (.cells #[.slice ka kn kc, .slice va vn vc] 54)) := (Below.refl _ _).alloc (Nat.le_refl _) _
  go_wp2_with fail
  refine (kk _ B0).mono ?_
  rintro e w1 ⟨rfl, g1⟩
  have HB := hid (bel_bel B0 B0.size g1)
  clear kk B0 g1
  go_wp2_with fail
  go_ret2
  exact ⟨rfl, HB.out⟩
end Go.Proofs.YtcbmgpmjnehjdaaGreat
