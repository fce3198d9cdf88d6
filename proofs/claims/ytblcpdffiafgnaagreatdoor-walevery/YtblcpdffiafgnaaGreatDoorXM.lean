import Derived.Test.YtblcpdffiafgnaaGreatDoorXL
namespace Go.Proofs.YtblcpdffiafgnaaGreatDoor
set_option linter.unusedSimpArgs false
set_option maxRecDepth 100000
open Go.RowKit Go.Shelf
set_option linter.unusedVariables false

theorem Um.s2 {w : World} {g : Nat} {e q l m : Int} (h : Um w g e q l m) (x : Int) : Um (w.setCell ⟨g, 2, none⟩ (.int .i64 x)) g e q x m := by
  unfold Um at *
  simp [World.setCell, Array.getElem?_modify, h]
theorem Um.s3 {w : World} {g : Nat} {e q l m : Int} (h : Um w g e q l m) (x : Int) : Um (w.setCell ⟨g, 3, none⟩ (.int .u32 x)) g e q l x := by
  unfold Um at *
  simp [World.setCell, Array.getElem?_modify, h]
theorem Um.only {w w' : World} {g r : Nat} {e q l m : Int} (h : Um w g e q l m) (ho : Only r w w') (hr : g ≠ r) : Um w' g e q l m := h.at (ho.block g hr)
theorem Sm.only {w w' : World} {g r : Nat} {T : ByteArray} {e q p : Int} {v : Value} (h : Sm w g T e q p v) (ho : Only r w w') (hr : g ≠ r) : Sm w' g T e q p v := h.at (ho.block g hr)
theorem wp_su {o : Oper} {a : Act} {w : World} {K : Act → World → Prop} {Q : Exit → Act → World → Prop} (hdst : o.dst = none) (x y : Operand) (ho : o.op = .store 88 x y)
    (g : Nat) (e q l m : Int) (hx : a.eval x = .pointer (some ⟨g, 0, none⟩)) (hy : a.eval y = .agg #[.int .i64 e, .int .i64 q, .int .i64 l, .int .u32 m]) (e0 q0 l0 m0 : Int) (hg : Um w g e0 q0 l0 m0)
    (h : K a (w.setRow g #[.int .i64 e, .int .i64 q, .int .i64 l, .int .u32 m])) : o.wp Tryz.prog a w K Q := by
  refine wp_store_row _ x y ho g #[.int .i64 e, .int .i64 q, .int .i64 l, .int .u32 m] hx hy _ _ hg sizeU rfl (by simp [Value.oneCell']) ?_
  rw [hdst]
  exact h
theorem le_both {a b : Nat} (h : a = b) : a ≤ b ∧ b ≤ a := by omega
section
variable {w : World} {d : Nat} {s : St} {Q : Nat → Prop} {a : Option Addr} {n c : Nat} {zs : List Int}
set_option maxHeartbeats 8000000 in
theorem gsup_4 (i : Nat) (h : Dev w d s Q) (hT : Tab w) (hb : Bs w a n zs) (hc : n ≤ c) (hm : c ≤ maxLen) (e q : Nat) (l : List Int) (hs : gs zs = some ⟨t1, e, q, i, l⟩) (hei : e % 2 = i) (hl : l.length ≠ 16) :
    Calls Tryz.prog 102 #[.pointer (some ⟨d, 0, none⟩), .int .i64 i, .slice a n c] w fun en w' => noSup w w' en := by
  have hMy := (gs_some hs).2.1
  have hl480 : l.length ≤ 480 := hMy.2.2.2.2
  have heb : (1 : Int) ≤ e ∧ (e : Int) ≤ 4611686018427387904 := hMy.2.1
  have hyl : By l := by
    have h1 := (gs_some hs).2.2.2
    have h2 : l = (rs zs).l := by rw [← h1]
    rw [h2]
    exact sl_by hb.2.1 _ _
  have B0 := unew w 0 0 0 0
  have m0 := Um.new w 0 0 0 0
  have kg := get_y a n c zs _ (hT.bel B0) (hb.below B0) hc hm ⟨t1, e, q, i, l⟩ hs
  obtain ⟨m, Hm⟩ : ∃ m, Hid (l.length = m) := ⟨_, rfl⟩
  simp only [Hm.out] at kg
  have hm480 : m ≤ 480 := by rw [← Hm.out]; exact hl480
  have HB0 := hid B0
  have HM0 := hid m0
  have HDV := hid h
  have z0 : ((t1).toList == [67, 86, 83, 49]) = true := tl_yes rfl
  have z1 : ((t1).toList != [67, 86, 83, 49]) = false := by rw [bne, z0]; rfl
  have z2 : (e : Int) % 2 = (i : Int) := by omega
  have z3 : ((i : Int) != (i : Int)) = false := by simp
  have y0 : ∀ zs, some l = some zs → By zs := fun zs hz => by obtain rfl := Option.some.inj hz; exact hyl
  have y1 := nz_by y0
  have y2 := nz_by y1
  have y3 := nz_by y2
  obtain ⟨v1a, v1b⟩ := vz_bd y0
  obtain ⟨v2a, v2b⟩ := vz_bd y1
  obtain ⟨v3a, v3b⟩ := vz_bd y2
  obtain ⟨v4a, v4b⟩ := vz_bd y3
  have HZ4 := hid (nz4 l)
  rw [Hm.out] at hl HZ4
  obtain ⟨V1, HV1⟩ : ∃ V1, Hid (vz (some l) = V1) := ⟨_, rfl⟩
  obtain ⟨V2, HV2⟩ : ∃ V2, Hid (vz (nz (some l)) = V2) := ⟨_, rfl⟩
  obtain ⟨V3, HV3⟩ : ∃ V3, Hid (vz (nz (nz (some l))) = V3) := ⟨_, rfl⟩
  obtain ⟨V4, HV4⟩ : ∃ V4, Hid (vz (nz (nz (nz (some l)))) = V4) := ⟨_, rfl⟩
  rw [HV1.out] at v1a v1b
  rw [HV2.out] at v2a v2b
  rw [HV3.out] at v3a v3b
  rw [HV4.out] at v4a v4b
  clear B0 m0 hb hs h hMy hl480 hT hei y0 y1 y2 y3
  go_enter Tryz.func102, Tryz.ntmps102
  go_wp2_with fail
  refine kg.mono ?_
  rintro x1 w1 ⟨g5, rfl, hg5, r1, g1⟩
  simp only
  have m1 := HM0.out.below g1
  have B1 := bel_bel HB0.out HB0.out.size g1
  have B2 := B1.alloc B1.size (.cells #[.string t1, .int .i64 e, .int .i64 q, .int .i64 i, .slice (some ⟨g5, 0, none⟩) m m] 31)
  have m2 := m1.at (Below.heap_alloc w1 (.cells #[.string t1, .int .i64 e, .int .i64 q, .int .i64 i, .slice (some ⟨g5, 0, none⟩) m m] 31) _ m1.lt)
  have s1 := Sm.new w1 t1 e q i (.slice (some ⟨g5, 0, none⟩) m m)
  have d0 := s1.c0
  have d1 := s1.c1
  have d3 := s1.c3
  have d4 := s1.c4
  have b5 : Bs (w1.alloc (.cells #[.string t1, .int .i64 e, .int .i64 q, .int .i64 i, .slice (some ⟨g5, 0, none⟩) m m] 31)) (some ⟨g5, 0, none⟩) m l := (r1.kept (r := none) (World.grownBy_alloc w1 _ _) (by simp) : Row _ g5 l).bs12 Hm.out hyl
  have kr := newReader (some ⟨g5, 0, none⟩) m m l _ b5 (fun q => by cases q) (by omega) (Nat.le_refl _)
  have HM := hid m2
  have HB := hid B2
  have HS := hid s1
  have hw1 : w.heap.size < w1.heap.size := m1.lt
  clear kg g1 m1 B1 B2 m2 s1 HM0 HB0 r1 b5
  go_wp2_with fail
  have hszW := le_both (World.size_alloc w1 (.cells #[.string t1, .int .i64 e, .int .i64 q, .int .i64 i, .slice (some ⟨g5, 0, none⟩) m m] 31))
  generalize w1.alloc (.cells #[.string t1, .int .i64 e, .int .i64 q, .int .i64 i, .slice (some ⟨g5, 0, none⟩) m m] 31) = W at *
  generalize w1.heap.size = fb at *
  refine kr.mono ?_
  rintro en w2 ⟨r, gr, rfl, R2, hr, hgr, hgl0, G2⟩
  have hgl := hgl0 (by simp)
  clear hgl0
  have B2 := below_of_grown G2
  have HM2 := hid (HM.out.below B2)
  have HS2 := hid (HS.out.kept B2)
  have HB2 := hid (bel_bel HB.out HB.out.size B2)
  have HR2 : Hid (Rs w2 r gr 0 (some l)) := ⟨0, by omega, by omega, by rw [Hm.out]; omega, R2⟩
  have kg1 := getR_ r gr 0 _ w2 HR2.out (by omega)
  rw [HV1.out] at kg1
  clear kr R2 G2 B2 HM HB HS d0 d1 d3 d4
  go_wp2_with fail
  refine kg1.mono ?_
  rintro en w3 ⟨rfl, R3, O3⟩
  have kg2 := getR_ r gr 4 _ w3 R3 (by omega)
  rw [HV2.out] at kg2
  have HM3 := hid (HM2.out.only O3 (by omega))
  have HS3 := hid (HS2.out.only O3 (by omega))
  have HB3 := hid (HB2.out.trans (O3.below (by omega)))
  have hs3 := le_both O3.size
  clear kg1 R3 O3 HR2 HM2 HS2 HB2
  go_wp2_with fail
  refine kg2.mono ?_
  rintro en w4 ⟨rfl, R4, O4⟩
  have hr2 := R4.lt
  have HM4 := hid (HM3.out.only O4 (by omega))
  have S4 := HS3.out.only O4 (by omega)
  have HB4 := hid (HB3.out.trans (O4.below (by omega)))
  have d1 := S4.c1
  have d2 := S4.c2
  have BA := unew w4 e q 0 0
  have R5 := R4.below BA
  have U5 := Um.new w4 e q 0 0
  have HM5 := hid (HM4.out.below BA)
  have HB5 := hid (bel_bel HB4.out HB4.out.size BA)
  have kg3 := getR_ r gr 8 _ _ R5 (by omega)
  rw [HV3.out] at kg3
  have HU5 := hid U5
  have hs4 := le_both O4.size
  clear kg2 R4 O4 HM3 HS3 HB3 S4 BA R5 U5 HM4 HB4
  go_wp2_with fail
  have hsz5 := le_both (World.size_alloc w4 (.cells #[.int .i64 e, .int .i64 q, .int .i64 0, .int .u32 0] 88))
  generalize w4.alloc (.cells #[.int .i64 e, .int .i64 q, .int .i64 0, .int .u32 0] 88) = w5 at *
  generalize w4.heap.size = ub at *
  refine kg3.mono ?_
  rintro en w6 ⟨rfl, R6, O6⟩
  have U6 := HU5.out.only O6 (by omega)
  have u2 := U6.c2
  have f2 := U6.fz 2
  have U7 := U6.s2 V3
  have R7 : Rs (w6.setCell ⟨ub, 2, none⟩ (.int .i64 V3)) r gr 12 (nz (nz (nz (some l)))) := R6.at (Below.heap_setCell _ _ _ _ (by show r ≠ ub; omega)) (fun q => Below.heap_setCell _ _ _ _ (fun q2 => by
    simp only at q2
    omega))
  have HM7 := hid ((HM5.out.only O6 (by omega)).at (Below.heap_setCell w6 ⟨ub, 2, none⟩ (.int .i64 V3) w.heap.size (by show w.heap.size ≠ ub; omega)))
  have HB7 := hid (bel_set (b := ub) (i := 2) (HB5.out.trans (O6.below (by omega))) (by omega) (.int .i64 V3))
  have kg4 := getR_ r gr 12 _ _ R7 (by omega)
  rw [HV4.out] at kg4
  have HU7 := hid U7
  have hs6 := le_both O6.size
  clear kg3 R6 O6 HM5 HB5 HU5 U6 U7 R7
  go_wp2_with fail
  have hsz7 := le_both (show (w6.setCell ⟨ub, 2, none⟩ (.int .i64 V3)).heap.size = w6.heap.size by simp [World.setCell])
  generalize w6.setCell ⟨ub, 2, none⟩ (.int .i64 V3) = w7 at *
  refine kg4.mono ?_
  rintro en w8 ⟨rfl, R8, O8⟩
  have U8 := HU7.out.only O8 (by omega)
  have u3 := U8.c3
  have f3 := U8.fz 3
  have U9 := U8.s3 V4
  have R9 : Rs (w8.setCell ⟨ub, 3, none⟩ (.int .u32 V4)) r gr 16 (nz (nz (nz (nz (some l))))) := R8.at (Below.heap_setCell _ _ _ _ (by show r ≠ ub; omega)) (fun q => Below.heap_setCell _ _ _ _ (fun q2 => by
    simp only at q2
    omega))
  have HM9 := hid ((HM7.out.only O8 (by omega)).at (Below.heap_setCell w8 ⟨ub, 3, none⟩ (.int .u32 V4) w.heap.size (by show w.heap.size ≠ ub; omega)))
  have HB9 := hid (bel_set (b := ub) (i := 3) (HB7.out.trans (O8.below (by omega))) (by omega) (.int .u32 V4))
  have HU9 := hid U9
  have HR9 := hid R9
  have hs8 := le_both O8.size
  clear kg4 R8 O8 HM7 HB7 HU7 U8 U9 R9
  have ke := errR_ r gr 16 _ _ HR9.out
  rw [HZ4.out] at ke HR9
  go_wp2_with fail
  generalize w8.setCell ⟨ub, 3, none⟩ (.int .u32 V4) = w9 at *
  refine ke.mono ?_
  rintro en w10 ⟨e1, p1, rfl, he1, D1⟩
  have HM10 := hid (HM9.out.below D1.below)
  have HB10 := hid (bel_bel HB9.out HB9.out.size D1.below)
  have HR10 := hid (HR9.out.below D1.below)
  clear ke D1
  by_cases h16 : 16 ≤ m
  · rw [if_pos h16] at he1 HR10
    have kl := leftR_ r gr 16 _ w10 HR10.out
    simp only [List.length_drop, Hm.out] at kl
    obtain ⟨L, HL⟩ : ∃ L : Nat, Hid (m - 16 = L) := ⟨_, rfl⟩
    have hL : (0 : Int) < (L : Int) := by have := HL.out; omega
    rw [HL.out] at kl
    simp only [Option.isNone] at he1
    go_wp2_with fail
    refine kl.mono ?_
    rintro en w11 ⟨rfl, hw⟩
    obtain rfl := hw.symm
    clear hw
    go_wp2_with (with_reducible show wpList _ _ _ (_ :: _) _ _; refine wpList_su rfl rfl _ _ rfl w.heap.size 0 0 0 0 rfl rfl 0 0 0 0 (by with_reducible exact HM10.out) ?_)
    refine bodyPost_ret (results_u2 rfl _ _ w.heap.size 0 0 0 0 (.bool false) rfl rfl (HM10.out.row 0 0 0 0)) rfl ⟨0, 0, 0, 0, rfl, bel_row HB10.out (Nat.le_refl _) _⟩
  · rw [if_neg h16] at he1
    simp only [Option.isNone] at he1
    go_wp2_with (with_reducible show wpList _ _ _ (_ :: _) _ _; refine wpList_su rfl rfl _ _ rfl w.heap.size 0 0 0 0 rfl rfl 0 0 0 0 (by with_reducible exact HM10.out) ?_)
    refine bodyPost_ret (results_u2 rfl _ _ w.heap.size 0 0 0 0 (.bool false) rfl rfl (HM10.out.row 0 0 0 0)) rfl ⟨0, 0, 0, 0, rfl, bel_row HB10.out (Nat.le_refl _) _⟩

set_option maxHeartbeats 8000000 in
theorem gsup_5 (i : Nat) (h : Dev w d s Q) (hT : Tab w) (hb : Bs w a n zs) (hc : n ≤ c) (hm : c ≤ maxLen) (e q : Nat) (l : List Int) (hs : gs zs = some ⟨t1, e, q, i, l⟩) (hei : e % 2 = i) (hl : l.length = 16) :
    Calls Tryz.prog 102 #[.pointer (some ⟨d, 0, none⟩), .int .i64 i, .slice a n c] w fun en w' => en = .returned (.tuple #[.agg #[.int .i64 e, .int .i64 q, .int .i64 (vz (nz (nz (some l)))), .int .u32 (vz (nz (nz (nz (some l)))))], .bool (decide (vz (some l) = (s.n : Int)) && (decide (vz (nz (some l)) = (pcN (vz (nz (nz (some l)))).toNat : Nat)) && decide (pcN (vz (nz (nz (some l)))).toNat + 11 ≤ roo s.n)))]) ∧ Below w.heap.size w w' := by
  have hMy := (gs_some hs).2.1
  have hl480 : l.length ≤ 480 := hMy.2.2.2.2
  have heb : (1 : Int) ≤ e ∧ (e : Int) ≤ 4611686018427387904 := hMy.2.1
  have hyl : By l := by
    have h1 := (gs_some hs).2.2.2
    have h2 : l = (rs zs).l := by rw [← h1]
    rw [h2]
    exact sl_by hb.2.1 _ _
  have B0 := unew w 0 0 0 0
  have m0 := Um.new w 0 0 0 0
  have kg := get_y a n c zs _ (hT.bel B0) (hb.below B0) hc hm ⟨t1, e, q, i, l⟩ hs
  obtain ⟨m, Hm⟩ : ∃ m, Hid (l.length = m) := ⟨_, rfl⟩
  simp only [Hm.out] at kg
  have hm480 : m ≤ 480 := by rw [← Hm.out]; exact hl480
  have HB0 := hid B0
  have HM0 := hid m0
  have HDV := hid h
  have z0 : ((t1).toList == [67, 86, 83, 49]) = true := tl_yes rfl
  have z1 : ((t1).toList != [67, 86, 83, 49]) = false := by rw [bne, z0]; rfl
  have z2 : (e : Int) % 2 = (i : Int) := by omega
  have z3 : ((i : Int) != (i : Int)) = false := by simp
  have y0 : ∀ zs, some l = some zs → By zs := fun zs hz => by obtain rfl := Option.some.inj hz; exact hyl
  have y1 := nz_by y0
  have y2 := nz_by y1
  have y3 := nz_by y2
  obtain ⟨v1a, v1b⟩ := vz_bd y0
  obtain ⟨v2a, v2b⟩ := vz_bd y1
  obtain ⟨v3a, v3b⟩ := vz_bd y2
  obtain ⟨v4a, v4b⟩ := vz_bd y3
  have HZ4 := hid (nz4 l)
  rw [Hm.out] at hl HZ4
  have hl2 : 16 ≤ m ∧ m ≤ 16 := by omega
  clear hl
  obtain ⟨N, HN⟩ : ∃ N, Hid (s.n = N) := ⟨_, rfl⟩
  obtain ⟨V1, HV1⟩ : ∃ V1, Hid (vz (some l) = V1) := ⟨_, rfl⟩
  obtain ⟨V2, HV2⟩ : ∃ V2, Hid (vz (nz (some l)) = V2) := ⟨_, rfl⟩
  obtain ⟨L3, HV3⟩ : ∃ L3 : Nat, Hid (vz (nz (nz (some l))) = (L3 : Int)) := ⟨(vz (nz (nz (some l)))).toNat, by show _ = _; omega⟩
  obtain ⟨V4, HV4⟩ : ∃ V4, Hid (vz (nz (nz (nz (some l)))) = V4) := ⟨_, rfl⟩
  rw [HV1.out] at v1a v1b
  rw [HV2.out] at v2a v2b
  rw [HV3.out] at v3a v3b
  rw [HV4.out] at v4a v4b
  obtain ⟨tt, HPOST⟩ : ∃ tt, Hid ((decide (V1 = (N : Int)) && (decide (V2 = (pcN L3 : Nat)) && decide (pcN L3 + 11 ≤ roo N))) = tt) := ⟨_, rfl⟩
  rw [HV1.out, HV2.out, HV3.out, HV4.out, HN.out, Int.toNat_natCast, HPOST.out]
  clear B0 m0 hb hs h hMy hl480 hT hei y0 y1 y2 y3
  go_enter Tryz.func102, Tryz.ntmps102
  go_wp2_with fail
  refine kg.mono ?_
  rintro x1 w1 ⟨g5, rfl, hg5, r1, g1⟩
  simp only
  have m1 := HM0.out.below g1
  have B1 := bel_bel HB0.out HB0.out.size g1
  have B2 := B1.alloc B1.size (.cells #[.string t1, .int .i64 e, .int .i64 q, .int .i64 i, .slice (some ⟨g5, 0, none⟩) m m] 31)
  have m2 := m1.at (Below.heap_alloc w1 (.cells #[.string t1, .int .i64 e, .int .i64 q, .int .i64 i, .slice (some ⟨g5, 0, none⟩) m m] 31) _ m1.lt)
  have s1 := Sm.new w1 t1 e q i (.slice (some ⟨g5, 0, none⟩) m m)
  have d0 := s1.c0
  have d1 := s1.c1
  have d3 := s1.c3
  have d4 := s1.c4
  have b5 : Bs (w1.alloc (.cells #[.string t1, .int .i64 e, .int .i64 q, .int .i64 i, .slice (some ⟨g5, 0, none⟩) m m] 31)) (some ⟨g5, 0, none⟩) m l := (r1.kept (r := none) (World.grownBy_alloc w1 _ _) (by simp) : Row _ g5 l).bs12 Hm.out hyl
  have kr := newReader (some ⟨g5, 0, none⟩) m m l _ b5 (fun q => by cases q) (by omega) (Nat.le_refl _)
  have HM := hid m2
  have HB := hid B2
  have HS := hid s1
  have hw1 : w.heap.size < w1.heap.size := m1.lt
  clear kg g1 m1 B1 B2 m2 s1 HM0 HB0 r1 b5
  go_wp2_with fail
  have hszW := le_both (World.size_alloc w1 (.cells #[.string t1, .int .i64 e, .int .i64 q, .int .i64 i, .slice (some ⟨g5, 0, none⟩) m m] 31))
  generalize w1.alloc (.cells #[.string t1, .int .i64 e, .int .i64 q, .int .i64 i, .slice (some ⟨g5, 0, none⟩) m m] 31) = W at *
  generalize w1.heap.size = fb at *
  refine kr.mono ?_
  rintro en w2 ⟨r, gr, rfl, R2, hr, hgr, hgl0, G2⟩
  have hgl := hgl0 (by simp)
  clear hgl0
  have B2 := below_of_grown G2
  have HM2 := hid (HM.out.below B2)
  have HS2 := hid (HS.out.kept B2)
  have HB2 := hid (bel_bel HB.out HB.out.size B2)
  have HR2 : Hid (Rs w2 r gr 0 (some l)) := ⟨0, by omega, by omega, by rw [Hm.out]; omega, R2⟩
  have kg1 := getR_ r gr 0 _ w2 HR2.out (by omega)
  rw [HV1.out] at kg1
  clear kr R2 G2 B2 HM HB HS d0 d1 d3 d4
  go_wp2_with fail
  refine kg1.mono ?_
  rintro en w3 ⟨rfl, R3, O3⟩
  have kg2 := getR_ r gr 4 _ w3 R3 (by omega)
  rw [HV2.out] at kg2
  have HM3 := hid (HM2.out.only O3 (by omega))
  have HS3 := hid (HS2.out.only O3 (by omega))
  have HB3 := hid (HB2.out.trans (O3.below (by omega)))
  have hs3 := le_both O3.size
  clear kg1 R3 O3 HR2 HM2 HS2 HB2
  go_wp2_with fail
  refine kg2.mono ?_
  rintro en w4 ⟨rfl, R4, O4⟩
  have hr2 := R4.lt
  have HM4 := hid (HM3.out.only O4 (by omega))
  have S4 := HS3.out.only O4 (by omega)
  have HB4 := hid (HB3.out.trans (O4.below (by omega)))
  have d1 := S4.c1
  have d2 := S4.c2
  have BA := unew w4 e q 0 0
  have R5 := R4.below BA
  have U5 := Um.new w4 e q 0 0
  have HM5 := hid (HM4.out.below BA)
  have HB5 := hid (bel_bel HB4.out HB4.out.size BA)
  have kg3 := getR_ r gr 8 _ _ R5 (by omega)
  rw [HV3.out] at kg3
  have HU5 := hid U5
  have hs4 := le_both O4.size
  clear kg2 R4 O4 HM3 HS3 HB3 S4 BA R5 U5 HM4 HB4
  go_wp2_with fail
  have hsz5 := le_both (World.size_alloc w4 (.cells #[.int .i64 e, .int .i64 q, .int .i64 0, .int .u32 0] 88))
  generalize w4.alloc (.cells #[.int .i64 e, .int .i64 q, .int .i64 0, .int .u32 0] 88) = w5 at *
  generalize w4.heap.size = ub at *
  refine kg3.mono ?_
  rintro en w6 ⟨rfl, R6, O6⟩
  have U6 := HU5.out.only O6 (by omega)
  have u2 := U6.c2
  have f2 := U6.fz 2
  have U7 := U6.s2 (L3 : Int)
  have R7 : Rs (w6.setCell ⟨ub, 2, none⟩ (.int .i64 (L3 : Int))) r gr 12 (nz (nz (nz (some l)))) := R6.at (Below.heap_setCell _ _ _ _ (by show r ≠ ub; omega)) (fun q => Below.heap_setCell _ _ _ _ (fun q2 => by
    simp only at q2
    omega))
  have HM7 := hid ((HM5.out.only O6 (by omega)).at (Below.heap_setCell w6 ⟨ub, 2, none⟩ (.int .i64 (L3 : Int)) w.heap.size (by show w.heap.size ≠ ub; omega)))
  have HB7 := hid (bel_set (b := ub) (i := 2) (HB5.out.trans (O6.below (by omega))) (by omega) (.int .i64 (L3 : Int)))
  have kg4 := getR_ r gr 12 _ _ R7 (by omega)
  rw [HV4.out] at kg4
  have HU7 := hid U7
  have hs6 := le_both O6.size
  clear kg3 R6 O6 HM5 HB5 HU5 U6 U7 R7
  go_wp2_with fail
  have hsz7 := le_both (show (w6.setCell ⟨ub, 2, none⟩ (.int .i64 (L3 : Int))).heap.size = w6.heap.size by simp [World.setCell])
  generalize w6.setCell ⟨ub, 2, none⟩ (.int .i64 (L3 : Int)) = w7 at *
  refine kg4.mono ?_
  rintro en w8 ⟨rfl, R8, O8⟩
  have U8 := HU7.out.only O8 (by omega)
  have u3 := U8.c3
  have f3 := U8.fz 3
  have U9 := U8.s3 V4
  have R9 : Rs (w8.setCell ⟨ub, 3, none⟩ (.int .u32 V4)) r gr 16 (nz (nz (nz (nz (some l))))) := R8.at (Below.heap_setCell _ _ _ _ (by show r ≠ ub; omega)) (fun q => Below.heap_setCell _ _ _ _ (fun q2 => by
    simp only at q2
    omega))
  have HM9 := hid ((HM7.out.only O8 (by omega)).at (Below.heap_setCell w8 ⟨ub, 3, none⟩ (.int .u32 V4) w.heap.size (by show w.heap.size ≠ ub; omega)))
  have HB9 := hid (bel_set (b := ub) (i := 3) (HB7.out.trans (O8.below (by omega))) (by omega) (.int .u32 V4))
  have HU9 := hid U9
  have HR9 := hid R9
  have hs8 := le_both O8.size
  clear kg4 R8 O8 HM7 HB7 HU7 U8 U9 R9
  have ke := errR_ r gr 16 _ _ HR9.out
  rw [HZ4.out] at ke HR9
  go_wp2_with fail
  generalize w8.setCell ⟨ub, 3, none⟩ (.int .u32 V4) = w9 at *
  refine ke.mono ?_
  rintro en w10 ⟨e1, p1, rfl, he1, D1⟩
  have HM10 := hid (HM9.out.below D1.below)
  have HB10 := hid (bel_bel HB9.out HB9.out.size D1.below)
  have HR10 := hid (HR9.out.below D1.below)
  have HD10 := hid D1.below
  clear ke D1
  rw [if_pos (by omega)] at he1 HR10
  have kl := leftR_ r gr 16 _ w10 HR10.out
  simp only [List.length_drop, Hm.out] at kl
  rw [show m - 16 = 0 from by omega] at kl
  simp only [Option.isNone] at he1
  have HU10 := hid (HU9.out.below (show Below w9.heap.size w9 w10 from HD10.out))
  have u0 := HU10.out.c0
  have u1 := HU10.out.c1
  have u2 := HU10.out.c2
  have u3 := HU10.out.c3
  have D10 := HDV.out.below HB10.out
  have D11 : Dev w10.drew d s Q := D10.below ⟨rfl, rfl, rfl, Nat.le_refl _, fun _ _ => rfl⟩
  have ks := sectorsD D11
  have kp := fun wx => pieces0_ (L3 : Int) wx (by omega)
  have kh := whasRoom_ D11 L3 (by omega)
  simp only [Int.toNat_natCast] at kp
  simp only [HN.out] at ks kh
  obtain ⟨K, HK⟩ : ∃ K, Hid (pcN L3 = K) := ⟨_, rfl⟩
  simp only [HK.out] at kp kh
  rw [HK.out] at HPOST
  clear D10 D11
  go_wp2_with fail
  refine kl.mono ?_
  rintro en w11 ⟨rfl, hw⟩
  obtain rfl := hw.symm
  clear hw kl
  by_cases h1 : V1 = (N : Int)
  · have t1b : (V1 == (N : Int)) = true := by simp [h1]
    by_cases h2 : V2 = (K : Int)
    · have t2b : (V2 == (K : Int)) = true := by simp [h2]
      obtain ⟨t3, Ht3⟩ : ∃ t3, Hid (decide (K + 11 ≤ roo N) = t3) := ⟨_, rfl⟩
      simp only [Ht3.out] at kh
      have HP2 : Hid (tt = t3) := by show _ = _; rw [← HPOST.out, decide_eq_true h1, decide_eq_true h2, Bool.true_and, Bool.true_and]; exact Ht3.out
      clear h1 h2
      go_wp2_with fail
      have SS : Um w10.drew ub e q L3 V4 ∧ Below w.heap.size w w10.drew := ⟨HU10.out, bel_drew12 HB10.out⟩
      have SM : Um w10.drew w.heap.size 0 0 0 0 := HM10.out
      have hubw : w.heap.size < ub := by omega
      refine wp_region_held_drew (S := fun wx => Um wx ub e q L3 V4 ∧ Below w.heap.size w wx) (by kernel_rfl) SS (fun hHeld => ?_)
      generalize w10.drew = wd at *
      refine take12 0 76 (.agg #[.int .i64 e, .int .i64 q, .int .i64 (L3 : Int), .int .u32 V4]) rfl rfl (by kernel_rfl) (by kernel_rfl) (by kernel_rfl) (fun _ _ _ h => h) (Or.inl ⟨by kernel_rfl, fun w' h => ?_⟩) hHeld ?_
      · have uu0 := h.1.c0
        have uu1 := h.1.c1
        have uu2 := h.1.c2
        have uu3 := h.1.c3
        go_simp
      try simp only [List.setIfInBounds_toArray, List.set_cons_zero, List.set_cons_succ]
      refine take12 1 77 (.int .i64 V1) rfl rfl (by kernel_rfl) (by kernel_rfl) (by kernel_rfl) (fun _ _ _ h => h) (Or.inl ⟨by kernel_rfl, fun w' h => ?_⟩) hHeld ?_
      · have uu0 := h.1.c0
        have uu1 := h.1.c1
        have uu2 := h.1.c2
        have uu3 := h.1.c3
        go_simp
      try simp only [List.setIfInBounds_toArray, List.set_cons_zero, List.set_cons_succ]
      refine take12 2 78 (.pointer (some ⟨d, 0, none⟩)) rfl rfl (by kernel_rfl) (by kernel_rfl) (by kernel_rfl) (fun _ _ _ h => h) (Or.inl ⟨by kernel_rfl, fun w' h => ?_⟩) hHeld ?_
      · have uu0 := h.1.c0
        have uu1 := h.1.c1
        have uu2 := h.1.c2
        have uu3 := h.1.c3
        go_simp
      try simp only [List.setIfInBounds_toArray, List.set_cons_zero, List.set_cons_succ]
      refine wpAnyH_ready (rs := [3]) (by kernel_rfl) (by simp) ?_
      refine AllReadyH.cons rfl (fun K' hK' => ?_) AllReadyH.nil
      rw [if_pos (by kernel_rfl)]
      go_wp2_with fail
      refine (ks).mono ?_
      rintro y x1 ⟨rfl, hw⟩
      obtain rfl := hw.symm
      clear hw
      try go_wp2_with fail
      refine hK'.out _ _ SS (fun hHeld => ?_)
      clear hK' K'
      try simp only [Act.put, List.setIfInBounds_toArray, List.set_cons_zero, List.set_cons_succ]
      refine take12 4 80 (.bool true) rfl rfl (by kernel_rfl) (by kernel_rfl) (by kernel_rfl) (fun _ _ _ h => h) (Or.inl ⟨by kernel_rfl, fun w' h => ?_⟩) hHeld ?_
      · have uu0 := h.1.c0
        have uu1 := h.1.c1
        have uu2 := h.1.c2
        have uu3 := h.1.c3
        go_simp
      try simp only [List.setIfInBounds_toArray, List.set_cons_zero, List.set_cons_succ]
      refine take12 5 81 (.bool true) rfl rfl (by kernel_rfl) (by kernel_rfl) (by kernel_rfl) (fun _ _ _ h => h) (Or.inl ⟨by kernel_rfl, fun w' h => ?_⟩) hHeld ?_
      · have uu0 := h.1.c0
        have uu1 := h.1.c1
        have uu2 := h.1.c2
        have uu3 := h.1.c3
        go_simp
      try simp only [List.setIfInBounds_toArray, List.set_cons_zero, List.set_cons_succ]
      refine take12 6 82 (.int .i64 V2) rfl rfl (by kernel_rfl) (by kernel_rfl) (by kernel_rfl) (fun _ _ _ h => h) (Or.inl ⟨by kernel_rfl, fun w' h => ?_⟩) hHeld ?_
      · have uu0 := h.1.c0
        have uu1 := h.1.c1
        have uu2 := h.1.c2
        have uu3 := h.1.c3
        go_simp
      try simp only [List.setIfInBounds_toArray, List.set_cons_zero, List.set_cons_succ]
      refine take12 7 83 (.pointer (some ⟨ub, 2, none⟩)) rfl rfl (by kernel_rfl) (by kernel_rfl) (by kernel_rfl) (fun _ _ _ h => h) (Or.inl ⟨by kernel_rfl, fun w' h => ?_⟩) hHeld ?_
      · have uu0 := h.1.c0
        have uu1 := h.1.c1
        have uu2 := h.1.c2
        have uu3 := h.1.c3
        go_simp
      try simp only [List.setIfInBounds_toArray, List.set_cons_zero, List.set_cons_succ]
      refine take12 8 84 (.int .i64 L3) rfl rfl (by kernel_rfl) (by kernel_rfl) (by kernel_rfl) (fun _ _ _ h => h) (Or.inl ⟨by kernel_rfl, fun w' h => ?_⟩) hHeld ?_
      · have uu0 := h.1.c0
        have uu1 := h.1.c1
        have uu2 := h.1.c2
        have uu3 := h.1.c3
        go_simp
      try simp only [List.setIfInBounds_toArray, List.set_cons_zero, List.set_cons_succ]
      refine wpAnyH_ready (rs := [9]) (by kernel_rfl) (by simp) ?_
      refine AllReadyH.cons rfl (fun K' hK' => ?_) AllReadyH.nil
      rw [if_pos (by kernel_rfl)]
      go_wp2_with fail
      refine (kp _).mono ?_
      rintro y x1 ⟨rfl, hw⟩
      obtain rfl := hw.symm
      clear hw
      try go_wp2_with fail
      refine hK'.out _ _ SS (fun hHeld => ?_)
      clear hK' K'
      try simp only [Act.put, List.setIfInBounds_toArray, List.set_cons_zero, List.set_cons_succ]
      refine take12 10 86 (.bool true) rfl rfl (by kernel_rfl) (by kernel_rfl) (by kernel_rfl) (fun _ _ _ h => h) (Or.inl ⟨by kernel_rfl, fun w' h => ?_⟩) hHeld ?_
      · have uu0 := h.1.c0
        have uu1 := h.1.c1
        have uu2 := h.1.c2
        have uu3 := h.1.c3
        go_simp
      try simp only [List.setIfInBounds_toArray, List.set_cons_zero, List.set_cons_succ]
      refine take12 11 87 (.bool true) rfl rfl (by kernel_rfl) (by kernel_rfl) (by kernel_rfl) (fun _ _ _ h => h) (Or.inl ⟨by kernel_rfl, fun w' h => ?_⟩) hHeld ?_
      · have uu0 := h.1.c0
        have uu1 := h.1.c1
        have uu2 := h.1.c2
        have uu3 := h.1.c3
        go_simp
      try simp only [List.setIfInBounds_toArray, List.set_cons_zero, List.set_cons_succ]
      refine take12 12 88 (.bool true) rfl rfl (by kernel_rfl) (by kernel_rfl) (by kernel_rfl) (fun _ _ _ h => h) (Or.inl ⟨by kernel_rfl, fun w' h => ?_⟩) hHeld ?_
      · have uu0 := h.1.c0
        have uu1 := h.1.c1
        have uu2 := h.1.c2
        have uu3 := h.1.c3
        go_simp
      try simp only [List.setIfInBounds_toArray, List.set_cons_zero, List.set_cons_succ]
      refine take12 13 89 (.pointer (some ⟨d, 0, none⟩)) rfl rfl (by kernel_rfl) (by kernel_rfl) (by kernel_rfl) (fun _ _ _ h => h) (Or.inl ⟨by kernel_rfl, fun w' h => ?_⟩) hHeld ?_
      · have uu0 := h.1.c0
        have uu1 := h.1.c1
        have uu2 := h.1.c2
        have uu3 := h.1.c3
        go_simp
      try simp only [List.setIfInBounds_toArray, List.set_cons_zero, List.set_cons_succ]
      refine take12 14 90 (.pointer (some ⟨ub, 2, none⟩)) rfl rfl (by kernel_rfl) (by kernel_rfl) (by kernel_rfl) (fun _ _ _ h => h) (Or.inl ⟨by kernel_rfl, fun w' h => ?_⟩) hHeld ?_
      · have uu0 := h.1.c0
        have uu1 := h.1.c1
        have uu2 := h.1.c2
        have uu3 := h.1.c3
        go_simp
      try simp only [List.setIfInBounds_toArray, List.set_cons_zero, List.set_cons_succ]
      refine take12 15 91 (.int .i64 L3) rfl rfl (by kernel_rfl) (by kernel_rfl) (by kernel_rfl) (fun _ _ _ h => h) (Or.inl ⟨by kernel_rfl, fun w' h => ?_⟩) hHeld ?_
      · have uu0 := h.1.c0
        have uu1 := h.1.c1
        have uu2 := h.1.c2
        have uu3 := h.1.c3
        go_simp
      try simp only [List.setIfInBounds_toArray, List.set_cons_zero, List.set_cons_succ]
      refine wpAnyH_ready (rs := [16]) (by kernel_rfl) (by simp) ?_
      refine AllReadyH.cons rfl (fun K' hK' => ?_) AllReadyH.nil
      rw [if_pos (by kernel_rfl)]
      go_wp2_with fail
      refine (kh).mono ?_
      rintro y x1 ⟨rfl, hw⟩
      obtain rfl := hw.symm
      clear hw
      try go_wp2_with fail
      refine hK'.out _ _ SS (fun hHeld => ?_)
      clear hK' K'
      try simp only [Act.put, List.setIfInBounds_toArray, List.set_cons_zero, List.set_cons_succ]
      refine take12 17 93 (.bool t3) rfl rfl (by kernel_rfl) (by kernel_rfl) (by kernel_rfl) (fun _ _ _ h => h) (Or.inl ⟨by kernel_rfl, fun w' h => ?_⟩) hHeld ?_
      · have uu0 := h.1.c0
        have uu1 := h.1.c1
        have uu2 := h.1.c2
        have uu3 := h.1.c3
        go_simp
      try simp only [List.setIfInBounds_toArray, List.set_cons_zero, List.set_cons_succ]
      refine wpAnyH_ready (rs := [18]) (by kernel_rfl) (by simp) ?_
      refine AllReadyH.cons rfl (fun K' hK' => ?_) AllReadyH.nil
      rw [if_pos (by kernel_rfl)]
      refine wp_su rfl _ _ rfl w.heap.size e q (L3 : Int) V4 rfl rfl _ _ _ _ SM ?_
      replace SM := SM.row e q L3 V4
      have SS2 : Um (wd.setRow w.heap.size #[.int .i64 e, .int .i64 q, .int .i64 (L3 : Int), .int .u32 V4]) ub e q L3 V4 ∧ Below w.heap.size w (wd.setRow w.heap.size #[.int .i64 e, .int .i64 q, .int .i64 (L3 : Int), .int .u32 V4]) := ⟨SS.1.at (setRow_other _ _ _ _ (by omega)), bel_row SS.2 (Nat.le_refl _) _⟩
      clear hHeld
      generalize wd.setRow w.heap.size #[.int .i64 e, .int .i64 q, .int .i64 (L3 : Int), .int .u32 V4] = W9 at *
      refine hK'.out _ _ SS2 (fun hHeld => ?_)
      clear hK' K'
      try simp only [Act.put, List.setIfInBounds_toArray, List.set_cons_zero, List.set_cons_succ]
      refine take12 19 7 (.bool t3) rfl rfl (by kernel_rfl) (by kernel_rfl) (by kernel_rfl) (fun _ _ _ h => h) (Or.inl ⟨by kernel_rfl, fun w' h => ?_⟩) hHeld ?_
      · have uu0 := h.1.c0
        have uu1 := h.1.c1
        have uu2 := h.1.c2
        have uu3 := h.1.c3
        go_simp
      try simp only [List.setIfInBounds_toArray, List.set_cons_zero, List.set_cons_succ]
      refine wpAnyH_done (by kernel_rfl) ?_ _
      have HSM := hid SM
      have HSS2 := hid SS2
      clear SM SS2 SS hHeld ks kp kh u0 u1 u2 u3 HU10 HM10 HB10 t1b
      go_wp2_with fail
      refine bodyPost_ret (results_u2 rfl _ _ w.heap.size e q L3 V4 (.bool t3) rfl rfl HSM.out) rfl ⟨?_, HSS2.out.2⟩
      rw [← HPOST.out]
      rw [HPOST.out, HP2.out]
    · have t2b : (V2 == (K : Int)) = false := by simp [h2]
      have HP2 : Hid (tt = false) := by show _ = _; rw [← HPOST.out, decide_eq_false h2, Bool.false_and, Bool.and_false]
      clear h1 h2
      go_wp2_with fail
      have SS : Um w10.drew ub e q L3 V4 ∧ Below w.heap.size w w10.drew := ⟨HU10.out, bel_drew12 HB10.out⟩
      have SM : Um w10.drew w.heap.size 0 0 0 0 := HM10.out
      have hubw : w.heap.size < ub := by omega
      refine wp_region_held_drew (S := fun wx => Um wx ub e q L3 V4 ∧ Below w.heap.size w wx) (by kernel_rfl) SS (fun hHeld => ?_)
      generalize w10.drew = wd at *
      refine take12 0 76 (.agg #[.int .i64 e, .int .i64 q, .int .i64 (L3 : Int), .int .u32 V4]) rfl rfl (by kernel_rfl) (by kernel_rfl) (by kernel_rfl) (fun _ _ _ h => h) (Or.inl ⟨by kernel_rfl, fun w' h => ?_⟩) hHeld ?_
      · have uu0 := h.1.c0
        have uu1 := h.1.c1
        have uu2 := h.1.c2
        have uu3 := h.1.c3
        go_simp
      try simp only [List.setIfInBounds_toArray, List.set_cons_zero, List.set_cons_succ]
      refine take12 1 77 (.int .i64 V1) rfl rfl (by kernel_rfl) (by kernel_rfl) (by kernel_rfl) (fun _ _ _ h => h) (Or.inl ⟨by kernel_rfl, fun w' h => ?_⟩) hHeld ?_
      · have uu0 := h.1.c0
        have uu1 := h.1.c1
        have uu2 := h.1.c2
        have uu3 := h.1.c3
        go_simp
      try simp only [List.setIfInBounds_toArray, List.set_cons_zero, List.set_cons_succ]
      refine take12 2 78 (.pointer (some ⟨d, 0, none⟩)) rfl rfl (by kernel_rfl) (by kernel_rfl) (by kernel_rfl) (fun _ _ _ h => h) (Or.inl ⟨by kernel_rfl, fun w' h => ?_⟩) hHeld ?_
      · have uu0 := h.1.c0
        have uu1 := h.1.c1
        have uu2 := h.1.c2
        have uu3 := h.1.c3
        go_simp
      try simp only [List.setIfInBounds_toArray, List.set_cons_zero, List.set_cons_succ]
      refine wpAnyH_ready (rs := [3]) (by kernel_rfl) (by simp) ?_
      refine AllReadyH.cons rfl (fun K' hK' => ?_) AllReadyH.nil
      rw [if_pos (by kernel_rfl)]
      go_wp2_with fail
      refine (ks).mono ?_
      rintro y x1 ⟨rfl, hw⟩
      obtain rfl := hw.symm
      clear hw
      try go_wp2_with fail
      refine hK'.out _ _ SS (fun hHeld => ?_)
      clear hK' K'
      try simp only [Act.put, List.setIfInBounds_toArray, List.set_cons_zero, List.set_cons_succ]
      refine take12 4 80 (.bool true) rfl rfl (by kernel_rfl) (by kernel_rfl) (by kernel_rfl) (fun _ _ _ h => h) (Or.inl ⟨by kernel_rfl, fun w' h => ?_⟩) hHeld ?_
      · have uu0 := h.1.c0
        have uu1 := h.1.c1
        have uu2 := h.1.c2
        have uu3 := h.1.c3
        go_simp
      try simp only [List.setIfInBounds_toArray, List.set_cons_zero, List.set_cons_succ]
      refine take12 5 81 (.bool true) rfl rfl (by kernel_rfl) (by kernel_rfl) (by kernel_rfl) (fun _ _ _ h => h) (Or.inl ⟨by kernel_rfl, fun w' h => ?_⟩) hHeld ?_
      · have uu0 := h.1.c0
        have uu1 := h.1.c1
        have uu2 := h.1.c2
        have uu3 := h.1.c3
        go_simp
      try simp only [List.setIfInBounds_toArray, List.set_cons_zero, List.set_cons_succ]
      refine take12 6 82 (.int .i64 V2) rfl rfl (by kernel_rfl) (by kernel_rfl) (by kernel_rfl) (fun _ _ _ h => h) (Or.inl ⟨by kernel_rfl, fun w' h => ?_⟩) hHeld ?_
      · have uu0 := h.1.c0
        have uu1 := h.1.c1
        have uu2 := h.1.c2
        have uu3 := h.1.c3
        go_simp
      try simp only [List.setIfInBounds_toArray, List.set_cons_zero, List.set_cons_succ]
      refine take12 7 83 (.pointer (some ⟨ub, 2, none⟩)) rfl rfl (by kernel_rfl) (by kernel_rfl) (by kernel_rfl) (fun _ _ _ h => h) (Or.inl ⟨by kernel_rfl, fun w' h => ?_⟩) hHeld ?_
      · have uu0 := h.1.c0
        have uu1 := h.1.c1
        have uu2 := h.1.c2
        have uu3 := h.1.c3
        go_simp
      try simp only [List.setIfInBounds_toArray, List.set_cons_zero, List.set_cons_succ]
      refine take12 8 84 (.int .i64 L3) rfl rfl (by kernel_rfl) (by kernel_rfl) (by kernel_rfl) (fun _ _ _ h => h) (Or.inl ⟨by kernel_rfl, fun w' h => ?_⟩) hHeld ?_
      · have uu0 := h.1.c0
        have uu1 := h.1.c1
        have uu2 := h.1.c2
        have uu3 := h.1.c3
        go_simp
      try simp only [List.setIfInBounds_toArray, List.set_cons_zero, List.set_cons_succ]
      refine wpAnyH_ready (rs := [9]) (by kernel_rfl) (by simp) ?_
      refine AllReadyH.cons rfl (fun K' hK' => ?_) AllReadyH.nil
      rw [if_pos (by kernel_rfl)]
      go_wp2_with fail
      refine (kp _).mono ?_
      rintro y x1 ⟨rfl, hw⟩
      obtain rfl := hw.symm
      clear hw
      try go_wp2_with fail
      refine hK'.out _ _ SS (fun hHeld => ?_)
      clear hK' K'
      try simp only [Act.put, List.setIfInBounds_toArray, List.set_cons_zero, List.set_cons_succ]
      refine take12 10 86 (.bool false) rfl rfl (by kernel_rfl) (by kernel_rfl) (by kernel_rfl) (fun _ _ _ h => h) (Or.inl ⟨by kernel_rfl, fun w' h => ?_⟩) hHeld ?_
      · have uu0 := h.1.c0
        have uu1 := h.1.c1
        have uu2 := h.1.c2
        have uu3 := h.1.c3
        go_simp
      try simp only [List.setIfInBounds_toArray, List.set_cons_zero, List.set_cons_succ]
      refine take12 11 87 (.bool false) rfl rfl (by kernel_rfl) (by kernel_rfl) (by kernel_rfl) (fun _ _ _ h => h) (Or.inl ⟨by kernel_rfl, fun w' h => ?_⟩) hHeld ?_
      · have uu0 := h.1.c0
        have uu1 := h.1.c1
        have uu2 := h.1.c2
        have uu3 := h.1.c3
        go_simp
      try simp only [List.setIfInBounds_toArray, List.set_cons_zero, List.set_cons_succ]
      refine take12 12 88 (.bool false) rfl rfl (by kernel_rfl) (by kernel_rfl) (by kernel_rfl) (fun _ _ _ h => h) (Or.inl ⟨by kernel_rfl, fun w' h => ?_⟩) hHeld ?_
      · have uu0 := h.1.c0
        have uu1 := h.1.c1
        have uu2 := h.1.c2
        have uu3 := h.1.c3
        go_simp
      try simp only [List.setIfInBounds_toArray, List.set_cons_zero, List.set_cons_succ]
      refine take12 13 89 undef rfl rfl (by kernel_rfl) (by kernel_rfl) (by kernel_rfl) (fun _ _ _ h => h) (Or.inr ⟨by kernel_rfl, rfl⟩) hHeld ?_
      try simp only [List.setIfInBounds_toArray, List.set_cons_zero, List.set_cons_succ]
      refine take12 14 90 undef rfl rfl (by kernel_rfl) (by kernel_rfl) (by kernel_rfl) (fun _ _ _ h => h) (Or.inr ⟨by kernel_rfl, rfl⟩) hHeld ?_
      try simp only [List.setIfInBounds_toArray, List.set_cons_zero, List.set_cons_succ]
      refine take12 15 91 undef rfl rfl (by kernel_rfl) (by kernel_rfl) (by kernel_rfl) (fun _ _ _ h => h) (Or.inr ⟨by kernel_rfl, rfl⟩) hHeld ?_
      try simp only [List.setIfInBounds_toArray, List.set_cons_zero, List.set_cons_succ]
      refine take12 16 92 undef rfl rfl (by kernel_rfl) (by kernel_rfl) (by kernel_rfl) (fun _ _ _ h => h) (Or.inr ⟨by kernel_rfl, rfl⟩) hHeld ?_
      try simp only [List.setIfInBounds_toArray, List.set_cons_zero, List.set_cons_succ]
      refine take12 17 93 (.bool false) rfl rfl (by kernel_rfl) (by kernel_rfl) (by kernel_rfl) (fun _ _ _ h => h) (Or.inl ⟨by kernel_rfl, fun w' h => ?_⟩) hHeld ?_
      · have uu0 := h.1.c0
        have uu1 := h.1.c1
        have uu2 := h.1.c2
        have uu3 := h.1.c3
        go_simp
      try simp only [List.setIfInBounds_toArray, List.set_cons_zero, List.set_cons_succ]
      refine wpAnyH_ready (rs := [18]) (by kernel_rfl) (by simp) ?_
      refine AllReadyH.cons rfl (fun K' hK' => ?_) AllReadyH.nil
      rw [if_pos (by kernel_rfl)]
      refine wp_su rfl _ _ rfl w.heap.size e q (L3 : Int) V4 rfl rfl _ _ _ _ SM ?_
      replace SM := SM.row e q L3 V4
      have SS2 : Um (wd.setRow w.heap.size #[.int .i64 e, .int .i64 q, .int .i64 (L3 : Int), .int .u32 V4]) ub e q L3 V4 ∧ Below w.heap.size w (wd.setRow w.heap.size #[.int .i64 e, .int .i64 q, .int .i64 (L3 : Int), .int .u32 V4]) := ⟨SS.1.at (setRow_other _ _ _ _ (by omega)), bel_row SS.2 (Nat.le_refl _) _⟩
      clear hHeld
      generalize wd.setRow w.heap.size #[.int .i64 e, .int .i64 q, .int .i64 (L3 : Int), .int .u32 V4] = W9 at *
      refine hK'.out _ _ SS2 (fun hHeld => ?_)
      clear hK' K'
      try simp only [Act.put, List.setIfInBounds_toArray, List.set_cons_zero, List.set_cons_succ]
      refine take12 19 7 (.bool false) rfl rfl (by kernel_rfl) (by kernel_rfl) (by kernel_rfl) (fun _ _ _ h => h) (Or.inl ⟨by kernel_rfl, fun w' h => ?_⟩) hHeld ?_
      · have uu0 := h.1.c0
        have uu1 := h.1.c1
        have uu2 := h.1.c2
        have uu3 := h.1.c3
        go_simp
      try simp only [List.setIfInBounds_toArray, List.set_cons_zero, List.set_cons_succ]
      refine wpAnyH_done (by kernel_rfl) ?_ _
      have HSM := hid SM
      have HSS2 := hid SS2
      clear SM SS2 SS hHeld ks kp kh u0 u1 u2 u3 HU10 HM10 HB10 t1b
      go_wp2_with fail
      refine bodyPost_ret (results_u2 rfl _ _ w.heap.size e q L3 V4 (.bool false) rfl rfl HSM.out) rfl ⟨?_, HSS2.out.2⟩
      rw [← HPOST.out]
      rw [HPOST.out, HP2.out]
  · have t1b : (V1 == (N : Int)) = false := by simp [h1]
    have HP2 : Hid (tt = false) := by show _ = _; rw [← HPOST.out, decide_eq_false h1, Bool.false_and]
    clear h1
    go_wp2_with fail
    have SS : Um w10.drew ub e q L3 V4 ∧ Below w.heap.size w w10.drew := ⟨HU10.out, bel_drew12 HB10.out⟩
    have SM : Um w10.drew w.heap.size 0 0 0 0 := HM10.out
    have hubw : w.heap.size < ub := by omega
    refine wp_region_held_drew (S := fun wx => Um wx ub e q L3 V4 ∧ Below w.heap.size w wx) (by kernel_rfl) SS (fun hHeld => ?_)
    generalize w10.drew = wd at *
    refine take12 0 76 (.agg #[.int .i64 e, .int .i64 q, .int .i64 (L3 : Int), .int .u32 V4]) rfl rfl (by kernel_rfl) (by kernel_rfl) (by kernel_rfl) (fun _ _ _ h => h) (Or.inl ⟨by kernel_rfl, fun w' h => ?_⟩) hHeld ?_
    · have uu0 := h.1.c0
      have uu1 := h.1.c1
      have uu2 := h.1.c2
      have uu3 := h.1.c3
      go_simp
    try simp only [List.setIfInBounds_toArray, List.set_cons_zero, List.set_cons_succ]
    refine take12 1 77 (.int .i64 V1) rfl rfl (by kernel_rfl) (by kernel_rfl) (by kernel_rfl) (fun _ _ _ h => h) (Or.inl ⟨by kernel_rfl, fun w' h => ?_⟩) hHeld ?_
    · have uu0 := h.1.c0
      have uu1 := h.1.c1
      have uu2 := h.1.c2
      have uu3 := h.1.c3
      go_simp
    try simp only [List.setIfInBounds_toArray, List.set_cons_zero, List.set_cons_succ]
    refine take12 2 78 (.pointer (some ⟨d, 0, none⟩)) rfl rfl (by kernel_rfl) (by kernel_rfl) (by kernel_rfl) (fun _ _ _ h => h) (Or.inl ⟨by kernel_rfl, fun w' h => ?_⟩) hHeld ?_
    · have uu0 := h.1.c0
      have uu1 := h.1.c1
      have uu2 := h.1.c2
      have uu3 := h.1.c3
      go_simp
    try simp only [List.setIfInBounds_toArray, List.set_cons_zero, List.set_cons_succ]
    refine wpAnyH_ready (rs := [3]) (by kernel_rfl) (by simp) ?_
    refine AllReadyH.cons rfl (fun K' hK' => ?_) AllReadyH.nil
    rw [if_pos (by kernel_rfl)]
    go_wp2_with fail
    refine (ks).mono ?_
    rintro y x1 ⟨rfl, hw⟩
    obtain rfl := hw.symm
    clear hw
    try go_wp2_with fail
    refine hK'.out _ _ SS (fun hHeld => ?_)
    clear hK' K'
    try simp only [Act.put, List.setIfInBounds_toArray, List.set_cons_zero, List.set_cons_succ]
    refine take12 4 80 (.bool false) rfl rfl (by kernel_rfl) (by kernel_rfl) (by kernel_rfl) (fun _ _ _ h => h) (Or.inl ⟨by kernel_rfl, fun w' h => ?_⟩) hHeld ?_
    · have uu0 := h.1.c0
      have uu1 := h.1.c1
      have uu2 := h.1.c2
      have uu3 := h.1.c3
      go_simp
    try simp only [List.setIfInBounds_toArray, List.set_cons_zero, List.set_cons_succ]
    refine take12 5 81 (.bool false) rfl rfl (by kernel_rfl) (by kernel_rfl) (by kernel_rfl) (fun _ _ _ h => h) (Or.inl ⟨by kernel_rfl, fun w' h => ?_⟩) hHeld ?_
    · have uu0 := h.1.c0
      have uu1 := h.1.c1
      have uu2 := h.1.c2
      have uu3 := h.1.c3
      go_simp
    try simp only [List.setIfInBounds_toArray, List.set_cons_zero, List.set_cons_succ]
    refine take12 6 82 undef rfl rfl (by kernel_rfl) (by kernel_rfl) (by kernel_rfl) (fun _ _ _ h => h) (Or.inr ⟨by kernel_rfl, rfl⟩) hHeld ?_
    try simp only [List.setIfInBounds_toArray, List.set_cons_zero, List.set_cons_succ]
    refine take12 7 83 undef rfl rfl (by kernel_rfl) (by kernel_rfl) (by kernel_rfl) (fun _ _ _ h => h) (Or.inr ⟨by kernel_rfl, rfl⟩) hHeld ?_
    try simp only [List.setIfInBounds_toArray, List.set_cons_zero, List.set_cons_succ]
    refine take12 8 84 undef rfl rfl (by kernel_rfl) (by kernel_rfl) (by kernel_rfl) (fun _ _ _ h => h) (Or.inr ⟨by kernel_rfl, rfl⟩) hHeld ?_
    try simp only [List.setIfInBounds_toArray, List.set_cons_zero, List.set_cons_succ]
    refine take12 9 85 undef rfl rfl (by kernel_rfl) (by kernel_rfl) (by kernel_rfl) (fun _ _ _ h => h) (Or.inr ⟨by kernel_rfl, rfl⟩) hHeld ?_
    try simp only [List.setIfInBounds_toArray, List.set_cons_zero, List.set_cons_succ]
    refine take12 10 86 undef rfl rfl (by kernel_rfl) (by kernel_rfl) (by kernel_rfl) (fun _ _ _ h => h) (Or.inr ⟨by kernel_rfl, rfl⟩) hHeld ?_
    try simp only [List.setIfInBounds_toArray, List.set_cons_zero, List.set_cons_succ]
    refine take12 11 87 (.bool false) rfl rfl (by kernel_rfl) (by kernel_rfl) (by kernel_rfl) (fun _ _ _ h => h) (Or.inl ⟨by kernel_rfl, fun w' h => ?_⟩) hHeld ?_
    · have uu0 := h.1.c0
      have uu1 := h.1.c1
      have uu2 := h.1.c2
      have uu3 := h.1.c3
      go_simp
    try simp only [List.setIfInBounds_toArray, List.set_cons_zero, List.set_cons_succ]
    refine take12 12 88 (.bool false) rfl rfl (by kernel_rfl) (by kernel_rfl) (by kernel_rfl) (fun _ _ _ h => h) (Or.inl ⟨by kernel_rfl, fun w' h => ?_⟩) hHeld ?_
    · have uu0 := h.1.c0
      have uu1 := h.1.c1
      have uu2 := h.1.c2
      have uu3 := h.1.c3
      go_simp
    try simp only [List.setIfInBounds_toArray, List.set_cons_zero, List.set_cons_succ]
    refine take12 13 89 undef rfl rfl (by kernel_rfl) (by kernel_rfl) (by kernel_rfl) (fun _ _ _ h => h) (Or.inr ⟨by kernel_rfl, rfl⟩) hHeld ?_
    try simp only [List.setIfInBounds_toArray, List.set_cons_zero, List.set_cons_succ]
    refine take12 14 90 undef rfl rfl (by kernel_rfl) (by kernel_rfl) (by kernel_rfl) (fun _ _ _ h => h) (Or.inr ⟨by kernel_rfl, rfl⟩) hHeld ?_
    try simp only [List.setIfInBounds_toArray, List.set_cons_zero, List.set_cons_succ]
    refine take12 15 91 undef rfl rfl (by kernel_rfl) (by kernel_rfl) (by kernel_rfl) (fun _ _ _ h => h) (Or.inr ⟨by kernel_rfl, rfl⟩) hHeld ?_
    try simp only [List.setIfInBounds_toArray, List.set_cons_zero, List.set_cons_succ]
    refine take12 16 92 undef rfl rfl (by kernel_rfl) (by kernel_rfl) (by kernel_rfl) (fun _ _ _ h => h) (Or.inr ⟨by kernel_rfl, rfl⟩) hHeld ?_
    try simp only [List.setIfInBounds_toArray, List.set_cons_zero, List.set_cons_succ]
    refine take12 17 93 (.bool false) rfl rfl (by kernel_rfl) (by kernel_rfl) (by kernel_rfl) (fun _ _ _ h => h) (Or.inl ⟨by kernel_rfl, fun w' h => ?_⟩) hHeld ?_
    · have uu0 := h.1.c0
      have uu1 := h.1.c1
      have uu2 := h.1.c2
      have uu3 := h.1.c3
      go_simp
    try simp only [List.setIfInBounds_toArray, List.set_cons_zero, List.set_cons_succ]
    refine wpAnyH_ready (rs := [18]) (by kernel_rfl) (by simp) ?_
    refine AllReadyH.cons rfl (fun K' hK' => ?_) AllReadyH.nil
    rw [if_pos (by kernel_rfl)]
    refine wp_su rfl _ _ rfl w.heap.size e q (L3 : Int) V4 rfl rfl _ _ _ _ SM ?_
    replace SM := SM.row e q L3 V4
    have SS2 : Um (wd.setRow w.heap.size #[.int .i64 e, .int .i64 q, .int .i64 (L3 : Int), .int .u32 V4]) ub e q L3 V4 ∧ Below w.heap.size w (wd.setRow w.heap.size #[.int .i64 e, .int .i64 q, .int .i64 (L3 : Int), .int .u32 V4]) := ⟨SS.1.at (setRow_other _ _ _ _ (by omega)), bel_row SS.2 (Nat.le_refl _) _⟩
    clear hHeld
    generalize wd.setRow w.heap.size #[.int .i64 e, .int .i64 q, .int .i64 (L3 : Int), .int .u32 V4] = W9 at *
    refine hK'.out _ _ SS2 (fun hHeld => ?_)
    clear hK' K'
    try simp only [Act.put, List.setIfInBounds_toArray, List.set_cons_zero, List.set_cons_succ]
    refine take12 19 7 (.bool false) rfl rfl (by kernel_rfl) (by kernel_rfl) (by kernel_rfl) (fun _ _ _ h => h) (Or.inl ⟨by kernel_rfl, fun w' h => ?_⟩) hHeld ?_
    · have uu0 := h.1.c0
      have uu1 := h.1.c1
      have uu2 := h.1.c2
      have uu3 := h.1.c3
      go_simp
    try simp only [List.setIfInBounds_toArray, List.set_cons_zero, List.set_cons_succ]
    refine wpAnyH_done (by kernel_rfl) ?_ _
    have HSM := hid SM
    have HSS2 := hid SS2
    clear SM SS2 SS hHeld ks kp kh u0 u1 u2 u3 HU10 HM10 HB10 t1b
    go_wp2_with fail
    refine bodyPost_ret (results_u2 rfl _ _ w.heap.size e q L3 V4 (.bool false) rfl rfl HSM.out) rfl ⟨?_, HSS2.out.2⟩
    rw [← HPOST.out]
    rw [HPOST.out, HP2.out]

end
end Go.Proofs.YtblcpdffiafgnaaGreatDoor
