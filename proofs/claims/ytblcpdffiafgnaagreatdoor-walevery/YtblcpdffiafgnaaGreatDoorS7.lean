import Derived.Test.YtblcpdffiafgnaaGreatDoorS4
namespace Go.Proofs.YtblcpdffiafgnaaGreatDoor
set_option maxRecDepth 100000
open Go.RowKit
set_option linter.unusedVariables false

/-- The body that read makes. -/
def rb (b : List Int) : List Int := splice (zr (us b)) 0 ((sl b 28 480).take (Nat.min 480 (us b)))
theorem bs_sl {w : World} {b off n : Nat} {zs : List Int} (h : Bs w (some ⟨b, off, none⟩) n zs) (i m : Nat) (hm : i + m ≤ n) : Bs w (some ⟨b, off + i, none⟩) m (sl zs i m) := by
  have hl := h.1
  refine ⟨sl_length (by omega), sl_by h.2.1 i m, ?_⟩
  rcases h.2.2 with h0 | ⟨b', off', e, hc⟩
  · exact .inl (by omega)
  · simp only [Option.some.injEq, Addr.mk.injEq] at e
    obtain ⟨rfl, rfl, _⟩ := e
    refine .inr ⟨b, off + i, rfl, fun j hj => ?_⟩
    rw [Nat.add_assoc, hc (i + j) (by omega)]
    simp only [sl, List.getD, List.getElem?_take, if_pos hj, List.getElem?_drop]
theorem us_eq {zs : List Int} (h : By zs) (hl : zs.length = 512) : val (sl zs 24 2) = (us zs : Int) ∧ us zs < 65536 := by
  have := val_bd h (i := 24) (n := 2) (by omega)
  unfold us
  omega
theorem bs_cell {w : World} {b off n : Nat} {zs : List Int} (h : Bs w (some ⟨b, off, none⟩) n zs) (i : Nat) (hi : i < n) : w.cell? ⟨b, off + i, none⟩ = some (.int .u8 (zs.getD i 0)) := by
  rcases h.2.2 with h0 | ⟨b', off', e, hc⟩
  · omega
  · simp only [Option.some.injEq, Addr.mk.injEq] at e
    obtain ⟨rfl, rfl, _⟩ := e
    exact hc i hi
theorem kt_ {w : World} {b off : Nat} {zs : List Int} (hy : By zs) (hl : zs.length = 512) (k0 : w.cell? ⟨b, off, none⟩ = some (.int .u8 (zs.getD 0 0))) (k1 : w.cell? ⟨b, off + 1, none⟩ = some (.int .u8 (zs.getD 1 0))) (k2 : w.cell? ⟨b, off + 2, none⟩ = some (.int .u8 (zs.getD 2 0))) (k3 : w.cell? ⟨b, off + 3, none⟩ = some (.int .u8 (zs.getD 3 0))) :
    (convert 27 9 (.slice (some ⟨b, off, none⟩) 4 4)).run Tryz.prog w = .ok (.string (bt (sl zs 0 4))) w := by
  refine run_txt 4 ⟨sl_length (by omega), sl_by hy 0 4, .inr ⟨b, off, rfl, fun i hi => ?_⟩⟩
  have e : (sl zs 0 4).getD i 0 = zs.getD i 0 := by simp only [sl, List.drop_zero, List.getD, List.getElem?_take, if_pos hi]
  rw [e]
  have c : i = 0 ∨ i = 1 ∨ i = 2 ∨ i = 3 := by omega
  rcases c with rfl | rfl | rfl | rfl
  · exact k0
  · exact k1
  · exact k2
  · exact k3
theorem Sm.set5 {w : World} {g : Nat} {T : ByteArray} {e q p : Int} {v : Value} (h : Sm w g T e q p v) (T' : ByteArray) (e' q' p' : Int) (v' : Value) : Sm (((((w.setCell ⟨g, 0, none⟩ (.string T')).setCell ⟨g, 1, none⟩ (.int .i64 e')).setCell ⟨g, 2, none⟩ (.int .i64 q')).setCell ⟨g, 3, none⟩ (.int .i64 p')).setCell ⟨g, 4, none⟩ v') g T' e' q' p' v' := by
  unfold Sm at *
  simp [World.setCell, Array.getElem?_modify, h]
theorem Row.set5 {w : World} {r : Nat} {zs : List Int} (h : Row w r zs) (g : Nat) (hne : r ≠ g) (T' : ByteArray) (e' q' p' : Int) (v' : Value) : Row (((((w.setCell ⟨g, 0, none⟩ (.string T')).setCell ⟨g, 1, none⟩ (.int .i64 e')).setCell ⟨g, 2, none⟩ (.int .i64 q')).setCell ⟨g, 3, none⟩ (.int .i64 p')).setCell ⟨g, 4, none⟩ v') r zs := by
  unfold Row at *
  rw [Below.heap_setCell _ _ _ _ hne, Below.heap_setCell _ _ _ _ hne, Below.heap_setCell _ _ _ _ hne, Below.heap_setCell _ _ _ _ hne, Below.heap_setCell _ _ _ _ hne]
  exact h
theorem bel_set5 {B : Nat} {w0 w : World} (h : Below B w0 w) (g : Nat) (hg : B ≤ g) (T' : ByteArray) (e' q' p' : Int) (v' : Value) : Below B w0 (((((w.setCell ⟨g, 0, none⟩ (.string T')).setCell ⟨g, 1, none⟩ (.int .i64 e')).setCell ⟨g, 2, none⟩ (.int .i64 q')).setCell ⟨g, 3, none⟩ (.int .i64 p')).setCell ⟨g, 4, none⟩ v') :=
  ((((h.setCell (p := ⟨g, 0, none⟩) hg _).setCell (p := ⟨g, 1, none⟩) hg _).setCell (p := ⟨g, 2, none⟩) hg _).setCell (p := ⟨g, 3, none⟩) hg _).setCell (p := ⟨g, 4, none⟩) hg _
theorem results_s {fn : Func} {p : Tmp} (h : fn.results = #[.cell p 31]) (tmps : Array Value) (w : World) (g : Nat) (T : ByteArray) (e q k : Int) (v : Value)
    (hp : tmps.getD p undef = .pointer (some ⟨g, 0, none⟩)) (hg : Sm w g T e q k v) :
    (results fn tmps).run Tryz.prog w = .ok (.agg #[.string T, .int .i64 e, .int .i64 q, .int .i64 k, v]) w := by
  have hl := run_loadVar_row (P := Tryz.prog) w g 31 31 #[.string T, .int .i64 e, .int .i64 q, .int .i64 k, v] (0, 0) _ hg Tryz.underlying31 rfl sizeS
  have hp' : tmps[p]?.getD undef = .pointer (some ⟨g, 0, none⟩) := by simpa using hp
  simp [results, h, hp', asAddr, hl]
theorem results_s2 {fn : Func} {p r : Tmp} (h : fn.results = #[.cell p 31, .tmp r]) (tmps : Array Value) (w : World) (g : Nat) (T : ByteArray) (e q k : Int) (v x : Value)
    (hp : tmps.getD p undef = .pointer (some ⟨g, 0, none⟩)) (hr : tmps.getD r undef = x) (hg : Sm w g T e q k v) :
    (results fn tmps).run Tryz.prog w = .ok (.tuple #[.agg #[.string T, .int .i64 e, .int .i64 q, .int .i64 k, v], x]) w := by
  have hl := run_loadVar_row (P := Tryz.prog) w g 31 31 #[.string T, .int .i64 e, .int .i64 q, .int .i64 k, v] (0, 0) _ hg Tryz.underlying31 rfl sizeS
  have hp' : tmps[p]?.getD undef = .pointer (some ⟨g, 0, none⟩) := by simpa using hp
  have hr' : tmps[r]?.getD undef = x := by simpa using hr
  simp [results, h, hp', hr', asAddr, hl]
set_option maxHeartbeats 8000000 in
theorem read_ (b off : Nat) (zs : List Int) (w : World) (hb : Bs w (some ⟨b, off, none⟩) 512 zs) :
    Calls Tryz.prog 126 #[.agg (fv b off)] w fun en w' => ∃ g, en = .returned (.agg #[.string (bt (sl zs 0 4)), .int .i64 (IntKind.i64.wrap (val (sl zs 4 8))), .int .i64 (IntKind.i64.wrap (val (sl zs 12 8))), .int .i64 (IntKind.i64.wrap (val (sl zs 20 4))), .slice (some ⟨g, 0, none⟩) (us zs) (us zs)]) ∧ w.heap.size ≤ g ∧ Row w' g (rb zs) ∧ Below w.heap.size w w' := by
  obtain ⟨i, hi, hz0, hz1, hz2⟩ := info_parts info5
  have hblt : b < w.heap.size := by
    rcases hb.2.2 with h0 | ⟨b', off', e, hc⟩
    · omega
    · simp only [Option.some.injEq, Addr.mk.injEq] at e
      obtain ⟨rfl, rfl, _⟩ := e
      exact World.block_lt_of_cell? w _ (hc 0 (by omega))
  have f0 := (fm_new w b off)
  have B0 : Below w.heap.size w (w.alloc (.cells (fv b off) 158)) := (Below.refl _ _).alloc (Nat.le_refl _) _
  have f1 := f0.at (w' := (w.alloc (.cells (fv b off) 158)).alloc (.cells #[.string ⟨#[]⟩, .int .i64 0, .int .i64 0, .int .i64 0, .slice none 0 0] 31)) (Below.heap_alloc _ _ _ f0.lt)
  have B1 := B0.alloc B0.size (.cells #[.string ⟨#[]⟩, .int .i64 0, .int .i64 0, .int .i64 0, .slice none 0 0] 31)
  have m1 := Sm.new (w.alloc (.cells (fv b off) 158)) ⟨#[]⟩ 0 0 0 (.slice none 0 0)
  obtain ⟨u1, u2⟩ := us_eq hb.2.1 hb.1
  simp only [fv] at *
  have x := f1.c4
  have HB := hid hb
  clear f0 B0 hb
  go_enter Tryz.func126, Tryz.ntmps126
  go_wp2_with fail
  generalize hw1 : (w.alloc _).alloc _ = w1 at *
  have hs1 : w1.heap.size = w.heap.size + 2 := by subst hw1; simp
  have hso : (w.alloc (.cells #[.slice (some ⟨b, off, none⟩) 4 4, .slice (some ⟨b, off + 4, none⟩) 8 8, .slice (some ⟨b, off + 12, none⟩) 8 8, .slice (some ⟨b, off + 20, none⟩) 4 4, .slice (some ⟨b, off + 24, none⟩) 2 2, .slice (some ⟨b, off + 28, none⟩) 480 480, .slice (some ⟨b, off, none⟩) 508 508, .slice (some ⟨b, off + 508, none⟩) 4 4] 158)).heap.size = w.heap.size + 1 := by simp
  rw [hso] at m1
  clear hw1 hso
  have Y1 : Hid (Bs w1 (some ⟨b, off, none⟩) 512 zs) := HB.out.below B1
  refine (number16_ _ 2 (sl zs 24 2) w1 (bs_sl Y1.out 24 2 (by omega)) (by omega)).mono ?_
  rintro y1 w2 ⟨rfl, g2⟩
  rw [u1]
  have f2 := f1.kept g2
  have m2 := m1.kept g2
  have B2 := bel_bel B1 B1.size g2
  have z2 := g2.size
  clear f1 m1 B1 x g2 Y1
  obtain ⟨m, hm⟩ : ∃ m, Nat.min 480 (us zs) = m := ⟨_, rfl⟩
  have HM := hid hm
  have hm1 : m ≤ us zs := by rw [← hm]; exact Nat.min_le_right _ _
  clear hm
  go_wp2_with (first | (at_make; refine wpList_make_full _ rfl _ _ 27 rfl 0 5 i (.int .u8 0) 1 Tryz.underlying27 hi hz0 hz1 .u16 .u16 _ _ (us zs) rfl rfl (by omega) (by omega) (by rw [hz2]; omega) (by unfold maxLen; omega) (by omega) ?_; intro w3 hown hg3; have r3 : Row w3 w2.heap.size (zr (us zs)) := row_of_own ((made_zeros (us zs)) ▸ hown); have f3 := f2.grown hg3 (by simp); have m3 := sm_grown m2 hg3 (by simp); have B3 := bel_grow B2 B2.size hg3; have x := f3.c5; clear hown) | (refine wpList_cp rfl (.tmp 8) (.tmp 10) rfl w2.heap.size 0 (us zs) (us zs) (some ⟨b, off + 28, none⟩) 480 480 rfl rfl (zr (us zs)) (sl zs 28 480) r3 (bs_sl (HB.out.below B3) 28 480 (by omega)) m HM.out (by rw [zr_length]; omega) ?_; intro w4 r4 g4))
  have f4 := f3.grown g4 (by simp; omega)
  have m4 := sm_grown m3 g4 (by simp; omega)
  have B4 := bel_some B3 B3.size g4 (by omega)
  have hz4 := g4.size
  have hz3 := hg3.size
  have r4lt := r4.lt
  have R4 : Hid (Row w4 w2.heap.size (rb zs)) := by
    show Row _ _ _
    unfold rb
    rw [HM.out]
    exact r4
  clear g4 hg3 f3 m3 B3 r3 r4 x f2 m2 B2 hi hz0 hz1
  generalize hg : w2.heap.size = g at *
  have Y4 : Hid (Bs w4 (some ⟨b, off, none⟩) 512 zs) := HB.out.below B4
  have hzl := HB.out.1
  have q0 := bs_cell Y4.out 0 (by omega)
  have q1 := bs_cell Y4.out 1 (by omega)
  have q2 := bs_cell Y4.out 2 (by omega)
  have q3 := bs_cell Y4.out 3 (by omega)
  simp only [Nat.add_zero] at q0
  have kt := fun wx k0 k1 k2 k3 => kt_ (w := wx) (b := b) (off := off) (zs := zs) HB.out.2.1 hzl k0 k1 k2 k3
  have d0 := f4.c0
  have d1 := f4.c1
  have d2 := f4.c2
  have d3 := f4.c3
  have v1 := val_bd HB.out.2.1 (i := 4) (n := 8) (by omega)
  have v2 := val_bd HB.out.2.1 (i := 12) (n := 8) (by omega)
  have v3 := val_bd HB.out.2.1 (i := 20) (n := 4) (by omega)
  have flt := f4.lt
  have F4 := hid f4
  have M4 := hid m4
  have BB := hid B4
  clear f4 m4 B4
  generalize hTT : bt (sl zs 0 4) = TT at *
  have HT := hid hTT
  clear hTT
  generalize zs.getD 0 0 = z0 at *
  generalize zs.getD 1 0 = z1 at *
  generalize zs.getD 2 0 = z2 at *
  generalize zs.getD 3 0 = z3 at *
  have blt : b < w4.heap.size := by omega
  have ne1 : ¬ b = w.heap.size + 1 := by omega
  have ne2 : ¬ w.heap.size + 1 = b := by omega
  have ne3 : ¬ w.heap.size = w.heap.size + 1 := by omega
  have ne4 : ¬ w.heap.size + 1 = w.heap.size := by omega
  go_region_held (fun wx => wx.cell? ⟨w.heap.size, 0, none⟩ = some (.slice (some ⟨b, off, none⟩) 4 4) ∧ wx.cell? ⟨w.heap.size, 1, none⟩ = some (.slice (some ⟨b, off + 4, none⟩) 8 8) ∧ wx.cell? ⟨w.heap.size, 2, none⟩ = some (.slice (some ⟨b, off + 12, none⟩) 8 8) ∧ wx.cell? ⟨w.heap.size, 3, none⟩ = some (.slice (some ⟨b, off + 20, none⟩) 4 4) ∧ wx.cell? ⟨b, off, none⟩ = some (.int .u8 z0) ∧ wx.cell? ⟨b, off + 1, none⟩ = some (.int .u8 z1) ∧ wx.cell? ⟨b, off + 2, none⟩ = some (.int .u8 z2) ∧ wx.cell? ⟨b, off + 3, none⟩ = some (.int .u8 z3)) (go_keep) (first | (go_at_call 144; refine (number32_ (some ⟨b, off + 20, none⟩) 4 (sl zs 20 4) _ (bs_sl (by exact Y6.out) 20 4 (by omega)) (by omega)).mono ?_; rintro y w7 ⟨rfl, g7⟩; have c0 := (g7.cell (p := ⟨w.heap.size, 0, none⟩) (Nat.lt_of_lt_of_le flt (Nat.le_trans G5.out.size G6.out.size))).trans b0; have c1 := (g7.cell (p := ⟨w.heap.size, 1, none⟩) (Nat.lt_of_lt_of_le flt (Nat.le_trans G5.out.size G6.out.size))).trans b1; have c2 := (g7.cell (p := ⟨w.heap.size, 2, none⟩) (Nat.lt_of_lt_of_le flt (Nat.le_trans G5.out.size G6.out.size))).trans b2; have c3 := (g7.cell (p := ⟨w.heap.size, 3, none⟩) (Nat.lt_of_lt_of_le flt (Nat.le_trans G5.out.size G6.out.size))).trans b3; have c4 := (g7.cell (p := ⟨b, off, none⟩) (Nat.lt_of_lt_of_le blt (Nat.le_trans G5.out.size G6.out.size))).trans b4; have c5 := (g7.cell (p := ⟨b, off + 1, none⟩) (Nat.lt_of_lt_of_le blt (Nat.le_trans G5.out.size G6.out.size))).trans b5; have c6 := (g7.cell (p := ⟨b, off + 2, none⟩) (Nat.lt_of_lt_of_le blt (Nat.le_trans G5.out.size G6.out.size))).trans b6; have c7 := (g7.cell (p := ⟨b, off + 3, none⟩) (Nat.lt_of_lt_of_le blt (Nat.le_trans G5.out.size G6.out.size))).trans b7; have m7 := ((Sm.kept (by exact M4.out) G5.out).kept G6.out).kept g7; have s0 := m7.c0; have s1 := m7.c1; have s2 := m7.c2; have s3 := m7.c3; have s4 := m7.c4; have e0 := m7.fz 0; have e1 := m7.fz 1; have e2 := m7.fz 2; have e3 := m7.fz 3; have e4 := m7.fz 4; have M7 := hid m7; have G7 := hid g7; clear m7 g7) | (go_at_call 143; have HQ := G5; refine (number64_ (some ⟨b, off + 12, none⟩) 8 (sl zs 12 8) _ (bs_sl (by exact Y5.out) 12 8 (by omega)) (by omega)).mono ?_; rintro y w6 ⟨rfl, g6⟩; have b0 := (g6.cell (p := ⟨w.heap.size, 0, none⟩) (Nat.lt_of_lt_of_le flt G5.out.size)).trans a0; have b1 := (g6.cell (p := ⟨w.heap.size, 1, none⟩) (Nat.lt_of_lt_of_le flt G5.out.size)).trans a1; have b2 := (g6.cell (p := ⟨w.heap.size, 2, none⟩) (Nat.lt_of_lt_of_le flt G5.out.size)).trans a2; have b3 := (g6.cell (p := ⟨w.heap.size, 3, none⟩) (Nat.lt_of_lt_of_le flt G5.out.size)).trans a3; have b4 := (g6.cell (p := ⟨b, off, none⟩) (Nat.lt_of_lt_of_le blt G5.out.size)).trans a4; have b5 := (g6.cell (p := ⟨b, off + 1, none⟩) (Nat.lt_of_lt_of_le blt G5.out.size)).trans a5; have b6 := (g6.cell (p := ⟨b, off + 2, none⟩) (Nat.lt_of_lt_of_le blt G5.out.size)).trans a6; have b7 := (g6.cell (p := ⟨b, off + 3, none⟩) (Nat.lt_of_lt_of_le blt G5.out.size)).trans a7; have Y6 : Hid (Bs w6 (some ⟨b, off, none⟩) 512 zs) := Bs.below (by exact Y5.out) g6; have G6 := hid g6; clear g6) | (go_at_call 143; refine (number64_ (some ⟨b, off + 4, none⟩) 8 (sl zs 4 8) _ (bs_sl (by exact Y4.out) 4 8 (by omega)) (by omega)).mono ?_; rintro y w5 ⟨rfl, g5⟩; have a0 := (g5.cell (p := ⟨w.heap.size, 0, none⟩) flt).trans d0; have a1 := (g5.cell (p := ⟨w.heap.size, 1, none⟩) flt).trans d1; have a2 := (g5.cell (p := ⟨w.heap.size, 2, none⟩) flt).trans d2; have a3 := (g5.cell (p := ⟨w.heap.size, 3, none⟩) flt).trans d3; have a4 := (g5.cell (p := ⟨b, off, none⟩) blt).trans q0; have a5 := (g5.cell (p := ⟨b, off + 1, none⟩) blt).trans q1; have a6 := (g5.cell (p := ⟨b, off + 2, none⟩) blt).trans q2; have a7 := (g5.cell (p := ⟨b, off + 3, none⟩) blt).trans q3; have Y5 : Hid (Bs w5 (some ⟨b, off, none⟩) 512 zs) := Bs.below (by exact Y4.out) g5; have G5 := hid g5; clear g5))
  have B4' : Below w.heap.size w w4.drew := ⟨BB.out.os, BB.out.tape, BB.out.output, BB.out.size, BB.out.block⟩
  have B5 := bel_bel B4' B4'.size G5.out
  have B6 := bel_bel B5 B5.size G6.out
  have B7 := bel_bel B6 B6.size G7.out
  have R7 : Row w7 g (rb zs) := ((Row.kept (r := none) (by exact R4.out) (grown_of_below G5.out) (by simp)).kept (r := none) (grown_of_below G6.out) (by simp)).kept (r := none) (grown_of_below G7.out) (by simp)
  have m8 := M7.out.set5 TT (IntKind.i64.wrap (val (sl zs 4 8))) (IntKind.i64.wrap (val (sl zs 12 8))) (IntKind.i64.wrap (val (sl zs 20 4))) (.slice (some ⟨g, 0, none⟩) (us zs) (us zs))
  have R8 := R7.set5 (w.heap.size + 1) (by omega) TT (IntKind.i64.wrap (val (sl zs 4 8))) (IntKind.i64.wrap (val (sl zs 12 8))) (IntKind.i64.wrap (val (sl zs 20 4))) (.slice (some ⟨g, 0, none⟩) (us zs) (us zs))
  have B8 := bel_set5 B7 (w.heap.size + 1) (by omega) TT (IntKind.i64.wrap (val (sl zs 4 8))) (IntKind.i64.wrap (val (sl zs 12 8))) (IntKind.i64.wrap (val (sl zs 20 4))) (.slice (some ⟨g, 0, none⟩) (us zs) (us zs))
  have M8 := hid m8
  have H8 := hid R8
  have J8 := hid B8
  clear s0 s1 s2 s3 s4 e0 e1 e2 e3 e4 c0 c1 c2 c3 c4 c5 c6 c7 M7 B4' B5 B6 B7 R7 m8 R8 B8
  go_wp2_with fail
  refine bodyPost_ret (v := .agg #[.string TT, .int .i64 (IntKind.i64.wrap (val (sl zs 4 8))), .int .i64 (IntKind.i64.wrap (val (sl zs 12 8))), .int .i64 (IntKind.i64.wrap (val (sl zs 20 4))), .slice (some ⟨g, 0, none⟩) (us zs) (us zs)]) ?_ rfl ⟨g, by rw [HT.out], by omega, H8.out, J8.out⟩
  exact results_s rfl _ _ (w.heap.size + 1) _ _ _ _ _ rfl M8.out
end Go.Proofs.YtblcpdffiafgnaaGreatDoor
namespace Go.Proofs.YtblcpdffiafgnaaGreatDoor
set_option maxRecDepth 100000
open Go.RowKit
set_option linter.unusedVariables false

theorem wrap_id {x : Int} (h0 : 0 ≤ x) (h1 : x ≤ 9223372036854775807) : IntKind.i64.wrap x = x := by
  unfold IntKind.wrap
  simp only [IntKind.bits, IntKind.signed]
  have e : x % (2 ^ 64 : Int) = x := Int.emod_eq_of_lt h0 (by omega)
  simp only [e]
  rw [if_neg (by simp; omega)]
theorem wrap_neg {x : Int} (h0 : 9223372036854775807 < x) (h1 : x < 18446744073709551616) : IntKind.i64.wrap x < 0 := by
  unfold IntKind.wrap
  simp only [IntKind.bits, IntKind.signed]
  have e : x % (2 ^ 64 : Int) = x := Int.emod_eq_of_lt (by omega) (by omega)
  simp only [e]
  rw [if_pos (by simp; omega)]
  omega
theorem wrap_sq {x : Int} (h0 : 0 ≤ x) (h1 : x < 18446744073709551616) : sq (IntKind.i64.wrap x) ↔ sq x := by
  unfold sq
  by_cases h : x ≤ 9223372036854775807
  · rw [wrap_id h0 h]
  · have := wrap_neg (x := x) (by omega) h1
    omega
theorem rb_eq {zs : List Int} (hl : zs.length = 512) (hu : us zs ≤ 480) : rb zs = sl zs 28 (us zs) := by
  unfold rb
  rw [show Nat.min 480 (us zs) = us zs from Nat.min_eq_right hu]
  have e : ((sl zs 28 480).take (us zs)) = sl zs 28 (us zs) := by
    unfold sl
    rw [List.take_take, Nat.min_eq_left hu]
  rw [e]
  have hn : (sl zs 28 (us zs)).length = us zs := sl_length (by omega)
  have := spl_mid (A := []) (B := zr (us zs)) (C := []) (Y := sl zs 28 (us zs)) rfl (by rw [zr_length, hn])
  simpa using this
/-- What read tells may be just where the fields may. -/
theorem read_may {zs : List Int} (hy : By zs) (hl : zs.length = 512) :
    (MayN (bt (sl zs 0 4)) (IntKind.i64.wrap (val (sl zs 4 8))) (IntKind.i64.wrap (val (sl zs 12 8))) (IntKind.i64.wrap (val (sl zs 20 4))) (us zs) ↔ May (rs zs)) ∧
    (May (rs zs) → IntKind.i64.wrap (val (sl zs 4 8)) = (rs zs).e ∧ IntKind.i64.wrap (val (sl zs 12 8)) = (rs zs).q ∧ IntKind.i64.wrap (val (sl zs 20 4)) = (rs zs).p ∧ rb zs = (rs zs).l ∧ (rs zs).l.length = us zs) := by
  have v1 := val_bd hy (i := 4) (n := 8) (by omega)
  have v2 := val_bd hy (i := 12) (n := 8) (by omega)
  have v3 := val_bd hy (i := 20) (n := 4) (by omega)
  have hp := wrap_id v3.1 (by omega)
  obtain ⟨_, u2⟩ := us_eq hy hl
  have hlen : (sl zs 28 (us zs)).length ≤ 480 ↔ us zs ≤ 480 := by
    simp only [sl, List.length_take, List.length_drop]
    omega
  have he := wrap_sq v1.1 v1.2
  have hq := wrap_sq v2.1 v2.2
  have I : MayN (bt (sl zs 0 4)) (IntKind.i64.wrap (val (sl zs 4 8))) (IntKind.i64.wrap (val (sl zs 12 8))) (IntKind.i64.wrap (val (sl zs 20 4))) (us zs) ↔ May (rs zs) := by
    unfold MayN May rs
    rw [hp, he, hq]
    show _ ↔ _ ∧ _ ∧ _ ∧ _ ∧ (sl zs 28 (us zs)).length ≤ 480
    rw [hlen]
    rfl
  refine ⟨I, fun h => ?_⟩
  obtain ⟨h1, h2, h3, h4, h5⟩ := id h
  have hu : us zs ≤ 480 := hlen.1 h5
  refine ⟨wrap_id v1.1 ?_, wrap_id v2.1 ?_, hp, rb_eq hl hu, sl_length (by omega)⟩
  · have := h2.2; unfold rs at this; simp only at this; omega
  · have := h3.2; unfold rs at this; simp only at this; omega

set_option maxHeartbeats 4000000 in
theorem get_len (a : Option Addr) (n c : Nat) (w : World) (hn : n ≠ 512) :
    Calls Tryz.prog 107 #[.slice a n c] w fun en w' => en = .returned (.tuple #[.agg #[.string ⟨#[]⟩, .int .i64 0, .int .i64 0, .int .i64 0, .slice none 0 0], .int .i64 117]) ∧ Below w.heap.size w w' := by
  have m0 := Sm.new w ⟨#[]⟩ 0 0 0 (.slice none 0 0)
  have B0 := snew w ⟨#[]⟩ 0 0 0 (.slice none 0 0)
  have c1 : ((n : Int) != 512) = true := by rw [bne_iff_ne]; omega
  go_enter Tryz.func107, Tryz.ntmps107
  go_wp2
  refine bodyPost_ret (results_s2 rfl _ _ w.heap.size _ _ _ _ _ _ rfl rfl m0) rfl ⟨rfl, B0⟩

theorem wpList_ss {ops : Array Oper} {rest : List Oper} {o : Oper} {a : Act} {w : World} {Q : Exit → Act → World → Prop} (hgd : o.guard = none) (hdst : o.dst = none) (x y : Operand) (ho : o.op = .store 31 x y)
    (g : Nat) (T : ByteArray) (e q p : Int) (sa : Option Addr) (s1 s2 : Nat) (hx : a.eval x = .pointer (some ⟨g, 0, none⟩)) (hy : a.eval y = .agg #[.string T, .int .i64 e, .int .i64 q, .int .i64 p, .slice sa s1 s2]) (T0 : ByteArray) (e0 q0 p0 : Int) (s0 : Value) (hg : Sm w g T0 e0 q0 p0 s0)
    (h : wpList Tryz.prog ops Q rest a (w.setRow g #[.string T, .int .i64 e, .int .i64 q, .int .i64 p, .slice sa s1 s2])) : wpList Tryz.prog ops Q (o :: rest) a w := by
  refine wpList_store_row hgd _ x y ho g #[.string T, .int .i64 e, .int .i64 q, .int .i64 p, .slice sa s1 s2] hx hy _ _ hg sizeS rfl (by simp [Value.oneCell']) ?_
  rw [hdst]
  exact h
theorem row_row {w : World} {g r : Nat} {zs : List Int} (h : Row w r zs) (hne : r ≠ g) (ds : Array Value) : Row (w.setRow g ds) r zs := by
  unfold Row at *
  rw [setRow_other w g r ds hne]; exact h
set_option maxHeartbeats 4000000 in
theorem get_mid (b off c : Nat) (zs : List Int) (w : World) (hT : Tab w) (hb : Bs w (some ⟨b, off, none⟩) 512 zs) (hc : 512 ≤ c) (hm : c ≤ maxLen) (s : Sec) (he : s = rs zs) (hM : May s) :
    Calls Tryz.prog 107 #[.slice (some ⟨b, off, none⟩) 512 c] w fun en w' => (∃ g, (sameB (ps s) zs = true ∧ en = .returned (.tuple #[.agg #[.string s.T, .int .i64 s.e, .int .i64 s.q, .int .i64 s.p, .slice (some ⟨g, 0, none⟩) s.l.length s.l.length], .int .i64 0]) ∧ w.heap.size ≤ g ∧ Row w' g s.l) ∨ (sameB (ps s) zs = false ∧ en = .returned (.tuple #[.agg #[.string ⟨#[]⟩, .int .i64 0, .int .i64 0, .int .i64 0, .slice none 0 0], .int .i64 117]))) ∧ Below w.heap.size w w' := by
  have m0 := Sm.new w ⟨#[]⟩ 0 0 0 (.slice none 0 0)
  have B0 := snew w ⟨#[]⟩ 0 0 0 (.slice none 0 0)
  have hl := hb.1
  obtain ⟨k1, k2⟩ := read_may hb.2.1 hl
  obtain ⟨k3, k4, k5, k6, k7⟩ := k2 (he ▸ hM)
  have HB := hid hb
  have HTB := hid hT
  have k0 : bt (sl zs 0 4) = s.T := by rw [he]; rfl
  have hMN : MayN s.T s.e s.q s.p s.l.length := (may_n rfl).1 hM
  have HY : Hid (By s.l) := by show By _; rw [he]; exact sl_by hb.2.1 28 (us zs)
  have HYP : Hid (By (ps s)) := ps_by HY.out
  have HLP := hid (ps_length hM)
  rw [← he] at k3 k4 k5 k6 k7
  clear k1 k2 he hM hT hb
  obtain ⟨T, e, q, p, l⟩ := s
  generalize hPS : ps ⟨T, e, q, p, l⟩ = P at *
  have HPS := hid hPS
  clear hPS
  simp only at k0 k3 k4 k5 k6 k7 hMN HY
  generalize hln : l.length = n at *
  go_enter Tryz.func107, Tryz.ntmps107
  go_wp2_with fail
  refine (cut_ b off c _ hc hm).mono ?_
  rintro x1 w1 ⟨rfl, g1⟩
  replace m0 := m0.kept g1
  replace B0 := bel_bel B0 B0.size g1
  have hw1 := m0.lt
  clear g1
  go_wp2_with fail
  refine (read_ b off zs w1 (HB.out.below B0)).mono ?_
  rintro x2 w2 ⟨g, rfl, hgg, r2, g2⟩
  replace m0 := m0.kept g2
  replace B0 := bel_bel B0 B0.size g2
  rw [k3, k4, k5, k0, ← k7]
  rw [k6] at r2
  have hz2 := g2.size
  have hm2 := m0.lt
  have r2l := r2.lt
  clear k0 k3 k4 k5 k6 k7 g2
  replace m0 := m0.alloc (.cells #[.string T, .int .i64 e, .int .i64 q, .int .i64 p, .slice (some ⟨g, 0, none⟩) n n] 31)
  have m2 := Sm.new w2 T e q p (.slice (some ⟨g, 0, none⟩) n n)
  replace B0 := B0.alloc B0.size (.cells #[.string T, .int .i64 e, .int .i64 q, .int .i64 p, .slice (some ⟨g, 0, none⟩) n n] 31)
  replace r2 : Row (w2.alloc (.cells #[.string T, .int .i64 e, .int .i64 q, .int .i64 p, .slice (some ⟨g, 0, none⟩) n n] 31)) g l := r2.kept (r := none) (World.grownBy_alloc w2 _ _) (by simp)
  have M0 := hid m0
  have M2 := hid m2
  have BB := hid B0
  have R2 := hid r2
  have Y2 := hid ((r2.bs HY.out).len hln)
  have hgw : w.heap.size ≤ g := by omega
  have hgw1 : w.heap.size < g := by omega
  have hsz : (w2.alloc (.cells #[.string T, .int .i64 e, .int .i64 q, .int .i64 p, .slice (some ⟨g, 0, none⟩) n n] 31)).heap.size = w2.heap.size + 1 := by simp
  clear m0 B0 r2
  go_wp2_with fail
  refine (put_y T e q p _ n n l _ (HTB.out.bel BB.out) Y2.out hMN).mono ?_
  rintro x3 w3 ⟨g3, rfl, hg3, r3, G3⟩
  have m3 := M0.out.kept G3
  have n3 := M2.out.kept G3
  have B3 := bel_bel BB.out BB.out.size G3
  have R3 : Hid (Row w3 g l) := R2.out.kept (r := none) (grown_of_below G3) (by simp)
  have Y3 := hid (HB.out.below B3)
  have P3 : Hid (Bs w3 (some ⟨g3, 0, none⟩) 512 P) := by
    have := r3.bs (by rw [HPS.out]; exact HYP.out)
    rw [HPS.out] at this
    exact this.len HLP.out
  have M3 := hid m3
  have d0 := n3.c0
  have d1 := n3.c1
  have d2 := n3.c2
  have d3 := n3.c3
  have d4 := n3.c4
  clear M0 M2 BB R2 Y2 r3 G3 m3 m2
  cases hq : sameB P zs with
  | true =>
    go_wp2_with (first | (go_at_call 61; refine (equal_ _ _ 512 512 512 c P zs w3 P3.out Y3.out).mono ?_; rw [hq]; rintro x4 w4 ⟨rfl, hw⟩; obtain rfl := hw.symm) | (with_reducible show wpList _ _ _ (_ :: _) _ _; refine wpList_ss rfl rfl _ _ rfl w.heap.size T e q p (some ⟨g, 0, none⟩) n n rfl rfl _ _ _ _ _ (by with_reducible exact M3.out) ?_))
    refine bodyPost_ret (results_s2 rfl _ _ w.heap.size T e q p _ _ rfl rfl (M3.out.row T e q p (.slice (some ⟨g, 0, none⟩) n n))) rfl ⟨⟨g, .inl ⟨?_, ?_, hgw, row_row R3.out (by omega) _⟩⟩, bel_row B3 (Nat.le_refl _) _⟩
    · exact hq
    · rfl
  | false =>
    go_wp2_with (first | (go_at_call 61; refine (equal_ _ _ 512 512 512 c P zs w3 P3.out Y3.out).mono ?_; rw [hq]; rintro x4 w4 ⟨rfl, hw⟩; obtain rfl := hw.symm) | (with_reducible show wpList _ _ _ (_ :: _) _ _; refine wpList_ss rfl rfl _ _ rfl w.heap.size ⟨#[]⟩ 0 0 0 none 0 0 rfl rfl _ _ _ _ _ (by with_reducible exact M3.out) ?_))
    refine bodyPost_ret (results_s2 rfl _ _ w.heap.size ⟨#[]⟩ 0 0 0 _ _ rfl rfl (M3.out.row ⟨#[]⟩ 0 0 0 (.slice none 0 0))) rfl ⟨⟨g, .inr ⟨?_, rfl⟩⟩, bel_row B3 (Nat.le_refl _) _⟩
    exact hq

set_option maxHeartbeats 4000000 in
theorem get_bad (b off c : Nat) (zs : List Int) (w : World) (hb : Bs w (some ⟨b, off, none⟩) 512 zs) (hc : 512 ≤ c) (hm : c ≤ maxLen) (hM : ¬ May (rs zs)) :
    Calls Tryz.prog 107 #[.slice (some ⟨b, off, none⟩) 512 c] w fun en w' => en = .returned (.tuple #[.agg #[.string ⟨#[]⟩, .int .i64 0, .int .i64 0, .int .i64 0, .slice none 0 0], .int .i64 117]) ∧ Below w.heap.size w w' := by
  have m0 := Sm.new w ⟨#[]⟩ 0 0 0 (.slice none 0 0)
  have B0 := snew w ⟨#[]⟩ 0 0 0 (.slice none 0 0)
  have hl := hb.1
  have hN : ¬ MayN (bt (sl zs 0 4)) (IntKind.i64.wrap (val (sl zs 4 8))) (IntKind.i64.wrap (val (sl zs 12 8))) (IntKind.i64.wrap (val (sl zs 20 4))) (us zs) := fun h => hM ((read_may hb.2.1 hl).1.1 h)
  have HB := hid hb
  clear hM hb
  go_enter Tryz.func107, Tryz.ntmps107
  go_wp2_with fail
  refine (cut_ b off c _ hc hm).mono ?_
  rintro x1 w1 ⟨rfl, g1⟩
  replace m0 := m0.kept g1
  replace B0 := bel_bel B0 B0.size g1
  clear g1
  go_wp2_with fail
  refine (read_ b off zs w1 (HB.out.below B0)).mono ?_
  rintro x2 w2 ⟨g, rfl, hgg, r2, g2⟩
  replace m0 := m0.kept g2
  replace B0 := bel_bel B0 B0.size g2
  clear g2 r2 HB
  generalize bt (sl zs 0 4) = T at *
  generalize IntKind.i64.wrap (val (sl zs 4 8)) = e at *
  generalize IntKind.i64.wrap (val (sl zs 12 8)) = q at *
  generalize IntKind.i64.wrap (val (sl zs 20 4)) = p at *
  generalize us zs = n at *
  have M0 := hid (m0.alloc (.cells #[.string T, .int .i64 e, .int .i64 q, .int .i64 p, .slice (some ⟨g, 0, none⟩) n n] 31))
  have m2 := Sm.new w2 T e q p (.slice (some ⟨g, 0, none⟩) n n)
  replace B0 := B0.alloc B0.size (.cells #[.string T, .int .i64 e, .int .i64 q, .int .i64 p, .slice (some ⟨g, 0, none⟩) n n] 31)
  clear m0
  go_wp2_with fail
  refine (put_n T e q p _ n n _ hN).mono ?_
  rintro x3 w3 ⟨rfl, G3⟩
  have M3 := hid (M0.out.kept G3)
  have B3 := bel_bel B0 B0.size G3
  clear M0 m2 B0 G3
  go_wp2_with (with_reducible show wpList _ _ _ (_ :: _) _ _; refine wpList_ss rfl rfl _ _ rfl w.heap.size ⟨#[]⟩ 0 0 0 none 0 0 rfl rfl _ _ _ _ _ (by with_reducible exact M3.out) ?_)
  refine bodyPost_ret (results_s2 rfl _ _ w.heap.size ⟨#[]⟩ 0 0 0 _ _ rfl rfl (M3.out.row ⟨#[]⟩ 0 0 0 (.slice none 0 0))) rfl ⟨rfl, bel_row B3 (Nat.le_refl _) _⟩

/-- Get of what is a sector's bytes. -/
theorem get_y (a : Option Addr) (n c : Nat) (zs : List Int) (w : World) (hT : Tab w) (hb : Bs w a n zs) (hc : n ≤ c) (hm : c ≤ maxLen) (s : Sec) (hs : gs zs = some s) :
    Calls Tryz.prog 107 #[.slice a n c] w fun en w' => ∃ g, en = .returned (.tuple #[.agg #[.string s.T, .int .i64 s.e, .int .i64 s.q, .int .i64 s.p, .slice (some ⟨g, 0, none⟩) s.l.length s.l.length], .int .i64 0]) ∧ w.heap.size ≤ g ∧ Row w' g s.l ∧ Below w.heap.size w w' := by
  obtain ⟨hl, hM, hp, he⟩ := gs_some hs
  obtain rfl : n = 512 := by rw [← hb.1]; exact hl
  rcases id hb.2.2 with h0 | ⟨b, off, rfl, _⟩
  · omega
  refine (get_mid b off c zs w hT hb hc hm s he hM).mono ?_
  rintro en w' ⟨⟨g, ⟨_, rfl, h1, h2⟩ | ⟨hf, _⟩⟩, h3⟩
  · exact ⟨g, rfl, h1, h2, h3⟩
  · rw [hp, sameB_self] at hf; cases hf
/-- Get of what is none's. -/
theorem get_n (a : Option Addr) (n c : Nat) (zs : List Int) (w : World) (hT : Tab w) (hb : Bs w a n zs) (hc : n ≤ c) (hm : c ≤ maxLen) (hs : gs zs = none) :
    Calls Tryz.prog 107 #[.slice a n c] w fun en w' => en = .returned (.tuple #[.agg #[.string ⟨#[]⟩, .int .i64 0, .int .i64 0, .int .i64 0, .slice none 0 0], .int .i64 117]) ∧ Below w.heap.size w w' := by
  by_cases hn : n = 512
  · subst hn
    rcases id hb.2.2 with h0 | ⟨b, off, rfl, _⟩
    · omega
    by_cases hM : May (rs zs)
    · refine (get_mid b off c zs w hT hb hc hm _ rfl hM).mono ?_
      rintro en w' ⟨⟨g, ⟨ht, _⟩ | ⟨_, rfl⟩⟩, h3⟩
      · exfalso
        have : ps (rs zs) = zs := of_decide_eq_true ht
        unfold gs at hs
        rw [if_pos ⟨hb.1, hM, this⟩] at hs
        cases hs
      · exact ⟨rfl, h3⟩
    · exact get_bad b off c zs w hb hc hm hM
  · exact get_len a n c w hn
end Go.Proofs.YtblcpdffiafgnaaGreatDoor
namespace Go.Proofs.YtblcpdffiafgnaaGreatDoor
set_option maxRecDepth 100000
open Go.RowKit
set_option linter.unusedVariables false

/-- What Right tells. -/
def rt (b : List Int) (T : ByteArray) (e q p : Int) : Option (List Int) :=
  match gs b with
  | some s => if s.T = T ∧ s.e = e ∧ s.q = q ∧ s.p = p then some s.l else none
  | none => none
theorem rt_some {b : List Int} {T : ByteArray} {e q p : Int} {l : List Int} (h : rt b T e q p = some l) : gs b = some ⟨T, e, q, p, l⟩ := by
  unfold rt at h
  cases hg : gs b with
  | none => rw [hg] at h; cases h
  | some s =>
    rw [hg] at h
    simp only at h
    split at h
    · rename_i k
      obtain ⟨rfl, rfl, rfl, rfl⟩ := k
      obtain rfl := Option.some.inj h
      rfl
    · cases h
theorem tne_yes {S T : ByteArray} (h : S ≠ T) : (S.toList != T.toList) = true := by rw [bne_iff_ne]; exact fun k => h (toList_inj k)
theorem tne_no (T : ByteArray) : (T.toList != T.toList) = false := by simp
set_option maxHeartbeats 4000000 in
theorem right_y (T0 : ByteArray) (e0 q0 p0 : Int) (l : List Int) (a : Option Addr) (n0 c : Nat) (zs : List Int) (w : World) (hT : Tab w) (hb : Bs w a n0 zs) (hc : n0 ≤ c) (hm : c ≤ maxLen) (hs : gs zs = some ⟨T0, e0, q0, p0, l⟩) :
    Calls Tryz.prog 105 #[.slice a n0 c, .string T0, .int .i64 e0, .int .i64 q0, .int .i64 p0] w fun en w' => ∃ g, en = .returned (.tuple #[.slice (some ⟨g, 0, none⟩) l.length l.length, .bool true]) ∧ w.heap.size ≤ g ∧ Row w' g l ∧ Below w.heap.size w w' := by
  have HB := hid hb
  clear hb
  go_enter Tryz.func105, Tryz.ntmps105
  go_wp2_with fail
  refine (get_y a n0 c zs w hT HB.out hc hm ⟨T0, e0, q0, p0, l⟩ hs).mono ?_
  rintro x1 w1 ⟨g, rfl, hg, r1, g1⟩
  simp only
  generalize hln : l.length = n at *
  have m1 := Sm.new w1 T0 e0 q0 p0 (.slice (some ⟨g, 0, none⟩) n n)
  have B1 : Below w.heap.size w (w1.alloc (.cells #[.string T0, .int .i64 e0, .int .i64 q0, .int .i64 p0, .slice (some ⟨g, 0, none⟩) n n] 31)) := g1.alloc g1.size _
  have r2 : Row (w1.alloc (.cells #[.string T0, .int .i64 e0, .int .i64 q0, .int .i64 p0, .slice (some ⟨g, 0, none⟩) n n] 31)) g l := r1.kept (r := none) (World.grownBy_alloc w1 _ _) (by simp)
  have R2 := hid r2
  have BB := hid B1
  have d0 := m1.c0
  have d1 := m1.c1
  have d2 := m1.c2
  have d3 := m1.c3
  have d4 := m1.c4
  clear m1 B1 r2 r1 g1 hs
  have x0 := tne_no T0
  have x1 : (e0 != e0) = false := by simp
  have x2 : (q0 != q0) = false := by simp
  have x3 : (p0 != p0) = false := by simp
  go_wp2
  go_ret2
  exact ⟨g, by rw [hln]; rfl, hg, R2.out, BB.out⟩
set_option maxHeartbeats 4000000 in
theorem right_0 (T : ByteArray) (e q p : Int) (a : Option Addr) (n0 c : Nat) (zs : List Int) (w : World) (hT : Tab w) (hb : Bs w a n0 zs) (hc : n0 ≤ c) (hm : c ≤ maxLen) (hs : gs zs = none) :
    Calls Tryz.prog 105 #[.slice a n0 c, .string T, .int .i64 e, .int .i64 q, .int .i64 p] w fun en w' => en = .returned (.tuple #[.slice none 0 0, .bool false]) ∧ Below w.heap.size w w' := by
  have HB := hid hb
  clear hb
  go_enter Tryz.func105, Tryz.ntmps105
  go_wp2_with fail
  refine (get_n a n0 c zs w hT HB.out hc hm hs).mono ?_
  rintro x1 w1 ⟨rfl, g1⟩
  have B1 : Below w.heap.size w (w1.alloc (.cells #[.string ⟨#[]⟩, .int .i64 0, .int .i64 0, .int .i64 0, .slice none 0 0] 31)) := g1.alloc g1.size _
  go_wp2
  go_ret2
  exact ⟨rfl, B1⟩
set_option maxHeartbeats 4000000 in
theorem right_1 (T0 : ByteArray) (e0 q0 p0 : Int) (l : List Int) (T : ByteArray) (e : Int) (q : Int) (p : Int) (a : Option Addr) (n0 c : Nat) (zs : List Int) (w : World) (hT : Tab w) (hb : Bs w a n0 zs) (hc : n0 ≤ c) (hm : c ≤ maxLen) (hs : gs zs = some ⟨T0, e0, q0, p0, l⟩) (hne : T0 ≠ T) :
    Calls Tryz.prog 105 #[.slice a n0 c, .string T, .int .i64 e, .int .i64 q, .int .i64 p] w fun en w' => en = .returned (.tuple #[.slice none 0 0, .bool false]) ∧ Below w.heap.size w w' := by
  have HB := hid hb
  clear hb
  go_enter Tryz.func105, Tryz.ntmps105
  go_wp2_with fail
  refine (get_y a n0 c zs w hT HB.out hc hm ⟨T0, e0, q0, p0, l⟩ hs).mono ?_
  rintro x1 w1 ⟨g, rfl, hg, r1, g1⟩
  simp only
  generalize hln : l.length = n at *
  have m1 := Sm.new w1 T0 e0 q0 p0 (.slice (some ⟨g, 0, none⟩) n n)
  have B1 : Below w.heap.size w (w1.alloc (.cells #[.string T0, .int .i64 e0, .int .i64 q0, .int .i64 p0, .slice (some ⟨g, 0, none⟩) n n] 31)) := g1.alloc g1.size _
  have r2 : Row (w1.alloc (.cells #[.string T0, .int .i64 e0, .int .i64 q0, .int .i64 p0, .slice (some ⟨g, 0, none⟩) n n] 31)) g l := r1.kept (r := none) (World.grownBy_alloc w1 _ _) (by simp)
  have R2 := hid r2
  have BB := hid B1
  have d0 := m1.c0
  have d1 := m1.c1
  have d2 := m1.c2
  have d3 := m1.c3
  have d4 := m1.c4
  clear m1 B1 r2 r1 g1 hs
  have x0 : ¬ T0.toList = T.toList := fun k => hne (toList_inj k)
  go_wp2
  go_ret2
  exact ⟨rfl, BB.out⟩
set_option maxHeartbeats 4000000 in
theorem right_2 (T0 : ByteArray) (e0 q0 p0 : Int) (l : List Int) (e : Int) (q : Int) (p : Int) (a : Option Addr) (n0 c : Nat) (zs : List Int) (w : World) (hT : Tab w) (hb : Bs w a n0 zs) (hc : n0 ≤ c) (hm : c ≤ maxLen) (hs : gs zs = some ⟨T0, e0, q0, p0, l⟩) (hne : e0 ≠ e) :
    Calls Tryz.prog 105 #[.slice a n0 c, .string T0, .int .i64 e, .int .i64 q, .int .i64 p] w fun en w' => en = .returned (.tuple #[.slice none 0 0, .bool false]) ∧ Below w.heap.size w w' := by
  have HB := hid hb
  clear hb
  go_enter Tryz.func105, Tryz.ntmps105
  go_wp2_with fail
  refine (get_y a n0 c zs w hT HB.out hc hm ⟨T0, e0, q0, p0, l⟩ hs).mono ?_
  rintro x1 w1 ⟨g, rfl, hg, r1, g1⟩
  simp only
  generalize hln : l.length = n at *
  have m1 := Sm.new w1 T0 e0 q0 p0 (.slice (some ⟨g, 0, none⟩) n n)
  have B1 : Below w.heap.size w (w1.alloc (.cells #[.string T0, .int .i64 e0, .int .i64 q0, .int .i64 p0, .slice (some ⟨g, 0, none⟩) n n] 31)) := g1.alloc g1.size _
  have r2 : Row (w1.alloc (.cells #[.string T0, .int .i64 e0, .int .i64 q0, .int .i64 p0, .slice (some ⟨g, 0, none⟩) n n] 31)) g l := r1.kept (r := none) (World.grownBy_alloc w1 _ _) (by simp)
  have R2 := hid r2
  have BB := hid B1
  have d0 := m1.c0
  have d1 := m1.c1
  have d2 := m1.c2
  have d3 := m1.c3
  have d4 := m1.c4
  clear m1 B1 r2 r1 g1 hs
  have x0 := tne_no T0
  have x1 : (e0 != e) = true := by rw [bne_iff_ne]; exact hne
  go_wp2
  go_ret2
  exact ⟨rfl, BB.out⟩
set_option maxHeartbeats 4000000 in
theorem right_3 (T0 : ByteArray) (e0 q0 p0 : Int) (l : List Int) (q : Int) (p : Int) (a : Option Addr) (n0 c : Nat) (zs : List Int) (w : World) (hT : Tab w) (hb : Bs w a n0 zs) (hc : n0 ≤ c) (hm : c ≤ maxLen) (hs : gs zs = some ⟨T0, e0, q0, p0, l⟩) (hne : q0 ≠ q) :
    Calls Tryz.prog 105 #[.slice a n0 c, .string T0, .int .i64 e0, .int .i64 q, .int .i64 p] w fun en w' => en = .returned (.tuple #[.slice none 0 0, .bool false]) ∧ Below w.heap.size w w' := by
  have HB := hid hb
  clear hb
  go_enter Tryz.func105, Tryz.ntmps105
  go_wp2_with fail
  refine (get_y a n0 c zs w hT HB.out hc hm ⟨T0, e0, q0, p0, l⟩ hs).mono ?_
  rintro x1 w1 ⟨g, rfl, hg, r1, g1⟩
  simp only
  generalize hln : l.length = n at *
  have m1 := Sm.new w1 T0 e0 q0 p0 (.slice (some ⟨g, 0, none⟩) n n)
  have B1 : Below w.heap.size w (w1.alloc (.cells #[.string T0, .int .i64 e0, .int .i64 q0, .int .i64 p0, .slice (some ⟨g, 0, none⟩) n n] 31)) := g1.alloc g1.size _
  have r2 : Row (w1.alloc (.cells #[.string T0, .int .i64 e0, .int .i64 q0, .int .i64 p0, .slice (some ⟨g, 0, none⟩) n n] 31)) g l := r1.kept (r := none) (World.grownBy_alloc w1 _ _) (by simp)
  have R2 := hid r2
  have BB := hid B1
  have d0 := m1.c0
  have d1 := m1.c1
  have d2 := m1.c2
  have d3 := m1.c3
  have d4 := m1.c4
  clear m1 B1 r2 r1 g1 hs
  have x0 := tne_no T0
  have x1 : (e0 != e0) = false := by simp
  have x2 : (q0 != q) = true := by rw [bne_iff_ne]; exact hne
  go_wp2
  go_ret2
  exact ⟨rfl, BB.out⟩
set_option maxHeartbeats 4000000 in
theorem right_4 (T0 : ByteArray) (e0 q0 p0 : Int) (l : List Int) (p : Int) (a : Option Addr) (n0 c : Nat) (zs : List Int) (w : World) (hT : Tab w) (hb : Bs w a n0 zs) (hc : n0 ≤ c) (hm : c ≤ maxLen) (hs : gs zs = some ⟨T0, e0, q0, p0, l⟩) (hne : p0 ≠ p) :
    Calls Tryz.prog 105 #[.slice a n0 c, .string T0, .int .i64 e0, .int .i64 q0, .int .i64 p] w fun en w' => en = .returned (.tuple #[.slice none 0 0, .bool false]) ∧ Below w.heap.size w w' := by
  have HB := hid hb
  clear hb
  go_enter Tryz.func105, Tryz.ntmps105
  go_wp2_with fail
  refine (get_y a n0 c zs w hT HB.out hc hm ⟨T0, e0, q0, p0, l⟩ hs).mono ?_
  rintro x1 w1 ⟨g, rfl, hg, r1, g1⟩
  simp only
  generalize hln : l.length = n at *
  have m1 := Sm.new w1 T0 e0 q0 p0 (.slice (some ⟨g, 0, none⟩) n n)
  have B1 : Below w.heap.size w (w1.alloc (.cells #[.string T0, .int .i64 e0, .int .i64 q0, .int .i64 p0, .slice (some ⟨g, 0, none⟩) n n] 31)) := g1.alloc g1.size _
  have r2 : Row (w1.alloc (.cells #[.string T0, .int .i64 e0, .int .i64 q0, .int .i64 p0, .slice (some ⟨g, 0, none⟩) n n] 31)) g l := r1.kept (r := none) (World.grownBy_alloc w1 _ _) (by simp)
  have R2 := hid r2
  have BB := hid B1
  have d0 := m1.c0
  have d1 := m1.c1
  have d2 := m1.c2
  have d3 := m1.c3
  have d4 := m1.c4
  clear m1 B1 r2 r1 g1 hs
  have x0 := tne_no T0
  have x1 : (e0 != e0) = false := by simp
  have x2 : (q0 != q0) = false := by simp
  have x3 : (p0 != p) = true := by rw [bne_iff_ne]; exact hne
  go_wp2
  go_ret2
  exact ⟨rfl, BB.out⟩
/-- Right where it does not tell. -/
theorem right_n (T : ByteArray) (e q p : Int) (a : Option Addr) (n0 c : Nat) (zs : List Int) (w : World) (hT : Tab w) (hb : Bs w a n0 zs) (hc : n0 ≤ c) (hm : c ≤ maxLen) (hs : rt zs T e q p = none) :
    Calls Tryz.prog 105 #[.slice a n0 c, .string T, .int .i64 e, .int .i64 q, .int .i64 p] w fun en w' => en = .returned (.tuple #[.slice none 0 0, .bool false]) ∧ Below w.heap.size w w' := by
  cases hg : gs zs with
  | none => exact right_0 T e q p a n0 c zs w hT hb hc hm hg
  | some s =>
    obtain ⟨T0, e0, q0, p0, l⟩ := s
    unfold rt at hs
    rw [hg] at hs
    simp only at hs
    by_cases h1 : T0 = T
    · subst h1
      by_cases h2 : e0 = e
      · subst h2
        by_cases h3 : q0 = q
        · subst h3
          by_cases h4 : p0 = p
          · subst h4
            rw [if_pos ⟨rfl, rfl, rfl, rfl⟩] at hs
            cases hs
          · exact right_4 T0 e0 q0 p0 l p a n0 c zs w hT hb hc hm hg h4
        · exact right_3 T0 e0 q0 p0 l q p a n0 c zs w hT hb hc hm hg h3
      · exact right_2 T0 e0 q0 p0 l e q p a n0 c zs w hT hb hc hm hg h2
    · exact right_1 T0 e0 q0 p0 l T e q p a n0 c zs w hT hb hc hm hg h1
end Go.Proofs.YtblcpdffiafgnaaGreatDoor
