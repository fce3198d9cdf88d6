import Derived.Test.YtjajcbjodokfnaaGreatDoorS3
import Derived.Laws.BytesString
import Derived.Laws.BytesArg
namespace Go.Proofs.YtjajcbjodokfnaaGreatDoor
set_option maxRecDepth 100000
open Go.RowKit
set_option linter.unusedVariables false

theorem number64_ (a : Option Addr) (c : Nat) (zs : List Int) (w : World) (hb : Bs w a 8 zs) (hc : 8 ≤ c) :
    Calls Tryz.prog 205 #[.slice a 8 c] w fun e w' => e = .returned (.int .u64 (val zs)) ∧ Below w.heap.size w w' := by
  have hne : a ≠ none := by
    rcases hb.2.2 with h | ⟨b, off, rfl, _⟩
    · omega
    · simp
  have ht : zs.take 8 = zs := List.take_of_length_le (by rw [hb.1]; exact Nat.le_refl _)
  have hln := hb.1
  have HB := hid hb
  clear hb
  go_enter Tryz.func205, Tryz.ntmps205
  go_wp2_with fail
  refine (newReader a 8 c zs w HB.out (fun h => absurd h hne) (by omega) hc).mono ?_
  rintro e1 w1 ⟨r, g, rfl, h1, h2, h3, _, h4⟩
  go_wp2_with fail
  refine (get64_whole r g zs 0 w1 h1 (by omega) (by omega) (by omega) (by omega)).mono ?_
  rintro e2 w2 ⟨rfl, h5, h6⟩
  rw [ht]
  have B : Below w.heap.size w w2 := (below_of_grown h4).trans (h6.below h2)
  go_wp2
  go_ret
  exact ⟨rfl, B⟩
theorem number32_ (a : Option Addr) (c : Nat) (zs : List Int) (w : World) (hb : Bs w a 4 zs) (hc : 4 ≤ c) :
    Calls Tryz.prog 206 #[.slice a 4 c] w fun e w' => e = .returned (.int .u32 (val zs)) ∧ Below w.heap.size w w' := by
  have hne : a ≠ none := by
    rcases hb.2.2 with h | ⟨b, off, rfl, _⟩
    · omega
    · simp
  have ht : zs.take 4 = zs := List.take_of_length_le (by rw [hb.1]; exact Nat.le_refl _)
  have hln := hb.1
  have HB := hid hb
  clear hb
  go_enter Tryz.func206, Tryz.ntmps206
  go_wp2_with fail
  refine (newReader a 4 c zs w HB.out (fun h => absurd h hne) (by omega) hc).mono ?_
  rintro e1 w1 ⟨r, g, rfl, h1, h2, h3, _, h4⟩
  go_wp2_with fail
  refine (get32_whole r g zs 0 w1 h1 (by omega) (by omega) (by omega) (by omega)).mono ?_
  rintro e2 w2 ⟨rfl, h5, h6⟩
  rw [ht]
  have B : Below w.heap.size w w2 := (below_of_grown h4).trans (h6.below h2)
  go_wp2
  go_ret
  exact ⟨rfl, B⟩
theorem number16_ (a : Option Addr) (c : Nat) (zs : List Int) (w : World) (hb : Bs w a 2 zs) (hc : 2 ≤ c) :
    Calls Tryz.prog 204 #[.slice a 2 c] w fun e w' => e = .returned (.int .u16 (val zs)) ∧ Below w.heap.size w w' := by
  have hne : a ≠ none := by
    rcases hb.2.2 with h | ⟨b, off, rfl, _⟩
    · omega
    · simp
  have ht : zs.take 2 = zs := List.take_of_length_le (by rw [hb.1]; exact Nat.le_refl _)
  have hln := hb.1
  have HB := hid hb
  clear hb
  go_enter Tryz.func204, Tryz.ntmps204
  go_wp2_with fail
  refine (newReader a 2 c zs w HB.out (fun h => absurd h hne) (by omega) hc).mono ?_
  rintro e1 w1 ⟨r, g, rfl, h1, h2, h3, _, h4⟩
  go_wp2_with fail
  refine (get16_whole r g zs 0 w1 h1 (by omega) (by omega) (by omega) (by omega)).mono ?_
  rintro e2 w2 ⟨rfl, h5, h6⟩
  rw [ht]
  have B : Below w.heap.size w w2 := (below_of_grown h4).trans (h6.below h2)
  go_wp2
  go_ret
  exact ⟨rfl, B⟩

/-- A text of bytes in memory. -/
theorem run_txt {w : World} {a : Option Addr} {n : Nat} {zs : List Int} (c : Nat) (hb : Bs w a n zs) : (convert 33 9 (.slice a n c)).run Tryz.prog w = .ok (.string (bt zs)) w := by
  have hu : Tryz.prog.underlying 9 = some .string := by kernel_rfl
  have hy : Tryz.prog.underlying 5 = some (.int .u8) := by kernel_rfl
  have hl : (zs.map fun z => UInt8.ofNat z.toNat).length = n := by rw [List.length_map, hb.1]
  cases a with
  | none =>
    have h0 : n = 0 := by rcases hb.2.2 with h | ⟨_, _, h, _⟩; exact h; cases h
    subst h0
    obtain rfl : zs = [] := List.eq_nil_of_length_eq_zero hb.1
    exact run_convert_bytes_nil (P := Tryz.prog) w 33 5 Tryz.underlying33 hy 0 c _ hu
  | some x =>
    have := run_convert_bytes_back (P := Tryz.prog) w 33 9 5 x c (zs.map fun z => UInt8.ofNat z.toNat) Tryz.underlying33 hy hu (fun j hj => by
      have hj' : j < zs.length := by simpa using hj
      have hc := hb.src1 (w1 := w) (grow_refl _ _) j _ (cells_get zs j hj')
      have hz := hb.2.1 zs[j] (List.getElem_mem hj')
      rw [hc]
      simp only [List.getD, List.getElem?_eq_getElem hj', Option.getD_some, List.getElem_map]
      congr 2
      simp
      omega)
    rw [hl] at this
    exact this
theorem bt_inj {xs ys : List Int} (hx : By xs) (hy : By ys) (h : bt xs = bt ys) : xs = ys := by
  rw [← tb_bt xs hx, h, tb_bt ys hy]
theorem bt_same {xs ys : List Int} (hx : By xs) (hy : By ys) : ((bt xs).toList == (bt ys).toList) = sameB xs ys := by
  unfold sameB
  by_cases h : xs = ys
  · subst h; simp
  · rw [decide_eq_false h, beq_eq_false_iff_ne]
    exact fun k => h (bt_inj hx hy (toList_inj k))
theorem equal_ (a b : Option Addr) (n c m d : Nat) (xs ys : List Int) (w : World) (hx : Bs w a n xs) (hy : Bs w b m ys) :
    Calls Tryz.prog 98 #[.slice a n c, .slice b m d] w fun e w' => e = .returned (.bool (sameB xs ys)) ∧ w' = w := by
  have k1 := run_txt c hx
  have k2 := run_txt d hy
  have H := hid (bt_same hx.2.1 hy.2.1)
  clear hx hy
  generalize bt xs = X at *
  generalize bt ys = Y at *
  go_enter Tryz.func98, Tryz.ntmps98
  go_wp2
  go_ret
  exact ⟨ret_bool H.out, rfl⟩
end Go.Proofs.YtjajcbjodokfnaaGreatDoor
namespace Go.Proofs.YtjajcbjodokfnaaGreatDoor
set_option maxRecDepth 100000
open Go.RowKit
set_option linter.unusedVariables false

/-- The body that read makes. -/
def rb (b : List Int) : List Int := splice (zr (us b)) 0 ((sl b 28 480).take (Nat.min 480 (us b)))
theorem bs_sl {w : World} {b off n : Nat} {zs : List Int} (h : Bs w (some ⟨b, off, none⟩) n zs) (i m : Nat) (hm : i + m ≤ n) : Bs w (some ⟨b, off + i, none⟩) m (sl zs i m) := by
  have hl := h.1
  refine ⟨sl_length (by omega), sl_by h.2.1 i m, ?_⟩
  rcases h.2.2 with h0 | ⟨b', off', e, hc⟩
  · exact .inl (by omega)
  · simp only [Option.some.injEq, Addr.mk.injEq] at e
    obtain ⟨rfl, rfl, _⟩ := e
    refine .inr ⟨b, off + i, rfl, fun j hj => ?_⟩
    rw [Nat.add_assoc, hc (i + j) (by omega)]
    simp only [sl, List.getD, List.getElem?_take, if_pos hj, List.getElem?_drop]
theorem us_eq {zs : List Int} (h : By zs) (hl : zs.length = 512) : val (sl zs 24 2) = (us zs : Int) ∧ us zs < 65536 := by
  have := val_bd h (i := 24) (n := 2) (by omega)
  unfold us
  omega
theorem bs_cell {w : World} {b off n : Nat} {zs : List Int} (h : Bs w (some ⟨b, off, none⟩) n zs) (i : Nat) (hi : i < n) : w.cell? ⟨b, off + i, none⟩ = some (.int .u8 (zs.getD i 0)) := by
  rcases h.2.2 with h0 | ⟨b', off', e, hc⟩
  · omega
  · simp only [Option.some.injEq, Addr.mk.injEq] at e
    obtain ⟨rfl, rfl, _⟩ := e
    exact hc i hi
theorem kt_ {w : World} {b off : Nat} {zs : List Int} (hy : By zs) (hl : zs.length = 512) (k0 : w.cell? ⟨b, off, none⟩ = some (.int .u8 (zs.getD 0 0))) (k1 : w.cell? ⟨b, off + 1, none⟩ = some (.int .u8 (zs.getD 1 0))) (k2 : w.cell? ⟨b, off + 2, none⟩ = some (.int .u8 (zs.getD 2 0))) (k3 : w.cell? ⟨b, off + 3, none⟩ = some (.int .u8 (zs.getD 3 0))) :
    (convert 33 9 (.slice (some ⟨b, off, none⟩) 4 4)).run Tryz.prog w = .ok (.string (bt (sl zs 0 4))) w := by
  refine run_txt 4 ⟨sl_length (by omega), sl_by hy 0 4, .inr ⟨b, off, rfl, fun i hi => ?_⟩⟩
  have e : (sl zs 0 4).getD i 0 = zs.getD i 0 := by simp only [sl, List.drop_zero, List.getD, List.getElem?_take, if_pos hi]
  rw [e]
  have c : i = 0 ∨ i = 1 ∨ i = 2 ∨ i = 3 := by omega
  rcases c with rfl | rfl | rfl | rfl
  · exact k0
  · exact k1
  · exact k2
  · exact k3
theorem Sm.set5 {w : World} {g : Nat} {T : ByteArray} {e q p : Int} {v : Value} (h : Sm w g T e q p v) (T' : ByteArray) (e' q' p' : Int) (v' : Value) : Sm (((((w.setCell ⟨g, 0, none⟩ (.string T')).setCell ⟨g, 1, none⟩ (.int .i64 e')).setCell ⟨g, 2, none⟩ (.int .i64 q')).setCell ⟨g, 3, none⟩ (.int .i64 p')).setCell ⟨g, 4, none⟩ v') g T' e' q' p' v' := by
  unfold Sm at *
  simp [World.setCell, Array.getElem?_modify, h]
theorem Row.set5 {w : World} {r : Nat} {zs : List Int} (h : Row w r zs) (g : Nat) (hne : r ≠ g) (T' : ByteArray) (e' q' p' : Int) (v' : Value) : Row (((((w.setCell ⟨g, 0, none⟩ (.string T')).setCell ⟨g, 1, none⟩ (.int .i64 e')).setCell ⟨g, 2, none⟩ (.int .i64 q')).setCell ⟨g, 3, none⟩ (.int .i64 p')).setCell ⟨g, 4, none⟩ v') r zs := by
  unfold Row at *
  rw [Below.heap_setCell _ _ _ _ hne, Below.heap_setCell _ _ _ _ hne, Below.heap_setCell _ _ _ _ hne, Below.heap_setCell _ _ _ _ hne, Below.heap_setCell _ _ _ _ hne]
  exact h
theorem bel_set5 {B : Nat} {w0 w : World} (h : Below B w0 w) (g : Nat) (hg : B ≤ g) (T' : ByteArray) (e' q' p' : Int) (v' : Value) : Below B w0 (((((w.setCell ⟨g, 0, none⟩ (.string T')).setCell ⟨g, 1, none⟩ (.int .i64 e')).setCell ⟨g, 2, none⟩ (.int .i64 q')).setCell ⟨g, 3, none⟩ (.int .i64 p')).setCell ⟨g, 4, none⟩ v') :=
  ((((h.setCell (p := ⟨g, 0, none⟩) hg _).setCell (p := ⟨g, 1, none⟩) hg _).setCell (p := ⟨g, 2, none⟩) hg _).setCell (p := ⟨g, 3, none⟩) hg _).setCell (p := ⟨g, 4, none⟩) hg _
theorem results_s {fn : Func} {p : Tmp} (h : fn.results = #[.cell p 40]) (tmps : Array Value) (w : World) (g : Nat) (T : ByteArray) (e q k : Int) (v : Value)
    (hp : tmps.getD p undef = .pointer (some ⟨g, 0, none⟩)) (hg : Sm w g T e q k v) :
    (results fn tmps).run Tryz.prog w = .ok (.agg #[.string T, .int .i64 e, .int .i64 q, .int .i64 k, v]) w := by
  have hl := run_loadVar_row (P := Tryz.prog) w g 40 40 #[.string T, .int .i64 e, .int .i64 q, .int .i64 k, v] (0, 0) _ hg Tryz.underlying40 rfl sizeS
  have hp' : tmps[p]?.getD undef = .pointer (some ⟨g, 0, none⟩) := by simpa using hp
  simp [results, h, hp', asAddr, hl]
theorem results_s2 {fn : Func} {p r : Tmp} (h : fn.results = #[.cell p 40, .tmp r]) (tmps : Array Value) (w : World) (g : Nat) (T : ByteArray) (e q k : Int) (v x : Value)
    (hp : tmps.getD p undef = .pointer (some ⟨g, 0, none⟩)) (hr : tmps.getD r undef = x) (hg : Sm w g T e q k v) :
    (results fn tmps).run Tryz.prog w = .ok (.tuple #[.agg #[.string T, .int .i64 e, .int .i64 q, .int .i64 k, v], x]) w := by
  have hl := run_loadVar_row (P := Tryz.prog) w g 40 40 #[.string T, .int .i64 e, .int .i64 q, .int .i64 k, v] (0, 0) _ hg Tryz.underlying40 rfl sizeS
  have hp' : tmps[p]?.getD undef = .pointer (some ⟨g, 0, none⟩) := by simpa using hp
  have hr' : tmps[r]?.getD undef = x := by simpa using hr
  simp [results, h, hp', hr', asAddr, hl]
set_option maxHeartbeats 8000000 in
theorem read_ (b off : Nat) (zs : List Int) (w : World) (hb : Bs w (some ⟨b, off, none⟩) 512 zs) :
    Calls Tryz.prog 184 #[.agg (fv b off)] w fun en w' => ∃ g, en = .returned (.agg #[.string (bt (sl zs 0 4)), .int .i64 (IntKind.i64.wrap (val (sl zs 4 8))), .int .i64 (IntKind.i64.wrap (val (sl zs 12 8))), .int .i64 (IntKind.i64.wrap (val (sl zs 20 4))), .slice (some ⟨g, 0, none⟩) (us zs) (us zs)]) ∧ w.heap.size ≤ g ∧ Row w' g (rb zs) ∧ Below w.heap.size w w' := by
  obtain ⟨i, hi, hz0, hz1, hz2⟩ := info_parts info5
  have hblt : b < w.heap.size := by
    rcases hb.2.2 with h0 | ⟨b', off', e, hc⟩
    · omega
    · simp only [Option.some.injEq, Addr.mk.injEq] at e
      obtain ⟨rfl, rfl, _⟩ := e
      exact World.block_lt_of_cell? w _ (hc 0 (by omega))
  have f0 := (fm_new w b off)
  have B0 : Below w.heap.size w (w.alloc (.cells (fv b off) 198)) := (Below.refl _ _).alloc (Nat.le_refl _) _
  have f1 := f0.at (w' := (w.alloc (.cells (fv b off) 198)).alloc (.cells #[.string ⟨#[]⟩, .int .i64 0, .int .i64 0, .int .i64 0, .slice none 0 0] 40)) (Below.heap_alloc _ _ _ f0.lt)
  have B1 := B0.alloc B0.size (.cells #[.string ⟨#[]⟩, .int .i64 0, .int .i64 0, .int .i64 0, .slice none 0 0] 40)
  have m1 := Sm.new (w.alloc (.cells (fv b off) 198)) ⟨#[]⟩ 0 0 0 (.slice none 0 0)
  obtain ⟨u1, u2⟩ := us_eq hb.2.1 hb.1
  simp only [fv] at *
  have x := f1.c4
  have HB := hid hb
  clear f0 B0 hb
  go_enter Tryz.func184, Tryz.ntmps184
  go_wp2_with fail
  generalize hw1 : (w.alloc _).alloc _ = w1 at *
  have hs1 : w1.heap.size = w.heap.size + 2 := by subst hw1; simp
  have hso : (w.alloc (.cells #[.slice (some ⟨b, off, none⟩) 4 4, .slice (some ⟨b, off + 4, none⟩) 8 8, .slice (some ⟨b, off + 12, none⟩) 8 8, .slice (some ⟨b, off + 20, none⟩) 4 4, .slice (some ⟨b, off + 24, none⟩) 2 2, .slice (some ⟨b, off + 28, none⟩) 480 480, .slice (some ⟨b, off, none⟩) 508 508, .slice (some ⟨b, off + 508, none⟩) 4 4] 198)).heap.size = w.heap.size + 1 := by simp
  rw [hso] at m1
  clear hw1 hso
  have Y1 : Hid (Bs w1 (some ⟨b, off, none⟩) 512 zs) := HB.out.below B1
  refine (number16_ _ 2 (sl zs 24 2) w1 (bs_sl Y1.out 24 2 (by omega)) (by omega)).mono ?_
  rintro y1 w2 ⟨rfl, g2⟩
  rw [u1]
  have f2 := f1.kept g2
  have m2 := m1.kept g2
  have B2 := bel_bel B1 B1.size g2
  have z2 := g2.size
  clear f1 m1 B1 x g2 Y1
  obtain ⟨m, hm⟩ : ∃ m, Nat.min 480 (us zs) = m := ⟨_, rfl⟩
  have HM := hid hm
  have hm1 : m ≤ us zs := by rw [← hm]; exact Nat.min_le_right _ _
  clear hm
  go_wp2_with (first | (at_make; refine wpList_make_full _ rfl _ _ 33 rfl 0 5 i (.int .u8 0) 1 Tryz.underlying33 hi hz0 hz1 .u16 .u16 _ _ (us zs) rfl rfl (by omega) (by omega) (by rw [hz2]; omega) (by unfold maxLen; omega) (by omega) ?_; intro w3 hown hg3; have r3 : Row w3 w2.heap.size (zr (us zs)) := row_of_own ((made_zeros (us zs)) ▸ hown); have f3 := f2.grown hg3 (by simp); have m3 := sm_grown m2 hg3 (by simp); have B3 := bel_grow B2 B2.size hg3; have x := f3.c5; clear hown) | (refine wpList_cp rfl (.tmp 8) (.tmp 10) rfl w2.heap.size 0 (us zs) (us zs) (some ⟨b, off + 28, none⟩) 480 480 rfl rfl (zr (us zs)) (sl zs 28 480) r3 (bs_sl (HB.out.below B3) 28 480 (by omega)) m HM.out (by rw [zr_length]; omega) ?_; intro w4 r4 g4))
  have f4 := f3.grown g4 (by simp; omega)
  have m4 := sm_grown m3 g4 (by simp; omega)
  have B4 := bel_some B3 B3.size g4 (by omega)
  have hz4 := g4.size
  have hz3 := hg3.size
  have r4lt := r4.lt
  have R4 : Hid (Row w4 w2.heap.size (rb zs)) := by
    show Row _ _ _
    unfold rb
    rw [HM.out]
    exact r4
  clear g4 hg3 f3 m3 B3 r3 r4 x f2 m2 B2 hi hz0 hz1
  generalize hg : w2.heap.size = g at *
  have Y4 : Hid (Bs w4 (some ⟨b, off, none⟩) 512 zs) := HB.out.below B4
  have hzl := HB.out.1
  have q0 := bs_cell Y4.out 0 (by omega)
  have q1 := bs_cell Y4.out 1 (by omega)
  have q2 := bs_cell Y4.out 2 (by omega)
  have q3 := bs_cell Y4.out 3 (by omega)
  simp only [Nat.add_zero] at q0
  have kt := fun wx k0 k1 k2 k3 => kt_ (w := wx) (b := b) (off := off) (zs := zs) HB.out.2.1 hzl k0 k1 k2 k3
  have d0 := f4.c0
  have d1 := f4.c1
  have d2 := f4.c2
  have d3 := f4.c3
  have v1 := val_bd HB.out.2.1 (i := 4) (n := 8) (by omega)
  have v2 := val_bd HB.out.2.1 (i := 12) (n := 8) (by omega)
  have v3 := val_bd HB.out.2.1 (i := 20) (n := 4) (by omega)
  have flt := f4.lt
  have F4 := hid f4
  have M4 := hid m4
  have BB := hid B4
  clear f4 m4 B4
  generalize hTT : bt (sl zs 0 4) = TT at *
  have HT := hid hTT
  clear hTT
  generalize zs.getD 0 0 = z0 at *
  generalize zs.getD 1 0 = z1 at *
  generalize zs.getD 2 0 = z2 at *
  generalize zs.getD 3 0 = z3 at *
  have blt : b < w4.heap.size := by omega
  have ne1 : ¬ b = w.heap.size + 1 := by omega
  have ne2 : ¬ w.heap.size + 1 = b := by omega
  have ne3 : ¬ w.heap.size = w.heap.size + 1 := by omega
  have ne4 : ¬ w.heap.size + 1 = w.heap.size := by omega
  go_region_held (fun wx => wx.cell? ⟨w.heap.size, 0, none⟩ = some (.slice (some ⟨b, off, none⟩) 4 4) ∧ wx.cell? ⟨w.heap.size, 1, none⟩ = some (.slice (some ⟨b, off + 4, none⟩) 8 8) ∧ wx.cell? ⟨w.heap.size, 2, none⟩ = some (.slice (some ⟨b, off + 12, none⟩) 8 8) ∧ wx.cell? ⟨w.heap.size, 3, none⟩ = some (.slice (some ⟨b, off + 20, none⟩) 4 4) ∧ wx.cell? ⟨b, off, none⟩ = some (.int .u8 z0) ∧ wx.cell? ⟨b, off + 1, none⟩ = some (.int .u8 z1) ∧ wx.cell? ⟨b, off + 2, none⟩ = some (.int .u8 z2) ∧ wx.cell? ⟨b, off + 3, none⟩ = some (.int .u8 z3)) (go_keep) (first | (go_at_call 206; refine (number32_ (some ⟨b, off + 20, none⟩) 4 (sl zs 20 4) _ (bs_sl (by exact Y6.out) 20 4 (by omega)) (by omega)).mono ?_; rintro y w7 ⟨rfl, g7⟩; have c0 := (g7.cell (p := ⟨w.heap.size, 0, none⟩) (Nat.lt_of_lt_of_le flt (Nat.le_trans G5.out.size G6.out.size))).trans b0; have c1 := (g7.cell (p := ⟨w.heap.size, 1, none⟩) (Nat.lt_of_lt_of_le flt (Nat.le_trans G5.out.size G6.out.size))).trans b1; have c2 := (g7.cell (p := ⟨w.heap.size, 2, none⟩) (Nat.lt_of_lt_of_le flt (Nat.le_trans G5.out.size G6.out.size))).trans b2; have c3 := (g7.cell (p := ⟨w.heap.size, 3, none⟩) (Nat.lt_of_lt_of_le flt (Nat.le_trans G5.out.size G6.out.size))).trans b3; have c4 := (g7.cell (p := ⟨b, off, none⟩) (Nat.lt_of_lt_of_le blt (Nat.le_trans G5.out.size G6.out.size))).trans b4; have c5 := (g7.cell (p := ⟨b, off + 1, none⟩) (Nat.lt_of_lt_of_le blt (Nat.le_trans G5.out.size G6.out.size))).trans b5; have c6 := (g7.cell (p := ⟨b, off + 2, none⟩) (Nat.lt_of_lt_of_le blt (Nat.le_trans G5.out.size G6.out.size))).trans b6; have c7 := (g7.cell (p := ⟨b, off + 3, none⟩) (Nat.lt_of_lt_of_le blt (Nat.le_trans G5.out.size G6.out.size))).trans b7; have m7 := ((Sm.kept (by exact M4.out) G5.out).kept G6.out).kept g7; have s0 := m7.c0; have s1 := m7.c1; have s2 := m7.c2; have s3 := m7.c3; have s4 := m7.c4; have e0 := m7.fz 0; have e1 := m7.fz 1; have e2 := m7.fz 2; have e3 := m7.fz 3; have e4 := m7.fz 4; have M7 := hid m7; have G7 := hid g7; clear m7 g7) | (go_at_call 205; have HQ := G5; refine (number64_ (some ⟨b, off + 12, none⟩) 8 (sl zs 12 8) _ (bs_sl (by exact Y5.out) 12 8 (by omega)) (by omega)).mono ?_; rintro y w6 ⟨rfl, g6⟩; have b0 := (g6.cell (p := ⟨w.heap.size, 0, none⟩) (Nat.lt_of_lt_of_le flt G5.out.size)).trans a0; have b1 := (g6.cell (p := ⟨w.heap.size, 1, none⟩) (Nat.lt_of_lt_of_le flt G5.out.size)).trans a1; have b2 := (g6.cell (p := ⟨w.heap.size, 2, none⟩) (Nat.lt_of_lt_of_le flt G5.out.size)).trans a2; have b3 := (g6.cell (p := ⟨w.heap.size, 3, none⟩) (Nat.lt_of_lt_of_le flt G5.out.size)).trans a3; have b4 := (g6.cell (p := ⟨b, off, none⟩) (Nat.lt_of_lt_of_le blt G5.out.size)).trans a4; have b5 := (g6.cell (p := ⟨b, off + 1, none⟩) (Nat.lt_of_lt_of_le blt G5.out.size)).trans a5; have b6 := (g6.cell (p := ⟨b, off + 2, none⟩) (Nat.lt_of_lt_of_le blt G5.out.size)).trans a6; have b7 := (g6.cell (p := ⟨b, off + 3, none⟩) (Nat.lt_of_lt_of_le blt G5.out.size)).trans a7; have Y6 : Hid (Bs w6 (some ⟨b, off, none⟩) 512 zs) := Bs.below (by exact Y5.out) g6; have G6 := hid g6; clear g6) | (go_at_call 205; refine (number64_ (some ⟨b, off + 4, none⟩) 8 (sl zs 4 8) _ (bs_sl (by exact Y4.out) 4 8 (by omega)) (by omega)).mono ?_; rintro y w5 ⟨rfl, g5⟩; have a0 := (g5.cell (p := ⟨w.heap.size, 0, none⟩) flt).trans d0; have a1 := (g5.cell (p := ⟨w.heap.size, 1, none⟩) flt).trans d1; have a2 := (g5.cell (p := ⟨w.heap.size, 2, none⟩) flt).trans d2; have a3 := (g5.cell (p := ⟨w.heap.size, 3, none⟩) flt).trans d3; have a4 := (g5.cell (p := ⟨b, off, none⟩) blt).trans q0; have a5 := (g5.cell (p := ⟨b, off + 1, none⟩) blt).trans q1; have a6 := (g5.cell (p := ⟨b, off + 2, none⟩) blt).trans q2; have a7 := (g5.cell (p := ⟨b, off + 3, none⟩) blt).trans q3; have Y5 : Hid (Bs w5 (some ⟨b, off, none⟩) 512 zs) := Bs.below (by exact Y4.out) g5; have G5 := hid g5; clear g5))
  have B4' : Below w.heap.size w w4.drew := ⟨BB.out.os, BB.out.tape, BB.out.output, BB.out.size, BB.out.block⟩
  have B5 := bel_bel B4' B4'.size G5.out
  have B6 := bel_bel B5 B5.size G6.out
  have B7 := bel_bel B6 B6.size G7.out
  have R7 : Row w7 g (rb zs) := ((Row.kept (r := none) (by exact R4.out) (grown_of_below G5.out) (by simp)).kept (r := none) (grown_of_below G6.out) (by simp)).kept (r := none) (grown_of_below G7.out) (by simp)
  have m8 := M7.out.set5 TT (IntKind.i64.wrap (val (sl zs 4 8))) (IntKind.i64.wrap (val (sl zs 12 8))) (IntKind.i64.wrap (val (sl zs 20 4))) (.slice (some ⟨g, 0, none⟩) (us zs) (us zs))
  have R8 := R7.set5 (w.heap.size + 1) (by omega) TT (IntKind.i64.wrap (val (sl zs 4 8))) (IntKind.i64.wrap (val (sl zs 12 8))) (IntKind.i64.wrap (val (sl zs 20 4))) (.slice (some ⟨g, 0, none⟩) (us zs) (us zs))
  have B8 := bel_set5 B7 (w.heap.size + 1) (by omega) TT (IntKind.i64.wrap (val (sl zs 4 8))) (IntKind.i64.wrap (val (sl zs 12 8))) (IntKind.i64.wrap (val (sl zs 20 4))) (.slice (some ⟨g, 0, none⟩) (us zs) (us zs))
  have M8 := hid m8
  have H8 := hid R8
  have J8 := hid B8
  clear s0 s1 s2 s3 s4 e0 e1 e2 e3 e4 c0 c1 c2 c3 c4 c5 c6 c7 M7 B4' B5 B6 B7 R7 m8 R8 B8
  go_wp2_with fail
  refine bodyPost_ret (v := .agg #[.string TT, .int .i64 (IntKind.i64.wrap (val (sl zs 4 8))), .int .i64 (IntKind.i64.wrap (val (sl zs 12 8))), .int .i64 (IntKind.i64.wrap (val (sl zs 20 4))), .slice (some ⟨g, 0, none⟩) (us zs) (us zs)]) ?_ rfl ⟨g, by rw [HT.out], by omega, H8.out, J8.out⟩
  exact results_s rfl _ _ (w.heap.size + 1) _ _ _ _ _ rfl M8.out
end Go.Proofs.YtjajcbjodokfnaaGreatDoor
