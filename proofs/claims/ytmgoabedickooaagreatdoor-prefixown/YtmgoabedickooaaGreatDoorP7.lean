import Derived.Test.YtmgoabedickooaaGreatDoorP6
namespace Go.Proofs.YtmgoabedickooaaGreatDoor
set_option maxRecDepth 100000
open Go.RowKit
set_option linter.unusedVariables false

theorem val_take7 (l : List Int) (j : Nat) (h : j < l.length) : val (l.take (j + 1)) = val (l.take j) * 256 + l.getD j 0 := by
  rw [List.take_succ_eq_append_getElem h, val_snoc]
  simp [List.getD, h]
theorem setCell_other7 (w : World) (g i j : Nat) (v : Value) (h : j ≠ g) : (w.setCell ⟨g, i, none⟩ v).heap[j]? = w.heap[j]? := by
  simp [World.setCell, Array.getElem?_modify, Ne.symm h]
section
variable {w w' : World} {g : Nat} {F H L B : Int}
theorem Am.s0 (h : Am w g F H L) (x : Int) : Am (w.setCell ⟨g, 0, none⟩ (.int .i64 x)) g x H L := by
  unfold Am at *
  simp [World.setCell, Array.getElem?_modify, h]
theorem Am.s1 (h : Am w g F H L) (x : Int) : Am (w.setCell ⟨g, 1, none⟩ (.int .u64 x)) g F x L := by
  unfold Am at *
  simp [World.setCell, Array.getElem?_modify, h]
theorem Am.s2 (h : Am w g F H L) (x : Int) : Am (w.setCell ⟨g, 2, none⟩ (.int .u64 x)) g F H x := by
  unfold Am at *
  simp [World.setCell, Array.getElem?_modify, h]
theorem Am.fz (h : Am w g F H L) (i : Nat) : w.frozen? ⟨g, i, none⟩ = false := by unfold Am at h; simp [World.frozen?, h]
end
theorem sizea : (Tryz.prog.info? 48).map (·.size) = some 3 := by kernel_rfl
theorem Am.row {w : World} {g : Nat} {F H L : Int} (h : Am w g F H L) (F' H' L' : Int) : Am (w.setRow g #[.int .i64 F', .int .u64 H', .int .u64 L']) g F' H' L' := setRow_heap w g _ _ _ _ h
theorem wpList_sa {ops : Array Oper} {rest : List Oper} {o : Oper} {a : Act} {w : World} {Q : Exit → Act → World → Prop} (hgd : o.guard = none) (hdst : o.dst = none) (x y : Operand) (ho : o.op = .store 48 x y)
    (g : Nat) (F H L : Int) (hx : a.eval x = .pointer (some ⟨g, 0, none⟩)) (hy : a.eval y = .agg #[.int .i64 F, .int .u64 H, .int .u64 L]) (F0 H0 L0 : Int) (hg : Am w g F0 H0 L0)
    (h : wpList Tryz.prog ops Q rest a (w.setRow g #[.int .i64 F, .int .u64 H, .int .u64 L])) : wpList Tryz.prog ops Q (o :: rest) a w := by
  refine wpList_store_row hgd _ x y ho g #[.int .i64 F, .int .u64 H, .int .u64 L] hx hy _ _ hg sizea rfl (by simp [Value.oneCell']) ?_
  rw [hdst]
  exact h
theorem results_a {fn : Func} {p : Tmp} (h : fn.results = #[.cell p 48]) (tmps : Array Value) (w : World) (g : Nat) (F H L : Int)
    (hp : tmps.getD p undef = .pointer (some ⟨g, 0, none⟩)) (hg : Am w g F H L) : (results fn tmps).run Tryz.prog w = .ok (.agg #[.int .i64 F, .int .u64 H, .int .u64 L]) w :=
  results_cell_row h tmps w g 48 #[.int .i64 F, .int .u64 H, .int .u64 L] (0, 0) _ hp hg Tryz.underlying48 rfl sizea
theorem getD_byte7 {zs : List Int} (h : ∀ z ∈ zs, 0 ≤ z ∧ z ≤ 255) (i : Nat) : 0 ≤ zs.getD i 0 ∧ zs.getD i 0 ≤ 255 := getD_byte6 h i
theorem pow256_15 (j : Nat) (h : j ≤ 15) : (256 : Int) ^ j ≤ 1329227995784915872903807060280344576 := by
  have : j = 0 ∨ j = 1 ∨ j = 2 ∨ j = 3 ∨ j = 4 ∨ j = 5 ∨ j = 6 ∨ j = 7 ∨ j = 8 ∨ j = 9 ∨ j = 10 ∨ j = 11 ∨ j = 12 ∨ j = 13 ∨ j = 14 ∨ j = 15 := by omega
  rcases this with rfl | rfl | rfl | rfl | rfl | rfl | rfl | rfl | rfl | rfl | rfl | rfl | rfl | rfl | rfl | rfl <;> decide
/-- The address that these bytes are. -/
def af (m : Nat) : Int := if m = 4 then 4 else 6
def ah (l : List Int) : Int := val l / 18446744073709551616
def al (l : List Int) : Int := val l % 18446744073709551616
set_option maxHeartbeats 1000000 in
theorem refAddr_ (b off m c : Nat) (zs : List Int) (w : World) (hl : zs.length = m) (hm : m = 4 ∨ m = 16) (hby : ∀ z ∈ zs, 0 ≤ z ∧ z ≤ 255) (hc : ∀ i, i < m → w.cell? ⟨b, off + i, none⟩ = some (.int .u8 (zs.getD i 0))) :
    Calls Tryz.prog 29 #[.slice (some ⟨b, off, none⟩) m c] w fun e w' => e = .returned (.agg #[.int .i64 (af m), .int .u64 (ah zs), .int .u64 (al zs)]) ∧ Below w.heap.size w w' := by
  have HC := hid hc
  have HB := hid hby
  have HL := hid hl
  have HLB : Hid (b < w.heap.size) := World.block_lt_of_cell? w _ (hc 0 (by omega))
  clear hc hby hl
  rcases hm with rfl | rfl
  · have B0 := aanew w 0 0 0 4 0 0
    have m0 := (Am.new w 0 0 0).alloc (.cells #[.int .i64 4, .int .u64 0, .int .u64 0] 48)
    have m1 := Am.new (w.alloc (.cells #[.int .i64 0, .int .u64 0, .int .u64 0] 48)) 4 0 0
    rw [World.size_alloc] at m1
    go_enter Tryz.func29, Tryz.ntmps29
    go_wp2_with fail
    generalize (w.alloc (.cells #[.int .i64 0, .int .u64 0, .int .u64 0] 48)).alloc (.cells #[.int .i64 4, .int .u64 0, .int .u64 0] 48) = w1 at *
    go_loopw [4] (fun i wr => ∃ j : Nat, j ≤ 4 ∧ i = .int .i64 j ∧ Am wr w.heap.size 0 0 0 ∧ Am wr (w.heap.size + 1) 4 (ah (zs.take j)) (al (zs.take j)) ∧ Below w.heap.size w wr) (fun i _ => 4 - (intOf i).toNat)
    case atStart => exact ⟨0, by omega, rfl, m0, m1, B0⟩
    case round =>
      clear m0 m1 B0
      obtain ⟨j, hj, rfl, m0, m1, B0⟩ := hrel
      by_cases hlt : j < 4
      · have hI : (j : Int) < 4 := by omega
        have cb := (B0.cell HLB.out).trans (HC.out j hlt)
        have HCB := hid (HC.out j hlt)
        have HV := hid (val_take7 zs j (by rw [HL.out]; exact hlt))
        have hV := val_bound (zs.take j) (fun z hz => HB.out z (List.mem_of_mem_take hz))
        have hlen : (zs.take j).length = j := by rw [List.length_take, HL.out]; omega
        rw [hlen] at hV
        have hp := pow256_15 j (by omega)
        have hy := getD_byte7 HB.out j
        have HU : Hid (ah (zs.take (j + 1)) = ah (zs.take j) * 256 + al (zs.take j) / 72057594037927936 ∧ al (zs.take (j + 1)) = al (zs.take j) % 72057594037927936 * 256 + zs.getD j 0) := by
          show _ ∧ _
          unfold ah al
          rw [HV.out]
          generalize val (zs.take j) = V at *
          generalize zs.getD j 0 = y at *
          omega
        have hh : 0 ≤ ah (zs.take j) ∧ ah (zs.take j) < 72057594037927936 := by
          unfold ah
          generalize val (zs.take j) = V at *
          omega
        have hl : 0 ≤ al (zs.take j) ∧ al (zs.take j) ≤ 18446744073709551615 := by
          unfold al
          generalize val (zs.take j) = V at *
          omega
        clear hV hp hlen HV
        obtain ⟨X, HX⟩ : ∃ X, Hid (ah (zs.take j) = X) := ⟨_, rfl⟩
        obtain ⟨Y, HY⟩ : ∃ Y, Hid (al (zs.take j) = Y) := ⟨_, rfl⟩
        rw [HX.out] at hh
        rw [HY.out] at hl
        rw [HX.out, HY.out] at m1 HU
        generalize zs.getD j 0 = y at *
        obtain ⟨Z, HZ⟩ : ∃ Z, Hid (Y / 72057594037927936 = Z) := ⟨_, rfl⟩
        have hZ : 0 ≤ Z ∧ Z ≤ 255 := by have := HZ.out; omega
        have ho1 := or8 X Z hh.1 hh.2 hZ.1 hZ.2
        obtain ⟨Q, HQ⟩ : ∃ Q, Hid (Y % 72057594037927936 = Q) := ⟨_, rfl⟩
        have hQ : 0 ≤ Q ∧ Q < 72057594037927936 := by have := HQ.out; omega
        have ho2 := or8 Q y hQ.1 hQ.2 hy.1 hy.2
        have hw1 : Y * 256 % 18446744073709551616 = Q * 256 := by have := HQ.out; omega
        have HW : Hid (bits BinOp.or .u64 (IntKind.u64.wrap (Y * 256)) y = Q * 256 + y) := by show _ = _; rw [IntKind.wrap_u64, hw1, ho2]
        clear hw1 ho2
        have e56 : (2 : Int) ^ 56 = 72057594037927936 := by decide
        have hz1 : Y / 2 ^ 56 = Z := by rw [e56]; exact HZ.out
        clear e56
        have hz2 := HZ.out
        rw [HZ.out, HQ.out] at HU
        have c1 := m1.c1
        have c2 := m1.c2
        have f1 := m1.fz 1
        have f2 := m1.fz 2
        go_wp2_with fail
        clear c1 c2 f1 f2 cb ho1
        replace m0 := m0.at (setCell_other7 wr (w.heap.size + 1) 1 w.heap.size (.int .u64 (X * 256 + Z)) (by omega))
        replace m1 := m1.s1 (X * 256 + Z)
        replace B0 := B0.setCell (p := ⟨w.heap.size + 1, 1, none⟩) (Nat.le_succ _) (.int .u64 (X * 256 + Z))
        generalize wr.setCell ⟨w.heap.size + 1, 1, none⟩ (.int .u64 (X * 256 + Z)) = w2 at *
        have c2 := m1.c2
        have f2 := m1.fz 2
        have cb := (B0.cell HLB.out).trans HCB.out
        have m2 : Am w2.drew w.heap.size 0 0 0 := m0
        have m3 : Am w2.drew (w.heap.size + 1) 4 (X * 256 + Z) Y := m1
        replace m2 := m2.at (setCell_other7 w2.drew (w.heap.size + 1) 2 w.heap.size (.int .u64 (Q * 256 + y)) (by omega))
        replace m3 := m3.s2 (Q * 256 + y)
        have B3 := (bel_drew1 B0).setCell (p := ⟨w.heap.size + 1, 2, none⟩) (Nat.le_succ _) (.int .u64 (Q * 256 + y))
        clear m0 m1 B0
        go_wp2_with fail
        go_region
        go_wp2_with fail
        go_roundw
        case rel => exact ⟨j + 1, by omega, by go_num, by rw [HW.out]; exact m2, by rw [HW.out, HU.out.1, HU.out.2]; exact m3, by rw [HW.out]; exact B3⟩
        case measure => simp [intOf]; omega
      · have hI : ¬ (j : Int) < 4 := by omega
        obtain rfl : j = 4 := by omega
        rw [List.take_of_length_le (by rw [HL.out]; exact Nat.le_refl _)] at m1
        have c0 := m1.c0
        have c1 := m1.c1
        have c2 := m1.c2
        go_wp2_with (refine wpList_sa rfl rfl _ _ rfl w.heap.size 4 (ah zs) (al zs) rfl rfl 0 0 0 (by with_reducible exact m0) ?_)
        refine bodyPost_ret (results_a rfl _ _ w.heap.size 4 (ah zs) (al zs) rfl (m0.row _ _ _)) rfl ⟨rfl, bel_row B0 (Nat.le_refl _) _⟩
  · have B0 := aanew w 0 0 0 6 0 0
    have m0 := (Am.new w 0 0 0).alloc (.cells #[.int .i64 6, .int .u64 0, .int .u64 0] 48)
    have m1 := Am.new (w.alloc (.cells #[.int .i64 0, .int .u64 0, .int .u64 0] 48)) 6 0 0
    rw [World.size_alloc] at m1
    go_enter Tryz.func29, Tryz.ntmps29
    go_wp2_with fail
    generalize (w.alloc (.cells #[.int .i64 0, .int .u64 0, .int .u64 0] 48)).alloc (.cells #[.int .i64 6, .int .u64 0, .int .u64 0] 48) = w1 at *
    go_loopw [4] (fun i wr => ∃ j : Nat, j ≤ 16 ∧ i = .int .i64 j ∧ Am wr w.heap.size 0 0 0 ∧ Am wr (w.heap.size + 1) 6 (ah (zs.take j)) (al (zs.take j)) ∧ Below w.heap.size w wr) (fun i _ => 16 - (intOf i).toNat)
    case atStart => exact ⟨0, by omega, rfl, m0, m1, B0⟩
    case round =>
      clear m0 m1 B0
      obtain ⟨j, hj, rfl, m0, m1, B0⟩ := hrel
      by_cases hlt : j < 16
      · have hI : (j : Int) < 16 := by omega
        have cb := (B0.cell HLB.out).trans (HC.out j hlt)
        have HCB := hid (HC.out j hlt)
        have HV := hid (val_take7 zs j (by rw [HL.out]; exact hlt))
        have hV := val_bound (zs.take j) (fun z hz => HB.out z (List.mem_of_mem_take hz))
        have hlen : (zs.take j).length = j := by rw [List.length_take, HL.out]; omega
        rw [hlen] at hV
        have hp := pow256_15 j (by omega)
        have hy := getD_byte7 HB.out j
        have HU : Hid (ah (zs.take (j + 1)) = ah (zs.take j) * 256 + al (zs.take j) / 72057594037927936 ∧ al (zs.take (j + 1)) = al (zs.take j) % 72057594037927936 * 256 + zs.getD j 0) := by
          show _ ∧ _
          unfold ah al
          rw [HV.out]
          generalize val (zs.take j) = V at *
          generalize zs.getD j 0 = y at *
          omega
        have hh : 0 ≤ ah (zs.take j) ∧ ah (zs.take j) < 72057594037927936 := by
          unfold ah
          generalize val (zs.take j) = V at *
          omega
        have hl : 0 ≤ al (zs.take j) ∧ al (zs.take j) ≤ 18446744073709551615 := by
          unfold al
          generalize val (zs.take j) = V at *
          omega
        clear hV hp hlen HV
        obtain ⟨X, HX⟩ : ∃ X, Hid (ah (zs.take j) = X) := ⟨_, rfl⟩
        obtain ⟨Y, HY⟩ : ∃ Y, Hid (al (zs.take j) = Y) := ⟨_, rfl⟩
        rw [HX.out] at hh
        rw [HY.out] at hl
        rw [HX.out, HY.out] at m1 HU
        generalize zs.getD j 0 = y at *
        obtain ⟨Z, HZ⟩ : ∃ Z, Hid (Y / 72057594037927936 = Z) := ⟨_, rfl⟩
        have hZ : 0 ≤ Z ∧ Z ≤ 255 := by have := HZ.out; omega
        have ho1 := or8 X Z hh.1 hh.2 hZ.1 hZ.2
        obtain ⟨Q, HQ⟩ : ∃ Q, Hid (Y % 72057594037927936 = Q) := ⟨_, rfl⟩
        have hQ : 0 ≤ Q ∧ Q < 72057594037927936 := by have := HQ.out; omega
        have ho2 := or8 Q y hQ.1 hQ.2 hy.1 hy.2
        have hw1 : Y * 256 % 18446744073709551616 = Q * 256 := by have := HQ.out; omega
        have HW : Hid (bits BinOp.or .u64 (IntKind.u64.wrap (Y * 256)) y = Q * 256 + y) := by show _ = _; rw [IntKind.wrap_u64, hw1, ho2]
        clear hw1 ho2
        have e56 : (2 : Int) ^ 56 = 72057594037927936 := by decide
        have hz1 : Y / 2 ^ 56 = Z := by rw [e56]; exact HZ.out
        clear e56
        have hz2 := HZ.out
        rw [HZ.out, HQ.out] at HU
        have c1 := m1.c1
        have c2 := m1.c2
        have f1 := m1.fz 1
        have f2 := m1.fz 2
        go_wp2_with fail
        clear c1 c2 f1 f2 cb ho1
        replace m0 := m0.at (setCell_other7 wr (w.heap.size + 1) 1 w.heap.size (.int .u64 (X * 256 + Z)) (by omega))
        replace m1 := m1.s1 (X * 256 + Z)
        replace B0 := B0.setCell (p := ⟨w.heap.size + 1, 1, none⟩) (Nat.le_succ _) (.int .u64 (X * 256 + Z))
        generalize wr.setCell ⟨w.heap.size + 1, 1, none⟩ (.int .u64 (X * 256 + Z)) = w2 at *
        have c2 := m1.c2
        have f2 := m1.fz 2
        have cb := (B0.cell HLB.out).trans HCB.out
        have m2 : Am w2.drew w.heap.size 0 0 0 := m0
        have m3 : Am w2.drew (w.heap.size + 1) 6 (X * 256 + Z) Y := m1
        replace m2 := m2.at (setCell_other7 w2.drew (w.heap.size + 1) 2 w.heap.size (.int .u64 (Q * 256 + y)) (by omega))
        replace m3 := m3.s2 (Q * 256 + y)
        have B3 := (bel_drew1 B0).setCell (p := ⟨w.heap.size + 1, 2, none⟩) (Nat.le_succ _) (.int .u64 (Q * 256 + y))
        clear m0 m1 B0
        go_wp2_with fail
        go_region
        go_wp2_with fail
        go_roundw
        case rel => exact ⟨j + 1, by omega, by go_num, by rw [HW.out]; exact m2, by rw [HW.out, HU.out.1, HU.out.2]; exact m3, by rw [HW.out]; exact B3⟩
        case measure => simp [intOf]; omega
      · have hI : ¬ (j : Int) < 16 := by omega
        obtain rfl : j = 16 := by omega
        rw [List.take_of_length_le (by rw [HL.out]; exact Nat.le_refl _)] at m1
        have c0 := m1.c0
        have c1 := m1.c1
        have c2 := m1.c2
        go_wp2_with (refine wpList_sa rfl rfl _ _ rfl w.heap.size 6 (ah zs) (al zs) rfl rfl 0 0 0 (by with_reducible exact m0) ?_)
        refine bodyPost_ret (results_a rfl _ _ w.heap.size 6 (ah zs) (al zs) rfl (m0.row _ _ _)) rfl ⟨rfl, bel_row B0 (Nat.le_refl _) _⟩
end Go.Proofs.YtmgoabedickooaaGreatDoor
