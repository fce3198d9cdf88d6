import Derived.Test.YtjaecokhocbdlaaReadsDefs
import Derived.Test.YtjaecokhocbdlaaLawBroken
namespace Go.Proofs.Ytjaecokhocbdlaa
open Go.RowKit
set_option linter.unusedVariables false

set_option maxRecDepth 100000 in
set_option maxHeartbeats 4000000 in
theorem bitsReads_ (a : Option Addr) (n c : Nat) (zs : List Int) (b : Option Addr) (m cb : Nat) (ys : List Int) (a2 : Option Addr) (n2 c2 : Nat) (K N : Nat → Int) (S : Nat → Bool) (w : World) (hb : Bs w a n zs) (hb2 : Bs w b m ys) (hnm : n ≤ maxLen) (hmm : m ≤ maxLen)
    (hn2 : n2 ≤ maxLen) (hs : IsOps w a2 n2 K N S) :
    Calls Try.prog 4 #[.slice a n c, .slice b m cb, .slice a2 n2 c2] w fun en w' => en = .returned (.bool true) ∧ Below w.heap.size w w' := by
  unfold maxLen at hnm hn2 hmm
  by_cases hn : n ≤ 65536
  · by_cases hm : m ≤ 65536
    · go_enter Try.func4, Try.ntmps4
      go_wp2_with fail
      refine (first_ w).mono ?_
      rintro en w1 ⟨rfl, B1⟩
      have S1 := B1.size
      go_wp2_with fail
      refine (room_ a n c zs w1 (hb.below B1) (by omega)).mono ?_
      rintro en w2 ⟨v, rfl, ho, hg⟩
      obtain ⟨gx, cx, rfl, hcx, hcxm, hgx, X2, lx⟩ := own_head ho (by omega)
      have B2 := bel_bel B1 S1 hg
      have S2 := B2.size
      have HX : Hid (∀ z ∈ zs ++ [161, 162, 163], (0 : Int) ≤ z ∧ z ≤ 255) := by
        intro z hz; rcases List.mem_append.1 hz with h | h; exact hb.2.1 z h; simp at h; omega
      have HLx := hid lx
      have tx : (zs ++ [161, 162, 163]).take n = zs := by rw [← hb.1]; simp
      have gxw : w.heap.size ≤ gx := by omega
      clear ho hg lx hgx B1 S1
      go_wp2_with fail
      refine (room_ b m cb ys w2 (hb2.below B2) (by omega)).mono ?_
      rintro en w3 ⟨v, rfl, ho, hg⟩
      obtain ⟨gy, cy, rfl, hcy, hcym, hgy, Y3, ly⟩ := own_head ho (by omega)
      have B3 := bel_bel B2 S2 hg
      have S3 := B3.size
      have X3 := X2.below hg
      have HY : Hid (∀ z ∈ ys ++ [161, 162, 163], (0 : Int) ≤ z ∧ z ≤ 255) := by
        intro z hz; rcases List.mem_append.1 hz with h | h; exact hb2.2.1 z h; simp at h; omega
      have HLy := hid ly
      have ty : (ys ++ [161, 162, 163]).take m = ys := by rw [← hb2.1]; simp
      have gyw : w.heap.size ≤ gy := by omega
      have xy : gx ≠ gy := by have := X2.lt; omega
      have bx3 := X3.bs (m := n) (by have := HLx.out; omega) HX.out
      rw [tx] at bx3
      have HTx := hid tx
      have HTy := hid ty
      have X3l := X3.lt
      have Y3l := Y3.lt
      unfold maxLen at hcxm hcym
      clear ho hg ly hgy B2 S2 X2 tx ty
      have i1 : (n : Int) ≤ (n : Int) + 3 := by omega
      have i2 : (n : Int) + 3 ≤ (cx : Int) := by omega
      have i3 : (0 : Int) ≤ (n : Int) := by omega
      have j1 : (m : Int) ≤ (m : Int) + 3 := by omega
      have j2 : (m : Int) + 3 ≤ (cy : Int) := by omega
      have j3 : (0 : Int) ≤ (m : Int) := by omega
      go_wp2_with fail
      refine (newReader (some ⟨gx, 0, none⟩) n (n + 3) zs w3 bx3 (fun h => by cases h) (by omega) (by omega)).mono ?_
      rintro en w4 ⟨r1, g1, rfl, R14, hr1, hg1, l1, hg⟩
      have l1' := l1 (by simp)
      have B4 := bel_grow B3 S3 hg
      have S4 := B4.size
      have X4 := X3.fr (p := fun _ => False) (.ofBelow (below_of_grown hg)) (fun h => h)
      have Y4 := Y3.fr (p := fun _ => False) (.ofBelow (below_of_grown hg)) (fun h => h)
      have by4 := Y4.bs (m := m) (by have := HLy.out; omega) HY.out
      rw [HTy.out] at by4
      have r1l := R14.lt
      have r1g := R14.1
      have sz4 : w3.heap.size ≤ w4.heap.size := hg.size
      clear hg bx3 X3 Y3 B3 l1
      go_wp2_with fail
      refine (newReader (some ⟨gy, 0, none⟩) m (m + 3) ys w4 by4 (fun h => by cases h) (by omega) (by omega)).mono ?_
      rintro en w5 ⟨r2, g2, rfl, R25, hr2, hg2, l2, hg⟩
      have l2' := l2 (by simp)
      have B5 := bel_grow B4 S4 hg
      have S5 := B5.size
      have f5 : Fr (fun _ => False) w4 w5 := .ofBelow (below_of_grown hg)
      have X5 := X4.fr f5 (fun h => h)
      have Y5 := Y4.fr f5 (fun h => h)
      have R15 := R14.fr f5 (fun h => h) (fun h => h)
      have r2l := R25.lt
      have r2g := R25.1
      have sz5 : w4.heap.size ≤ w5.heap.size := hg.size
      clear hg by4 X4 Y4 B4 l2 f5 R14 S3 S4
      go_wp2_with fail
      refine (room_ a n c zs w5 (hb.below B5) (by omega)).mono ?_
      rintro en w6 ⟨v, rfl, ho, hg⟩
      obtain ⟨g6, c6, rfl, _, _, _, q6, _⟩ := own_head ho (by omega)
      have f6 : Fr (fun _ => False) w5 w6 := .ofBelow hg
      have sz6 : w5.heap.size ≤ w6.heap.size := hg.size
      have B6 := bel_bel B5 S5 hg
      have S6 := B6.size
      have X6 := X5.fr f6 (fun h => h)
      have Y6 := Y5.fr f6 (fun h => h)
      have R16 := R15.fr f6 (fun h => h) (fun h => h)
      have R26 := R25.fr f6 (fun h => h) (fun h => h)
      have e1 := X6.all HLx.out HX.out
      have e2 := q6.all HLx.out HX.out
      clear ho hg f6 B5 X5 Y5 R15 R25 q6 S5
      go_wp2_with fail
      refine (same_yes (some ⟨gx, 0, none⟩) (some ⟨g6, 0, none⟩) (n + 3) cx (n + 3) c6 _ w6 e1 e2 (by omega) (by omega)).mono ?_
      rintro en w7 ⟨rfl, hd⟩
      have f7 : Fr (fun _ => False) w6 w7 := .ofDrawn hd
      have sz7 : w6.heap.size ≤ w7.heap.size := f7.size
      have B7 := bel_bel B6 S6 hd.below
      have S7 := B7.size
      have X7 := X6.fr f7 (fun h => h)
      have Y7 := Y6.fr f7 (fun h => h)
      have R17 := R16.fr f7 (fun h => h) (fun h => h)
      have R27 := R26.fr f7 (fun h => h) (fun h => h)
      clear hd f7 B6 X6 Y6 R16 R26 e1 e2 S6
      go_wp2_with fail
      refine (room_ b m cb ys w7 (hb2.below B7) (by omega)).mono ?_
      rintro en w8 ⟨v, rfl, ho, hg⟩
      obtain ⟨g8, c8, rfl, _, _, _, q8, _⟩ := own_head ho (by omega)
      have f8 : Fr (fun _ => False) w7 w8 := .ofBelow hg
      have sz8 : w7.heap.size ≤ w8.heap.size := hg.size
      have B8 := bel_bel B7 S7 hg
      have S8 := B8.size
      have X8 := X7.fr f8 (fun h => h)
      have Y8 := Y7.fr f8 (fun h => h)
      have R18 := R17.fr f8 (fun h => h) (fun h => h)
      have R28 := R27.fr f8 (fun h => h) (fun h => h)
      have e1 := Y8.all HLy.out HY.out
      have e2 := q8.all HLy.out HY.out
      clear ho hg f8 B7 X7 Y7 R17 R27 q8 S7
      go_wp2_with fail
      refine (same_yes (some ⟨gy, 0, none⟩) (some ⟨g8, 0, none⟩) (m + 3) cy (m + 3) c8 _ w8 e1 e2 (by omega) (by omega)).mono ?_
      rintro en w9 ⟨rfl, hd⟩
      have f9 : Fr (fun _ => False) w8 w9 := .ofDrawn hd
      have sz9 : w8.heap.size ≤ w9.heap.size := f9.size
      have B9 := bel_bel B8 S8 hd.below
      have X9 := X8.fr f9 (fun h => h)
      have Y9 := Y8.fr f9 (fun h => h)
      have R19 := R18.fr f9 (fun h => h) (fun h => h)
      have R29 := R28.fr f9 (fun h => h) (fun h => h)
      clear hd f9 B8 X8 Y8 R18 R28 e1 e2 S8
      have nx1 : r1 ≠ gx := by omega
      have nx2 : g1 ≠ gx := by omega
      have nx3 : r2 ≠ gx := by omega
      have nx4 : g2 ≠ gx := by omega
      have ny1 : r1 ≠ gy := by omega
      have ny2 : g1 ≠ gy := by omega
      have ny3 : r2 ≠ gy := by omega
      have ny4 : g2 ≠ gy := by omega
      have z1 : r1 ≠ r2 := by omega
      have z2 : g1 ≠ r2 := by omega
      have z3 : r1 ≠ g2 := by omega
      have z4 : g1 ≠ g2 := by omega
      have wr1 : w.heap.size ≤ r1 := by omega
      have wg1 : w.heap.size ≤ g1 := by omega
      have wr2 : w.heap.size ≤ r2 := by omega
      have wg2 : w.heap.size ≤ g2 := by omega
      have HG : Hid (g1 < w9.heap.size ∧ g2 < w9.heap.size) := ⟨by omega, by omega⟩
      clear hr1 hg1 hr2 hg2 l1' l2' r1l r2l sz4 sz5 sz6 sz7 sz8 sz9 X3l Y3l
      go_wp2_with fail
      go_loopw [14] (fun i wr => ∃ k : Nat, ∃ us : List Int, k ≤ n + 3 ∧ i = .int .i64 k ∧ Hid (us.length = n + 3) ∧ Head wr gx cx us ∧ Head wr gy cy (ys ++ [161, 162, 163]) ∧ Rd wr r1 g1 zs 0 ∧ Rd wr r2 g2 ys 0 ∧ Hid (g1 < wr.heap.size ∧ g2 < wr.heap.size) ∧ Below w.heap.size w wr) (fun i _ => n + 3 - (intOf i).toNat)
      case atStart => exact ⟨0, _, by omega, rfl, HLx, X9, Y9, R19, R29, HG, B9⟩
      case round =>
        obtain ⟨k, us, hk, rfl, hul, hX, hY, hR1, hR2, hHG, hbl⟩ := hrel
        clear X9 Y9 R19 R29 B9 HG
        by_cases hlt : k < n + 3
        · have hc := hX.cell k (by have := hul.out; omega)
          have hf := hX.unfrozen k
          have f0 : Fr (fun x => x = gx) wr (wr.setCell ⟨gx, k, none⟩ (.int .u8 238)) := .ofOnly ((Only.refl gx wr).set _ _) rfl
          have H1 := hid (hX.set k 238)
          have H2 := hid (hY.fr f0 (fun e => xy e.symm))
          have H3 := hid (hR1.fr f0 nx1 nx2)
          have H4 := hid (hR2.fr f0 nx3 nx4)
          have H5 : Hid (Below w.heap.size w (wr.setCell ⟨gx, k, none⟩ (.int .u8 238))) := hbl.setCell gxw _
          have H6 : Hid ((us.set k 238).length = n + 3) := by have := hul.out; show _ = _; rwa [List.length_set]
          have H7 : Hid (g1 < (wr.setCell ⟨gx, k, none⟩ (.int .u8 238)).heap.size ∧ g2 < (wr.setCell ⟨gx, k, none⟩ (.int .u8 238)).heap.size) := by have := hHG.out; show _ ∧ _; simpa [World.setCell] using this
          have i4 : (k : Int) < (n : Int) + 3 := by omega
          generalize us.getD k 0 = z at hc
          clear hX hY hR1 hR2 hbl f0 hul
          go_wp2_with fail
          go_roundw
          case rel => exact ⟨k + 1, _, by omega, by go_num, H6, H1.out, H2.out, H3.out, H4.out, H7, H5.out⟩
          case measure => simp [intOf]; omega
        · clear hX
          obtain ⟨wa, rfl⟩ : ∃ wa, wa = wr := ⟨_, rfl⟩
          have i4 : ¬ (k : Int) < (n : Int) + 3 := by omega
          go_wp2_with fail
          go_loopw [15] (fun i wr => ∃ k : Nat, ∃ us : List Int, k ≤ m + 3 ∧ i = .int .i64 k ∧ Hid (us.length = m + 3) ∧ Head wr gy cy us ∧ Rd wr r1 g1 zs 0 ∧ Rd wr r2 g2 ys 0 ∧ Hid (g1 < wr.heap.size ∧ g2 < wr.heap.size) ∧ Below w.heap.size w wr) (fun i _ => m + 3 - (intOf i).toNat)
          case atStart => exact ⟨0, _, by omega, rfl, HLy, hY, hR1, hR2, hHG, hbl⟩
          case round =>
            obtain ⟨k, us, hk, rfl, hul, hYy, hQ1, hQ2, hHH, hbb⟩ := hrel
            clear hY hR1 hR2 hbl hHG
            by_cases hlt : k < m + 3
            · have hc := hYy.cell k (by have := hul.out; omega)
              have hf := hYy.unfrozen k
              have f0 : Fr (fun x => x = gy) wr (wr.setCell ⟨gy, k, none⟩ (.int .u8 17)) := .ofOnly ((Only.refl gy wr).set _ _) rfl
              have H1 := hid (hYy.set k 17)
              have H3 := hid (hQ1.fr f0 ny1 ny2)
              have H4 := hid (hQ2.fr f0 ny3 ny4)
              have H5 : Hid (Below w.heap.size w (wr.setCell ⟨gy, k, none⟩ (.int .u8 17))) := hbb.setCell gyw _
              have H6 : Hid ((us.set k 17).length = m + 3) := by have := hul.out; show _ = _; rwa [List.length_set]
              have H7 : Hid (g1 < (wr.setCell ⟨gy, k, none⟩ (.int .u8 17)).heap.size ∧ g2 < (wr.setCell ⟨gy, k, none⟩ (.int .u8 17)).heap.size) := by have := hHH.out; show _ ∧ _; simpa [World.setCell] using this
              have i5 : (k : Int) < (m : Int) + 3 := by omega
              generalize us.getD k 0 = z at hc
              clear hYy hQ1 hQ2 hbb f0 hul
              go_wp2_with fail
              go_roundw
              case rel => exact ⟨k + 1, _, by omega, by go_num, H6, H1.out, H3.out, H4.out, H7, H5.out⟩
              case measure => simp [intOf]; omega
            · have i5 : ¬ (k : Int) < (m : Int) + 3 := by omega
              obtain ⟨wb, rfl⟩ : ∃ wb, wb = wr := ⟨_, rfl⟩
              have Sb := hbb.size
              clear hYy
              go_wp2_with fail
              refine (refNew a n c zs wb (hb.below hbb) (by omega)).mono ?_
              rintro en wc ⟨d1, rfl, dl1, dl2, bc, hd1⟩
              have lr1 := hQ1.lt
              have lr2 := hQ2.lt
              have lg := hHH.out
              have fc : Fr (fun _ => False) wb wc := .ofBelow bc
              have Bc := bel_bel hbb Sb bc
              have Sc := Bc.size
              have szc : wb.heap.size ≤ wc.heap.size := bc.size
              have T1 := hQ1.fr fc (fun h => h) (fun h => h)
              have T2 := hQ2.fr fc (fun h => h) (fun h => h)
              clear hQ1 hQ2 hbb fc bc Sb hul hHH
              go_wp2_with fail
              refine (refNew b m cb ys wc (hb2.below Bc) (by omega)).mono ?_
              rintro en wd ⟨d2, rfl, dl3, dl4, bd, hd2⟩
              have fd : Fr (fun _ => False) wc wd := .ofBelow bd
              have Bd := bel_bel Bc Sc bd
              have U1 := T1.fr fd (fun h => h) (fun h => h)
              have U2 := T2.fr fd (fun h => h) (fun h => h)
              have V1 : Rf wd d1 (Six r1 g1 d1 r2 g2 d2) zs 0 0 := (hd1 (Six r1 g1 d1 r2 g2 d2) (by
                rintro q h1 h2 h3 ((rfl | rfl | rfl) | (rfl | rfl | rfl)) <;> omega)).fr fd (fun _ h => h.elim) (fun h => h)
              have V2 : Rf wd d2 (Six r1 g1 d1 r2 g2 d2) ys 0 0 := hd2 (Six r1 g1 d1 r2 g2 d2) (by
                rintro q h1 h2 h3 ((rfl | rfl | rfl) | (rfl | rfl | rfl)) <;> omega)
              have P1 : Pair wd r1 g1 d1 (Six r1 g1 d1 r2 g2 d2) zs := .inl ⟨0, by omega, by simpa using U1, V1⟩
              have P2 : Pair wd r2 g2 d2 (Six r1 g1 d1 r2 g2 d2) ys := .inl ⟨0, by omega, by simpa using U2, V2⟩
              have hA1 : Apart r1 g1 d1 (Six r1 g1 d1 r2 g2 d2) := ⟨by omega, by omega, r1g, .inl (.inl rfl), .inl (.inr (.inl rfl)), .inl (.inr (.inr rfl))⟩
              have hA2 : Apart r2 g2 d2 (Six r1 g1 d1 r2 g2 d2) := ⟨by omega, by omega, r2g, .inr (.inl rfl), .inr (.inr (.inl rfl)), .inr (.inr (.inr rfl))⟩
              have hS1 : ∀ q, Blk r1 g1 d1 q → Six r1 g1 d1 r2 g2 d2 q := fun q h => .inl h
              have hS2 : ∀ q, Blk r2 g2 d2 q → Six r1 g1 d1 r2 g2 d2 q := fun q h => .inr h
              have hN1 : ¬ Blk r1 g1 d1 r2 ∧ ¬ Blk r1 g1 d1 g2 ∧ ¬ Blk r1 g1 d1 d2 := by
                refine ⟨?_, ?_, ?_⟩ <;> rintro (h | h | h) <;> omega
              have hN2 : ¬ Blk r2 g2 d2 r1 ∧ ¬ Blk r2 g2 d2 g1 ∧ ¬ Blk r2 g2 d2 d1 := by
                refine ⟨?_, ?_, ?_⟩ <;> rintro (h | h | h) <;> omega
              have hM1 : ∀ q, Blk r1 g1 d1 q → w.heap.size ≤ q := by rintro q (rfl | rfl | rfl) <;> omega
              have hM2 : ∀ q, Blk r2 g2 d2 q → w.heap.size ≤ q := by rintro q (rfl | rfl | rfl) <;> omega
              clear U1 U2 V1 V2 hd1 hd2 fd bd T1 T2 Bc Sc szc lg dl1 dl2 dl3 dl4 lr1 lr2
              generalize Six r1 g1 d1 r2 g2 d2 = SX at *
              go_wp2_with fail
              go_loopw [7, 18] (fun ok i wr => ∃ k : Nat, k ≤ n2 ∧ ok = .bool true ∧ i = .int .i64 k ∧ Pair wr r1 g1 d1 SX zs ∧ Pair wr r2 g2 d2 SX ys ∧ Below w.heap.size w wr) (fun _ i _ => n2 - (intOf i).toNat)
              case atStart => exact ⟨0, by omega, rfl, rfl, P1, P2, Bd⟩
              case round =>
                obtain ⟨k, hk, rfl, rfl, hP1, hP2, hbl⟩ := hrel
                clear P1 P2 Bd
                have Sz := hbl.size
                by_cases hlt : k < n2 ∧ k < 300
                · obtain ⟨l1, l2⟩ := hlt
                  rcases hs with hs | ⟨bo, off, rfl, hc⟩
                  · omega
                  obtain ⟨e0, e1, e2⟩ := hc k l1
                  have q0 := (hbl.cell (World.block_lt_of_cell? w _ e0)).trans e0
                  have q1 := (hbl.cell (World.block_lt_of_cell? w _ e1)).trans e1
                  have q2 := (hbl.cell (World.block_lt_of_cell? w _ e2)).trans e2
                  generalize K k = kk at *
                  generalize N k = nn at *
                  generalize S k = ss at *
                  have i6 : (k : Int) < (n2 : Int) := by omega
                  have i7 : (k : Int) < 300 := by omega
                  clear hc e0 e1 e2
                  cases ss
                  · go_wp2_with fail
                    refine (step_ r1 g1 d1 _ hA1 kk nn false zs wr hP1 (by have := hb.1; have := hb2.1; omega)).mono ?_
                    rintro en x1 ⟨rfl, Q1, f1⟩
                    have hU1 := hP2.fr f1 hS1 hN1.1 hN1.2.1 hN1.2.2
                    have C1 := bel_fr hbl Sz f1 hM1
                    have D1 := C1.size
                    clear hP1 hP2 hbl Sz f1 q0 q1 q2
                    go_wp2_with fail
                    refine (step_ r1 g1 d1 _ hA1 8 0 false zs x1 Q1 (by have := hb.1; have := hb2.1; omega)).mono ?_
                    rintro en x2 ⟨rfl, Q2, f2⟩
                    have hU2 := hU1.fr f2 hS1 hN1.1 hN1.2.1 hN1.2.2
                    have C2 := bel_fr C1 D1 f2 hM1
                    have D2 := C2.size
                    clear Q1 hU1 C1 D1 f2
                    go_wp2_with fail
                    refine (step_ r1 g1 d1 _ hA1 7 0 false zs x2 Q2 (by have := hb.1; have := hb2.1; omega)).mono ?_
                    rintro en x3 ⟨rfl, Q3, f3⟩
                    have hU3 := hU2.fr f3 hS1 hN1.1 hN1.2.1 hN1.2.2
                    have C3 := bel_fr C2 D2 f3 hM1
                    clear Q2 hU2 C2 D2 f3
                    go_wp2_with fail
                    go_roundw
                    case rel => exact ⟨k + 1, by omega, rfl, by go_num, Q3, hU3, C3⟩
                    case measure => simp [intOf]; omega
                  · go_wp2_with fail
                    refine (step_ r2 g2 d2 _ hA2 kk nn true ys wr hP2 (by have := hb.1; have := hb2.1; omega)).mono ?_
                    rintro en x1 ⟨rfl, Q1, f1⟩
                    have hU1 := hP1.fr f1 hS2 hN2.1 hN2.2.1 hN2.2.2
                    have C1 := bel_fr hbl Sz f1 hM2
                    have D1 := C1.size
                    clear hP1 hP2 hbl Sz f1 q0 q1 q2
                    go_wp2_with fail
                    refine (step_ r2 g2 d2 _ hA2 8 0 false ys x1 Q1 (by have := hb.1; have := hb2.1; omega)).mono ?_
                    rintro en x2 ⟨rfl, Q2, f2⟩
                    have hU2 := hU1.fr f2 hS2 hN2.1 hN2.2.1 hN2.2.2
                    have C2 := bel_fr C1 D1 f2 hM2
                    have D2 := C2.size
                    clear Q1 hU1 C1 D1 f2
                    go_wp2_with fail
                    refine (step_ r2 g2 d2 _ hA2 7 0 false ys x2 Q2 (by have := hb.1; have := hb2.1; omega)).mono ?_
                    rintro en x3 ⟨rfl, Q3, f3⟩
                    have hU3 := hU2.fr f3 hS2 hN2.1 hN2.2.1 hN2.2.2
                    have C3 := bel_fr C2 D2 f3 hM2
                    clear Q2 hU2 C2 D2 f3
                    go_wp2_with fail
                    go_roundw
                    case rel => exact ⟨k + 1, by omega, rfl, by go_num, hU3, Q3, C3⟩
                    case measure => simp [intOf]; omega
                · have hg : ((k : Int) < (n2 : Int) ∧ ¬ (k : Int) < 300) ∨ ¬ (k : Int) < (n2 : Int) := by omega
                  rcases hg with ⟨i6, i7⟩ | i6
                  all_goals
                    go_wp2_with fail
                    refine (step_ r1 g1 d1 _ hA1 8 0 false zs wr hP1 (by have := hb.1; omega)).mono ?_
                    rintro en x1 ⟨rfl, Q1, f1⟩
                    have hU1 := hP2.fr f1 hS1 hN1.1 hN1.2.1 hN1.2.2
                    have C1 := bel_fr hbl Sz f1 hM1
                    have D1 := C1.size
                    go_wp2_with fail
                    refine (step_ r2 g2 d2 _ hA2 8 0 false ys x1 hU1 (by have := hb2.1; omega)).mono ?_
                    rintro en x2 ⟨rfl, Q2, f2⟩
                    have C2 := bel_fr C1 D1 f2 hM2
                    go_wp2_with fail
                    go_ret
                    exact ⟨rfl, C2⟩
    · go_enter Try.func4, Try.ntmps4
      go_wp2_with fail
      refine (first_ w).mono ?_
      rintro en w1 ⟨rfl, B1⟩
      go_wp2_with fail
      go_ret
      exact ⟨rfl, B1⟩
  · go_enter Try.func4, Try.ntmps4
    go_wp2_with fail
    refine (first_ w).mono ?_
    rintro en w1 ⟨rfl, B1⟩
    go_wp2_with fail
    go_ret
    exact ⟨rfl, B1⟩
end Go.Proofs.Ytjaecokhocbdlaa
