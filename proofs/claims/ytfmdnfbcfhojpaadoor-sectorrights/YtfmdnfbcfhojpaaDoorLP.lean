import Derived.Test.YtfmdnfbcfhojpaaDoorLG
namespace Go.Proofs.YtfmdnfbcfhojpaaDoor
set_option maxRecDepth 100000
open Go.RowKit
set_option linter.unusedVariables false

/-- The first k bytes turned. -/
def tx (l : List Int) (k : Nat) : List Int := (l.take k).map (fun z => bits .xor .u8 z 90) ++ l.drop k
theorem tx_zero (l : List Int) : tx l 0 = l := by simp [tx]
theorem tx_length (l : List Int) (k : Nat) (h : k ≤ l.length) : (tx l k).length = l.length := by simp [tx]; omega
theorem tx_get (l : List Int) (k : Nat) (h : k < l.length) : (tx l k).getD k 0 = l.getD k 0 := by
  simp only [tx, List.getD]
  rw [List.getElem?_append_right (by simp; omega)]
  simp [Nat.min_eq_left (Nat.le_of_lt h)]
theorem tx_step (l : List Int) (k : Nat) (h : k < l.length) : (tx l k).set k (bits .xor .u8 (l.getD k 0) 90) = tx l (k + 1) := by
  unfold tx
  rw [List.set_append_right _ _ (by simp; omega)]
  have e : k - ((l.take k).map (fun z => bits .xor .u8 z 90)).length = 0 := by simp; omega
  rw [e, List.drop_eq_getElem_cons h, List.set_cons_zero, List.take_succ_eq_append_getElem h, List.map_append]
  simp [List.getD, h]
theorem tx_by {l : List Int} (h : By l) (k : Nat) : By (tx l k) := by
  refine By.app (fun z hz => ?_) (h.drop k)
  obtain ⟨y, hy, rfl⟩ := List.mem_map.1 hz
  exact xor8 y 90 (h y (List.mem_of_mem_take hy)) (by omega)
theorem rm_take {l : List Int} {n : Nat} (h : l.length = n) : (rm l).take n = l := by subst h; simp [rm]
theorem rm_get (l : List Int) : (rm l).length = l.length + 3 := rm_length l
theorem hd_sl {w : World} {g cap n : Nat} {ys : List Int} (h : Head w g cap ys) (hl : ys.length = n + 3) (hy : By ys) : Bs w (some ⟨g, 0, none⟩) n (ys.take n) := h.bs (by omega) hy
theorem gr_trans {a b c : World} {r : Option Nat} (h : a.grownBy b r) (k : b.grownBy c r) : a.grownBy c r :=
  ⟨k.os.trans h.os, k.tape.trans h.tape, k.output.trans h.output, Nat.le_trans h.size k.size, fun i hi hr => (k.block i (Nat.lt_of_lt_of_le hi h.size) hr).trans (h.block i hi hr)⟩
theorem wr_ {w : World} {g : Nat} {T : ByteArray} {e q p : Int} {v : Value} (h : Sm w g T e q p v) (v' : Value) : Sm (w.setCell ⟨g, 4, none⟩ v') g T e q p v' := by
  unfold Sm at *
  simp [World.setCell, Array.getElem?_modify, h]
theorem grow_cell4 (w : World) (g i : Nat) (v : Value) : w.grownBy (w.setCell ⟨g, i, none⟩ v) (some g) := ⟨rfl, rfl, rfl, by simp [World.setCell], fun k _ hk => Below.heap_setCell _ _ _ _ (fun e => hk (by rw [e]))⟩
set_option maxHeartbeats 16000000 in
theorem sectorPuts_ (s : Sec) (a : Option Addr) (n c : Nat) (w : World) (hT : Tab w) (hb : Bs w a n s.l) (hc : n ≤ c) (hm : c ≤ maxLen) :
    Calls Tryd.prog 3 #[.agg #[.string s.T, .int .i64 s.e, .int .i64 s.q, .int .i64 s.p, .slice a n c]] w fun en w' => en = .returned (.bool true) ∧ Below w.heap.size w w' := by
  have m0 := Sm.new w s.T s.e s.q s.p (.slice a n c)
  have B0 := snew w s.T s.e s.q s.p (.slice a n c)
  have T0 := hT.bel B0
  have HB := hid hb
  have HT0 := hid hT
  by_cases hn : n ≤ 2000
  · have hI : (n : Int) ≤ 2000 := by omega
    have hln := hb.1
    clear hb hT
    go_enter Tryd.func3, Tryd.ntmps3
    go_wp2_with fail
    refine (first_ _ T0).mono ?_
    rintro x1 w1 ⟨rfl, g1⟩
    replace m0 := m0.kept g1
    replace B0 := bel_bel B0 B0.size g1
    replace T0 := T0.bel g1
    have hlt0 := m0.lt
    have d0 := m0.c0
    have d1 := m0.c1
    have d2 := m0.c2
    have d3 := m0.c3
    have d4 := m0.c4
    clear g1
    go_wp2_with fail
    refine (room_ a n c s.l w1 (HB.out.below B0) (by omega)).mono ?_
    rintro x2 w2 ⟨g, cap, rfl, hcap, hcm, hgb, hh2, g2⟩
    replace m0 := m0.kept g2
    have B2 := bel_bel B0 B0.size g2
    have T2 := T0.bel g2
    have hglt := hh2.lt
    have hcm' := hcm
    unfold maxLen at hcm'
    have i1 : (n : Int) ≤ (n : Int) + 3 := by omega
    have i2 : (n : Int) + 3 ≤ (cap : Int) := by omega
    have i3 : (0 : Int) ≤ (n : Int) := by omega
    clear d0 d1 d2 d3 d4 B0 T0 g2
    have e0 := m0.c0
    have e1 := m0.c1
    have e2 := m0.c2
    have e3 := m0.c3
    have e4 := m0.c4
    have M0 := hid m0
    have m2 := Sm.new w2 s.T s.e s.q s.p (.slice a n c)
    have A2 : Below w2.heap.size w2 (w2.alloc (.cells #[.string s.T, .int .i64 s.e, .int .i64 s.q, .int .i64 s.p, .slice a n c] 24)) := (Below.refl _ _).alloc (Nat.le_refl _) _
    have M2 := hid m2
    have f4 := m2.c4
    have h4 := m2.fz 4
    have H2 := hid hh2
    have BB := hid B2
    have TT := hid T2
    have AA := hid A2
    clear m0 m2 hh2 B2 T2 A2
    go_wp2_with fail
    have A3 : Below w2.heap.size w2 (w2.alloc (.cells #[.string s.T, .int .i64 s.e, .int .i64 s.q, .int .i64 s.p, .slice (some ⟨g, 0, none⟩) n (n + 3)] 24)) := (Below.refl _ _).alloc (Nat.le_refl _) _
    have mt := Sm.new w2 s.T s.e s.q s.p (.slice (some ⟨g, 0, none⟩) n (n + 3))
    have m0 := M0.out.kept A3
    have B3 := bel_bel BB.out BB.out.size A3
    have T3 := TT.out.bel A3
    have H3 := H2.out.below A3
    have hsz := A3.size
    clear e0 e1 e2 e3 e4 M0 M2 f4 h4 H2 BB TT AA A3
    generalize w2.alloc _ = w3 at *
    have hrl : (rm s.l).length = n + 3 := by rw [rm_length, hln]
    have HRL := hid hrl
    have HRY := hid (rm_by HB.out.2.1)
    have Y3 := HB.out.below B3
    have q3 : Bs w3 (some ⟨g, 0, none⟩) n s.l := by have := hd_sl H3 hrl HRY.out; rwa [rm_take hln] at this
    refine (put_u s (some ⟨g, 0, none⟩) n (n + 3) w3 T3 q3).mono ?_
    rintro x4 w4 ⟨a1, n1, c1, rfl, N4, g4⟩
    have g4s := g4.size
    have MT := hid (mt.kept g4)
    have m4 := m0.kept g4
    have BB := hid (bel_bel B3 B3.size g4)
    have TT := hid (T3.bel g4)
    have HH := hid (H3.below g4)
    have Y4 := hid (Y3.below g4)
    have NA := hid N4
    have d0 := m4.c0
    have d1 := m4.c1
    have d2 := m4.c2
    have d3 := m4.c3
    have d4 := m4.c4
    have M4 := hid m4
    have HLN := hid hln
    clear mt m0 B3 T3 H3 Y3 q3 N4 g4 m4 hrl hln
    go_wp2_with fail
    refine (refPut_u s a n c w4 Y4.out).mono ?_
    rintro x5 w5 ⟨a2, n2, c2, rfl, N5, g5⟩
    have g5s := g5.size
    replace MT := hid (MT.out.kept g5)
    have m5 := M4.out.kept g5
    replace BB := hid (bel_bel BB.out BB.out.size g5)
    replace TT := hid (TT.out.bel g5)
    replace HH := hid (HH.out.below g5)
    replace Y4 := hid (Y4.out.below g5)
    replace NA := hid (NA.out.bel g5)
    have NB := hid N5
    have M5 := hid m5
    clear d0 d1 d2 d3 d4 M4 N5 g5 m5
    have l1 : n1 ≤ 512 := by have := NA.out.bs.1; have := PB_le s; omega
    have l2 : n2 ≤ 512 := by have := NB.out.bs.1; have := PB_le s; omega
    go_wp2_with fail
    refine (same_yes a1 a2 n1 c1 n2 c2 (PB s) w5 NA.out.bs NB.out.bs (by omega) (by omega)).mono ?_
    rintro x6 w6 ⟨rfl, D6⟩
    have g6 := D6.below
    have g6s := g6.size
    replace MT := hid (MT.out.kept g6)
    have m6 := M5.out.kept g6
    replace BB := hid (bel_bel BB.out BB.out.size g6)
    replace TT := hid (TT.out.bel g6)
    replace HH := hid (HH.out.below g6)
    replace Y4 := hid (Y4.out.below g6)
    replace NA := hid (NA.out.bel g6)
    replace NB := hid (NB.out.bel g6)
    have d4 := m6.c4
    have M6 := hid m6
    clear M5 g6 D6 m6
    go_wp2_with fail
    refine (room_ a n c s.l w6 Y4.out (by omega)).mono ?_
    rintro x7 w7 ⟨g', cap', rfl, _, _, _, H7, g7⟩
    have g7s := g7.size
    replace MT := hid (MT.out.kept g7)
    have M7 := hid (M6.out.kept g7)
    replace BB := hid (bel_bel BB.out BB.out.size g7)
    replace TT := hid (TT.out.bel g7)
    replace HH := hid (HH.out.below g7)
    replace NA := hid (NA.out.bel g7)
    replace NB := hid (NB.out.bel g7)
    have Q7 := hid H7
    clear d4 M6 g7 H7 Y4
    go_wp2_with fail
    refine (same_yes (some ⟨g, 0, none⟩) (some ⟨g', 0, none⟩) (n + 3) cap (n + 3) cap' (rm s.l) w7 (HH.out.all HRL.out HRY.out) (Q7.out.all HRL.out HRY.out) (by omega) (by omega)).mono ?_
    rintro x8 w8 ⟨rfl, D8⟩
    have g8 := D8.below
    have g8s := g8.size
    replace MT := hid (MT.out.kept g8)
    have M8 := hid (M7.out.kept g8)
    replace BB := hid (bel_bel BB.out BB.out.size g8)
    replace TT := hid (TT.out.bel g8)
    replace HH := hid (HH.out.below g8)
    replace NA := hid (NA.out.bel g8)
    replace NB := hid (NB.out.bel g8)
    clear M7 g8 D8 Q7
    have xE : (PE s == PE s) = true := beq_self_eq_true _
    go_wp2_with (go_at_call 14; refine (num_ _ _).mono ?_; rintro xn wn ⟨rfl, hw⟩; obtain rfl := hw.symm)
    go_loopw [13] (fun i wr => ∃ j : Nat, j ≤ n ∧ i = .int .i64 j ∧ Head wr g cap (tx (rm s.l) j) ∧ w8.grownBy wr (some g)) (fun i _ => n - (intOf i).toNat)
    case atStart => exact ⟨0, by omega, rfl, by rw [tx_zero]; exact HH.out, grow_refl _ _⟩
    case round =>
      obtain ⟨j, hj, rfl, rr, gg⟩ := hrel
      by_cases hlt : j < n
      · have hjl : j < (rm s.l).length := by have := HRL.out; omega
        have hc3 := rr.cell j (by rw [tx_length _ _ (by omega)]; exact hjl)
        rw [tx_get _ _ hjl] at hc3
        have hf3 := rr.unfrozen j
        have HR := hid (rr.set j (bits .xor .u8 ((rm s.l).getD j 0) 90))
        rw [tx_step _ _ hjl] at HR
        generalize (rm s.l).getD j 0 = z at *
        have GG := hid (gr_trans gg (grow_cell4 wr g j (.int .u8 (bits .xor .u8 z 90))))
        have i4 : (j : Int) < (n : Int) := by omega
        have i5 : (j : Int) < (n : Int) + 3 := by omega
        have i6 : (0 : Int) ≤ (j : Int) := by omega
        clear rr gg hjl
        go_wp2_with fail
        go_roundw
        case rel => exact ⟨j + 1, by omega, by go_num, HR.out, GG.out⟩
        case measure => simp [intOf]; omega
      · obtain rfl : j = n := by omega
        have hgw : w.heap.size < g := by omega
        have ggs := gg.size
        have T9 := tab_grown TT.out gg (by omega)
        have MT9 := sm_grown MT.out gg (by simp; omega)
        have M9 := hid (sm_grown M8.out gg (by simp; omega))
        have NA9 := hid (NA.out.off gg (by omega))
        have NB9 := hid (NB.out.off gg (by omega))
        have B9 := hid (bel_some BB.out BB.out.size gg (Nat.le_of_lt hgw))
        have hyl : (tx (rm s.l) j).length = j + 3 := by rw [tx_length _ _ (by have := HRL.out; omega)]; exact HRL.out
        have hyy : By (tx (rm s.l) j) := tx_by HRY.out j
        have q9 := hd_sl rr hyl hyy
        have HYB : Hid (By ((tx (rm s.l) j).take j)) := fun z hz => hyy z (List.mem_of_mem_take hz)
        generalize (tx (rm s.l) j).take j = ys at *
        have Q9 := hid q9
        have T9H := hid T9
        have MT9H := hid MT9
        have d0 := MT9.c0
        have d1 := MT9.c1
        have d2 := MT9.c2
        have d3 := MT9.c3
        have d4 := MT9.c4
        clear TT MT M8 NA NB BB rr gg hyl hyy q9 T9 MT9 HH HRL HRY HLN
        go_wp2_with fail
        refine (put_u ⟨s.T, s.e, s.q, s.p, ys⟩ (some ⟨g, 0, none⟩) j (j + 3) wr T9H.out Q9.out).mono ?_
        rintro x10 w10 ⟨a3, n3, c3, rfl, N10, g10⟩
        have g10s := g10.size
        replace M9 := hid (M9.out.kept g10)
        replace NA9 := hid (NA9.out.bel g10)
        replace NB9 := hid (NB9.out.bel g10)
        replace B9 := hid (bel_bel B9.out B9.out.size g10)
        replace Q9 := hid (Q9.out.below g10)
        have NC := hid N10
        clear d0 d1 d2 d3 d4 MT9H T9H N10 g10
        go_wp2_with fail
        refine (refBytes (some ⟨g, 0, none⟩) j cap ys w10 Q9.out (by omega)).mono ?_
        rintro x11 w11 ⟨v11, rfl, o11, g11⟩
        obtain ⟨a4, c4, rfl, N11⟩ := Nw.own o11 HYB.out
        have g11s := g11.size
        replace M9 := hid (M9.out.kept g11)
        replace NA9 := hid (NA9.out.bel g11)
        replace NB9 := hid (NB9.out.bel g11)
        replace B9 := hid (bel_bel B9.out B9.out.size g11)
        replace NC := hid (NC.out.bel g11)
        have hf := M9.out.fz 4
        have hc4 := M9.out.c4
        have m12 := wr_ M9.out (.slice a4 j c4)
        have G12 := grow_cell4 w11 w.heap.size 4 (.slice a4 j c4)
        have B12 := hid (bel_some B9.out B9.out.size G12 (Nat.le_refl _))
        have NA12 := hid (NA9.out.off G12 (by omega))
        have NB12 := hid (NB9.out.off G12 (by omega))
        have NC12 := hid (NC.out.off G12 (by omega))
        have ND12 := hid (N11.off G12 (by omega))
        have d0 := m12.c0
        have d1 := m12.c1
        have d2 := m12.c2
        have d3 := m12.c3
        have d4 := m12.c4
        clear N11 o11 g11 M9 NA9 NB9 B9 NC m12 G12 Q9
        go_wp2_with fail
        refine (refPut_u ⟨s.T, s.e, s.q, s.p, ys⟩ a4 j c4 _ ND12.out.bs).mono ?_
        rintro x13 w13 ⟨a5, n5, c5, rfl, N13, g13⟩
        have B13 := hid (bel_bel B12.out B12.out.size g13)
        have NA13 := hid (NA12.out.bel g13)
        have NB13 := hid (NB12.out.bel g13)
        have NC13 := hid (NC12.out.bel g13)
        have ND13 := hid N13
        clear d0 d1 d2 d3 d4 B12 NA12 NB12 NC12 ND12 N13 g13 hf hc4
        have l3 : n3 ≤ 512 := by have := NC13.out.bs.1; have := PB_le ⟨s.T, s.e, s.q, s.p, ys⟩; omega
        have l5 : n5 ≤ 512 := by have := ND13.out.bs.1; have := PB_le ⟨s.T, s.e, s.q, s.p, ys⟩; omega
        go_wp2_with fail
        refine (same_yes a3 a5 n3 c3 n5 c5 (PB ⟨s.T, s.e, s.q, s.p, ys⟩) w13 NC13.out.bs ND13.out.bs (by omega) (by omega)).mono ?_
        rintro x14 w14 ⟨rfl, D14⟩
        have g14 := D14.below
        have B14 := hid (bel_bel B13.out B13.out.size g14)
        have NA14 := hid (NA13.out.bel g14)
        have NB14 := hid (NB13.out.bel g14)
        clear B13 NA13 NB13 NC13 ND13 g14 D14
        go_wp2_with fail
        refine (same_yes a1 a2 n1 c1 n2 c2 (PB s) w14 NA14.out.bs NB14.out.bs (by omega) (by omega)).mono ?_
        rintro x15 w15 ⟨rfl, D15⟩
        have B15 := bel_bel B14.out B14.out.size D15.below
        clear B14 NA14 NB14 D15
        have xE2 : (PE ⟨s.T, s.e, s.q, s.p, ys⟩ == PE ⟨s.T, s.e, s.q, s.p, ys⟩) = true := beq_self_eq_true _
        go_wp2_with (go_at_call 14; refine (num_ _ _).mono ?_; rintro xn wn ⟨rfl, hw⟩; obtain rfl := hw.symm)
        go_ret
        exact ⟨rfl, B15⟩
  · have hI : ¬ (n : Int) ≤ 2000 := by omega
    have hI2 : (2000 : Int) < (n : Int) := by omega
    clear hb
    have hlt0 := m0.lt
    go_enter Tryd.func3, Tryd.ntmps3
    go_wp2_with fail
    refine (first_ _ T0).mono ?_
    rintro x1 w1 ⟨rfl, g1⟩
    have d4 := (m0.kept g1).c4
    have B1 := bel_bel B0 B0.size g1
    clear m0 B0 g1 T0
    go_wp2
    go_ret
    exact ⟨rfl, B1⟩
end Go.Proofs.YtfmdnfbcfhojpaaDoor
