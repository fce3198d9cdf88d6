import Derived.Test.YtfmdnfbcfhojpabDoorLT
namespace Go.Proofs.YtfmdnfbcfhojpabDoor
set_option maxRecDepth 100000
open Go.RowKit
set_option linter.unusedVariables false

/-- The bytes with a burst turned so far. -/
def bw (s : Sec) (m P j : Nat) : List Int := bur (hd s) m P j ++ be 4 (updc 0 (hd s))
theorem bw_zero (s : Sec) : bw s 0 0 0 = ps s := rfl
theorem bw_any (s : Sec) (m P : Nat) : bw s 0 0 0 = bw s m P 0 := rfl
theorem bw_length {s : Sec} (h : May s) (m P j : Nat) : (bw s m P j).length = 512 := by rw [bw, List.length_append, bur_length, hd_length h, be_length]
theorem bw_by {s : Sec} (h : May s) (hy : By s.l) (m P j : Nat) : By (bw s m P j) := By.app (bur_byte (hd_by hy) m P j) (be_byte _ _)
theorem bw_no {s : Sec} (h : May s) {m P j : Nat} (hno : ¬ (P / 2 ^ j % 2 = 1 ∧ m + j < 4064)) : bw s m P (j + 1) = bw s m P j := by
  unfold bw
  rw [bur, if_neg (by rw [show 8 * (hd s).length = 4064 from by rw [hd_length h]]; exact hno)]
theorem bw_yes {s : Sec} (h : May s) {m P j : Nat} (hd2 : P / 2 ^ j % 2 = 1) (hin : m + j < 4064) : bw s m P (j + 1) = (bw s m P j).set ((m + j) / 8) ((((bw s m P j).getD ((m + j) / 8) 0).toNat ^^^ 2 ^ ((m + j) % 8) : Nat) : Int) := by
  have hl : (bur (hd s) m P j).length = 508 := by rw [bur_length, hd_length h]
  have e : (bw s m P j).getD ((m + j) / 8) 0 = (bur (hd s) m P j).getD ((m + j) / 8) 0 := by
    simp only [bw, List.getD]; rw [List.getElem?_append_left (by omega)]
  rw [e]
  unfold bw
  rw [bur, if_pos (by rw [show 8 * (hd s).length = 4064 from by rw [hd_length h]]; exact ⟨hd2, hin⟩), List.set_append_left _ _ (by omega)]
  rfl
theorem bw_gs {s : Sec} (h : May s) (hy : By s.l) {m P : Nat} (hm : m < 4064) : gs (bw s m P 32) = if trn 4064 m P 32 then none else some s := burst h hy hm
theorem flp8 (z : Int) (j : Nat) (hz : 0 ≤ z ∧ z ≤ 255) (hj : j < 8) : bits .xor .u8 z ((2 ^ j : Nat) : Int) = ((z.toNat ^^^ 2 ^ j : Nat) : Int) := by
  have h8 : 2 ^ j < 2 ^ 8 := Nat.pow_lt_pow_right (by omega) hj
  rw [u8_xor z _ hz.1 (by omega) (Int.natCast_nonneg _) (Int.ofNat_lt.2 h8), Int.toNat_natCast]
theorem gr_trans {a b c : World} {r : Option Nat} (h : a.grownBy b r) (k : b.grownBy c r) : a.grownBy c r :=
  ⟨k.os.trans h.os, k.tape.trans h.tape, k.output.trans h.output, Nat.le_trans h.size k.size, fun i hi hr => (k.block i (Nat.lt_of_lt_of_le hi h.size) hr).trans (h.block i hi hr)⟩
theorem bs_off {w : World} {a : Option Addr} {n B : Nat} {l : List Int} (h : Bs w a n l) (hB : w.heap.size ≤ B) : n = 0 ∨ ∀ x, a = some x → x.block < B := by
  rcases h.2.2 with h0 | ⟨b, off, rfl, hc⟩
  · exact .inl h0
  · by_cases h0 : n = 0
    · exact .inl h0
    · refine .inr fun x hx => ?_
      cases hx
      exact Nat.lt_of_lt_of_le (World.block_lt_of_cell? w _ (hc 0 (by omega))) hB
set_option maxHeartbeats 16000000 in
theorem bst_1 (s : Sec) (a : Option Addr) (n c : Nat) (bit pt : Int) (w : World) (hT : Tab w) (hb : Bs w a n s.l) (hat : -9223372036854775808 ≤ bit ∧ bit ≤ 9223372036854775807) (hx : 0 ≤ pt ∧ pt ≤ 4294967295) (hM : May s) :
    Calls Tryd.prog 4 #[.agg #[.string s.T, .int .i64 s.e, .int .i64 s.q, .int .i64 s.p, .slice a n c], .int .i64 bit, .int .u32 pt] w fun en w' => en = .returned (.bool true) ∧ Below w.heap.size w w' := by
  have hMN := (may_n hb.1).1 hM
  have HN : Hid (n ≤ 480) := hMN.2.2.2.2
  have HPM := hid hM
  have HPY : Hid (By s.l) := hb.2.1
  obtain ⟨hat0, hat1⟩ := hat
  obtain ⟨hx0, hx1⟩ := hx
  obtain ⟨P, rfl⟩ : ∃ P : Nat, pt = P := ⟨pt.toNat, by omega⟩
  have hP : P < 4294967296 := by omega
  have m0 := Sm.new w s.T s.e s.q s.p (.slice a n c)
  have B0 := snew w s.T s.e s.q s.p (.slice a n c)
  have T0 := hT.bel B0
  have Y0 := hid (hb.below B0)
  clear hb hT
  go_enter Tryd.func4, Tryd.ntmps4
  go_wp2_with fail
  refine (first_ _ T0).mono ?_
  rintro x1 w1 ⟨rfl, g1⟩
  have m1 := m0.kept g1
  have B1 := bel_bel B0 B0.size g1
  have T1 := hid (T0.bel g1)
  have Y1 := hid (Y0.out.below g1)
  have d0 := m1.c0
  have d1 := m1.c1
  have d2 := m1.c2
  have d3 := m1.c3
  have d4 := m1.c4
  have M1 := hid m1
  have B1H := hid B1
  clear m0 B0 T0 Y0 g1 m1 B1
  go_wp2_with fail
  refine (may_y s.T s.e s.q s.p a n c _ hMN).mono ?_
  rintro x2 w2 ⟨rfl, g2⟩
  have m2 := M1.out.kept g2
  have B2 := hid (bel_bel B1H.out B1H.out.size g2)
  have T2 := hid (T1.out.bel g2)
  have Y2 := hid (Y1.out.below g2)
  have M2 := hid m2
  clear d0 d1 d2 d3 d4 M1 B1H T1 Y1 g2
  have e0 := m2.c0
  have e1 := m2.c1
  have e2 := m2.c2
  have e3 := m2.c3
  have e4 := m2.c4
  clear m2
  go_wp2_with fail
  have BB := B2
  have TT := T2
  have MM := M2
  have YY := Y2
  clear B2 T2 M2 Y2 e0 e1 e2 e3 e4
  have hoff := hid (bs_off YY.out (Nat.le_refl _))
  refine (put_y s.T s.e s.q s.p a n c s.l _ TT.out YY.out hMN).mono ?_
  rintro x4 w4 ⟨gb, rfl, hgb, r4, g4⟩
  have B4 := hid (bel_bel BB.out BB.out.size g4)
  have T4 := hid (TT.out.bel g4)
  have M4 := hid (MM.out.kept g4)
  have Y4 := hid (YY.out.below g4)
  have hlt4 := MM.out.lt
  have hgw : w.heap.size < gb := by omega
  have OF : Hid (Off a n (some gb)) := by
    rcases hoff.out with h | h
    · exact .inl h
    · exact .inr fun x hx => by have := h x hx; simp; omega
  replace r4 : Row w4 gb (ps s) := r4
  rw [← bw_zero s] at r4
  obtain ⟨m, hm, em⟩ := place bit 4064 (by omega) (by omega)
  have hmn : m < 4064 := by omega
  rw [bw_any s m P] at r4
  have R4 := hid r4
  clear r4 BB TT MM YY g4 hoff
  go_wp2_with (go_at_call 9; refine (num_ _ _).mono ?_; rintro xn wn ⟨rfl, hw⟩; obtain rfl := hw.symm)
  go_loopw [2, 11, 12] (fun pv_ tv i wr => ∃ j : Nat, j ≤ 32 ∧ i = .int .i64 j ∧ pv_ = .int .u32 (P / 2 ^ j : Nat) ∧ tv = .bool (trn 4064 m P j) ∧ Row wr gb (bw s m P j) ∧ w4.grownBy wr (some gb)) (fun _ _ i _ => 32 - (intOf i).toNat)
  case atStart => exact ⟨0, by omega, rfl, by simp, rfl, R4.out, grow_refl _ _⟩
  case round =>
    obtain ⟨j, hj, rfl, rfl, rfl, rr, gg⟩ := hrel
    clear em
    by_cases hlt : j < 32
    · have HQ : Hid ((P / 2 ^ (j + 1) : Nat) = P / 2 ^ j / 2) := by show _ = _; rw [Nat.pow_succ, Nat.div_div_eq_div_mul]
      have hqb : P / 2 ^ j < 4294967296 := Nat.lt_of_le_of_lt (Nat.div_le_self _ _) hP
      have HV : Hid (trn 4064 m P (j + 1) = if P / 2 ^ j % 2 = 1 ∧ m + j < 4064 then true else trn 4064 m P j) := rfl
      by_cases hd2 : P / 2 ^ j % 2 = 1
      · have e3 : ((P / 2 ^ j : Nat) : Int) % 2 = 1 := by omega
        by_cases hin : m + j < 4064
        · have HU := hid (bw_yes HPM.out (m := m) (P := P) (j := j) hd2 hin)
          have HV1 : Hid (trn 4064 m P (j + 1) = true) := by show _ = _; rw [HV.out, if_pos ⟨hd2, hin⟩]
          have i1 : (m : Int) + (j : Int) < 4064 := by omega
          have hyb := bw_by HPM.out HPY.out m P j
          have hbl := bw_length HPM.out m P j
          have hc := rr.cell ((m + j) / 8) (by omega)
          have hf := rr.unfrozen ((m + j) / 8)
          have HF := hid (flp8 ((bw s m P j).getD ((m + j) / 8) 0) ((m + j) % 8) (getD_byte hyb _) (Nat.mod_lt _ (by omega)))
          have HR := hid (rr.set ((m + j) / 8) ((((bw s m P j).getD ((m + j) / 8) 0).toNat ^^^ 2 ^ ((m + j) % 8) : Nat) : Int))
          rw [← HU.out] at HR
          have d1 : ((m : Int) + (j : Int)).tdiv 8 = (((m + j) / 8 : Nat) : Int) := by rw [Int.tdiv_eq_ediv_of_nonneg (by omega)]; omega
          have d2 : ((m : Int) + (j : Int)).tmod 8 = (((m + j) % 8 : Nat) : Int) := by rw [Int.tmod_eq_emod_of_nonneg (by omega)]; omega
          have hq : (((m + j) / 8 : Nat) : Int) < 512 := by omega
          have hj8 : (m + j) % 8 < 8 := Nat.mod_lt _ (by omega)
          generalize (m + j) / 8 = q8 at *
          generalize (m + j) % 8 = j8 at *
          generalize (bw s m P j).getD q8 0 = z at *
          generalize P / 2 ^ j = q at *
          generalize trn 4064 m P j = tb at *
          have HM : Hid ((2 : Int) ^ j8 % 256 = ((2 ^ j8 : Nat) : Int)) := by
            show _ = _
            have h8 : 2 ^ j8 < 2 ^ 8 := Nat.pow_lt_pow_right (by omega) hj8
            rw [show (2 : Int) ^ j8 = ((2 ^ j8 : Nat) : Int) from by rw [Int.natCast_pow]; rfl]
            exact Int.emod_eq_of_lt (Int.natCast_nonneg _) (Int.ofNat_lt.2 h8)
          have GG := hid gg
          clear hd2 HV HU rr hyb hbl gg
          go_wp2_with fail
          go_region
          rw [HM.out, HF.out]
          have G5 := gr_trans GG.out (grow_cell wr gb q8 (.int .u8 ((z.toNat ^^^ 2 ^ j8 : Nat) : Int)))
          have R5 : Row (wr.setCell ⟨gb, q8, none⟩ (.int .u8 ((z.toNat ^^^ 2 ^ j8 : Nat) : Int))).drew gb (bw s m P (j + 1)) := HR.out
          have G6 : w4.grownBy (wr.setCell ⟨gb, q8, none⟩ (.int .u8 ((z.toNat ^^^ 2 ^ j8 : Nat) : Int))).drew (some gb) := ⟨G5.os, G5.tape, G5.output, G5.size, G5.block⟩
          clear G5 HR GG hc hf
          generalize (wr.setCell ⟨gb, q8, none⟩ (.int .u8 ((z.toNat ^^^ 2 ^ j8 : Nat) : Int))).drew = wn at *
          go_wp2_with fail
          go_roundw
          case rel => exact ⟨j + 1, by omega, by go_num, by rw [HQ.out]; rfl, by rw [HV1.out], R5, G6⟩
          case measure => simp [intOf]; omega
        · have hno : ¬ (P / 2 ^ j % 2 = 1 ∧ m + j < 4064) := fun h => hin h.2
          have HU1 := hid (bw_no HPM.out hno)
          have HV1 : Hid (trn 4064 m P (j + 1) = trn 4064 m P j) := by show _ = _; rw [HV.out, if_neg hno]
          have i1 : (4064 : Int) ≤ (m : Int) + (j : Int) := by omega
          have i2 : decide ((m : Int) + (j : Int) < 4064) = false := decide_eq_false (by omega)
          have i3 : (m : Int) + (j : Int) ≤ 5000 := by omega
          have i4 : (0 : Int) ≤ (m : Int) + (j : Int) := by omega
          clear hm hmn hin
          rw [← HU1.out] at rr
          clear hd2 hno HV HU1
          generalize P / 2 ^ j = q at *
          generalize trn 4064 m P j = tb at *
          go_wp2_with fail
          go_roundw
          case rel => exact ⟨j + 1, by omega, by go_num, by rw [HQ.out]; rfl, by rw [HV1.out], rr, gg⟩
          case measure => simp [intOf]; omega
      · have hno : ¬ (P / 2 ^ j % 2 = 1 ∧ m + j < 4064) := fun h => hd2 h.1
        have HU1 := hid (bw_no HPM.out hno)
        have HV1 : Hid (trn 4064 m P (j + 1) = trn 4064 m P j) := by show _ = _; rw [HV.out, if_neg hno]
        have e3 : ((P / 2 ^ j : Nat) : Int) % 2 = 0 := by omega
        rw [← HU1.out] at rr
        clear hd2 hno HV HU1
        generalize P / 2 ^ j = q at *
        generalize trn 4064 m P j = tb at *
        go_wp2_with fail
        go_roundw
        case rel => exact ⟨j + 1, by omega, by go_num, by rw [HQ.out]; rfl, by rw [HV1.out], rr, gg⟩
        case measure => simp [intOf]; omega
    · obtain rfl : j = 32 := by omega
      have HG := hid (bw_gs HPM.out HPY.out (P := P) hmn)
      have P5 := hid ((rr.bs (bw_by HPM.out HPY.out m P 32)).len (bw_length HPM.out m P 32))
      have T5 := tab_grown T4.out gg (by omega)
      have M5 := hid (sm_grown M4.out gg (by simp; omega))
      have Y5 := hid (Y4.out.kept gg OF.out)
      have B5 := bel_some B4.out B4.out.size gg (Nat.le_of_lt hgw)
      generalize bw s m P 32 = R at *
      clear rr gg T4 M4 Y4 B4 R4 OF
      cases ht : trn 4064 m P 32 with
      | true =>
        rw [ht, if_pos rfl] at HG
        clear ht
        go_wp2_with fail
        refine (get_n (some ⟨gb, 0, none⟩) 512 512 R _ T5 P5.out (Nat.le_refl _) (by unfold maxLen; omega) HG.out).mono ?_
        rintro x6 w6 ⟨rfl, g6⟩
        have A6 : Below w6.heap.size w6 (w6.alloc (.cells #[.string ⟨#[]⟩, .int .i64 0, .int .i64 0, .int .i64 0, .slice none 0 0] 24)) := (Below.refl _ _).alloc (Nat.le_refl _) _
        have B6 := hid (bel_bel (bel_bel B5 B5.size g6) (bel_bel B5 B5.size g6).size A6)
        have T6 := hid ((T5.bel g6).bel A6)
        have m6 := (M5.out.kept g6).kept A6
        have P6 := hid ((P5.out.below g6).below A6)
        have d0 := m6.c0
        have d1 := m6.c1
        have d2 := m6.c2
        have d3 := m6.c3
        clear m6 A6 g6 B5 T5 M5 P5 Y5
        go_wp2_with fail
        refine (right_n s.T s.e s.q s.p (some ⟨gb, 0, none⟩) 512 512 R _ T6.out P6.out (Nat.le_refl _) (by unfold maxLen; omega) (rt_none HG.out _ _ _ _)).mono ?_
        rintro x7 w7 ⟨rfl, g7⟩
        have B7 := bel_bel B6.out B6.out.size g7
        clear d0 d1 d2 d3 B6 T6 P6 g7
        go_wp2_with (go_at_call 9; refine (num_ _ _).mono ?_; rintro xn wn ⟨rfl, hw⟩; obtain rfl := hw.symm)
        go_ret
        exact ⟨rfl, B7⟩
      | false =>
        rw [ht, if_neg (by decide)] at HG
        clear ht
        have hln : (s.l : List Int).length = n := Y5.out.1
        go_wp2_with fail
        refine (get_y (some ⟨gb, 0, none⟩) 512 512 R _ T5 P5.out (Nat.le_refl _) (by unfold maxLen; omega) s HG.out).mono ?_
        rintro x6 w6 ⟨g, rfl, hg6, r6, g6⟩
        simp only [hln]
        have A6 : Below w6.heap.size w6 (w6.alloc (.cells #[.string s.T, .int .i64 s.e, .int .i64 s.q, .int .i64 s.p, .slice (some ⟨g, 0, none⟩) n n] 24)) := (Below.refl _ _).alloc (Nat.le_refl _) _
        have B6 := hid (bel_bel (bel_bel B5 B5.size g6) (bel_bel B5 B5.size g6).size A6)
        have T6 := hid ((T5.bel g6).bel A6)
        have m6 := (M5.out.kept g6).kept A6
        have P6 := hid ((P5.out.below g6).below A6)
        have Y6 := hid ((Y5.out.below g6).below A6)
        have d0 := m6.c0
        have d1 := m6.c1
        have d2 := m6.c2
        have d3 := m6.c3
        have M6 := hid m6
        clear m6 A6 g6 B5 T5 M5 P5 Y5 r6
        go_wp2_with fail
        refine (right_y s.T s.e s.q s.p s.l (some ⟨gb, 0, none⟩) 512 512 R _ T6.out P6.out (Nat.le_refl _) (by unfold maxLen; omega) HG.out).mono ?_
        rintro x7 w7 ⟨g', rfl, hg7, r7, g7⟩
        simp only [hln]
        have B7 := hid (bel_bel B6.out B6.out.size g7)
        have m7 := M6.out.kept g7
        have Y7 := hid (Y6.out.below g7)
        have L7 := hid ((r7.bs HPY.out).len hln)
        have d4 := m7.c4
        clear d0 d1 d2 d3 B6 T6 P6 g7 M6 m7 r7 Y6
        go_wp2_with fail
        refine (same_yes (some ⟨g', 0, none⟩) a n n n c s.l _ L7.out Y7.out (by have := HN.out; omega) (by have := HN.out; omega)).mono ?_
        rintro x8 w8 ⟨rfl, D8⟩
        have B8 := bel_bel B7.out B7.out.size D8.below
        clear B7 Y7 L7 d4 D8
        go_wp2_with (go_at_call 9; refine (num_ _ _).mono ?_; rintro xn wn ⟨rfl, hw⟩; obtain rfl := hw.symm)
        go_ret
        exact ⟨rfl, B8⟩
set_option maxHeartbeats 16000000 in
theorem bst_2 (s : Sec) (a : Option Addr) (n c : Nat) (bit pt : Int) (w : World) (hT : Tab w) (hb : Bs w a n s.l) (hat : -9223372036854775808 ≤ bit ∧ bit ≤ 9223372036854775807) (hx : 0 ≤ pt ∧ pt ≤ 4294967295) (hM : ¬ May s) :
    Calls Tryd.prog 4 #[.agg #[.string s.T, .int .i64 s.e, .int .i64 s.q, .int .i64 s.p, .slice a n c], .int .i64 bit, .int .u32 pt] w fun en w' => en = .returned (.bool true) ∧ Below w.heap.size w w' := by
  have hMN : ¬ MayN s.T s.e s.q s.p n := fun k => hM ((may_n hb.1).2 k)
  have HT0 := hid hT
  have HN : Hid (3 ≤ 480) := by show _ ≤ _; omega
  obtain ⟨hat0, hat1⟩ := hat
  obtain ⟨hx0, hx1⟩ := hx
  obtain ⟨P, rfl⟩ : ∃ P : Nat, pt = P := ⟨pt.toNat, by omega⟩
  have hP : P < 4294967296 := by omega
  have m0 := Sm.new w s.T s.e s.q s.p (.slice a n c)
  have B0 := snew w s.T s.e s.q s.p (.slice a n c)
  have T0 := hT.bel B0
  have Y0 := hid (hb.below B0)
  clear hb hT
  go_enter Tryd.func4, Tryd.ntmps4
  go_wp2_with fail
  refine (first_ _ T0).mono ?_
  rintro x1 w1 ⟨rfl, g1⟩
  have m1 := m0.kept g1
  have B1 := bel_bel B0 B0.size g1
  have T1 := hid (T0.bel g1)
  have Y1 := hid (Y0.out.below g1)
  have d0 := m1.c0
  have d1 := m1.c1
  have d2 := m1.c2
  have d3 := m1.c3
  have d4 := m1.c4
  have M1 := hid m1
  have B1H := hid B1
  clear m0 B0 T0 Y0 g1 m1 B1
  go_wp2_with fail
  refine (lmay_n s.T s.e s.q s.p a n c _ hMN).mono ?_
  rintro x2 w2 ⟨rfl, g2⟩
  have m2 := M1.out.kept g2
  have B2 := hid (bel_bel B1H.out B1H.out.size g2)
  have T2 := hid (T1.out.bel g2)
  have Y2 := hid (Y1.out.below g2)
  have M2 := hid m2
  clear d0 d1 d2 d3 d4 M1 B1H T1 Y1 g2
  clear m2
  go_wp2_with fail
  refine (plain_ _).mono ?_
  rintro x3 w3 ⟨gp, rfl, y3, hgp, g3⟩
  have m3 := M2.out.kept g3
  have hlt3 := M2.out.lt
  have B3 := bel_bel B2.out B2.out.size g3
  have T3 := T2.out.bel g3
  have BB := hid (bel_row B3 (g := w.heap.size) (Nat.le_refl _) #[.string ⟨#[67, 86, 79, 49]⟩, .int .i64 1, .int .i64 2, .int .i64 3, .slice (some ⟨gp, 0, none⟩) 3 3])
  have TT : Hid (Tab (w3.setRow w.heap.size #[.string ⟨#[67, 86, 79, 49]⟩, .int .i64 1, .int .i64 2, .int .i64 3, .slice (some ⟨gp, 0, none⟩) 3 3])) := tab_grown T3 (grow_setRow _ _ _) (by have := HT0.out.1; omega)
  have MM := hid (m3.row ⟨#[67, 86, 79, 49]⟩ 1 2 3 (.slice (some ⟨gp, 0, none⟩) 3 3))
  have YY : Hid (Bs (w3.setRow w.heap.size #[.string ⟨#[67, 86, 79, 49]⟩, .int .i64 1, .int .i64 2, .int .i64 3, .slice (some ⟨gp, 0, none⟩) 3 3]) (some ⟨gp, 0, none⟩) 3 [97, 98, 99]) := y3.kept (grow_setRow _ _ _) (.inr fun x hx => by cases hx; simp; omega)
  have M3 := hid m3
  have q0 := MM.out.c0
  have q1 := MM.out.c1
  have q2 := MM.out.c2
  have q3 := MM.out.c3
  have q4 := MM.out.c4
  have HPM := hid pl_may
  have HPY := hid pl_by
  clear m3 B3 T3 y3 g3 M2 B2 T2 Y2
  go_wp2_with (with_reducible show wpList _ _ _ (_ :: _) _ _; refine wpList_ss rfl rfl _ _ rfl w.heap.size ⟨#[67, 86, 79, 49]⟩ 1 2 3 (some ⟨gp, 0, none⟩) 3 3 rfl rfl _ _ _ _ _ (by with_reducible exact M3.out) ?_)
  clear q0 q1 q2 q3 q4 M3
  generalize w3.setRow w.heap.size #[.string ⟨#[67, 86, 79, 49]⟩, .int .i64 1, .int .i64 2, .int .i64 3, .slice (some ⟨gp, 0, none⟩) 3 3] = w3' at *
  have hoff := hid (bs_off YY.out (Nat.le_refl _))
  refine (put_y ⟨#[67, 86, 79, 49]⟩ 1 2 3 (some ⟨gp, 0, none⟩) 3 3 [97, 98, 99] _ TT.out YY.out pl_mayn).mono ?_
  rintro x4 w4 ⟨gb, rfl, hgb, r4, g4⟩
  have B4 := hid (bel_bel BB.out BB.out.size g4)
  have T4 := hid (TT.out.bel g4)
  have M4 := hid (MM.out.kept g4)
  have Y4 := hid (YY.out.below g4)
  have hlt4 := MM.out.lt
  have hgw : w.heap.size < gb := by omega
  have OF : Hid (Off (some ⟨gp, 0, none⟩) 3 (some gb)) := by
    rcases hoff.out with h | h
    · exact .inl h
    · exact .inr fun x hx => by have := h x hx; simp; omega
  replace r4 : Row w4 gb (ps pl) := r4
  rw [← bw_zero pl] at r4
  obtain ⟨m, hm, em⟩ := place bit 4064 (by omega) (by omega)
  have hmn : m < 4064 := by omega
  rw [bw_any pl m P] at r4
  have R4 := hid r4
  clear r4 BB TT MM YY g4 hoff
  go_wp2_with (go_at_call 9; refine (num_ _ _).mono ?_; rintro xn wn ⟨rfl, hw⟩; obtain rfl := hw.symm)
  go_loopw [2, 11, 12] (fun pv_ tv i wr => ∃ j : Nat, j ≤ 32 ∧ i = .int .i64 j ∧ pv_ = .int .u32 (P / 2 ^ j : Nat) ∧ tv = .bool (trn 4064 m P j) ∧ Row wr gb (bw pl m P j) ∧ w4.grownBy wr (some gb)) (fun _ _ i _ => 32 - (intOf i).toNat)
  case atStart => exact ⟨0, by omega, rfl, by simp, rfl, R4.out, grow_refl _ _⟩
  case round =>
    obtain ⟨j, hj, rfl, rfl, rfl, rr, gg⟩ := hrel
    clear em
    by_cases hlt : j < 32
    · have HQ : Hid ((P / 2 ^ (j + 1) : Nat) = P / 2 ^ j / 2) := by show _ = _; rw [Nat.pow_succ, Nat.div_div_eq_div_mul]
      have hqb : P / 2 ^ j < 4294967296 := Nat.lt_of_le_of_lt (Nat.div_le_self _ _) hP
      have HV : Hid (trn 4064 m P (j + 1) = if P / 2 ^ j % 2 = 1 ∧ m + j < 4064 then true else trn 4064 m P j) := rfl
      by_cases hd2 : P / 2 ^ j % 2 = 1
      · have e3 : ((P / 2 ^ j : Nat) : Int) % 2 = 1 := by omega
        by_cases hin : m + j < 4064
        · have HU := hid (bw_yes HPM.out (m := m) (P := P) (j := j) hd2 hin)
          have HV1 : Hid (trn 4064 m P (j + 1) = true) := by show _ = _; rw [HV.out, if_pos ⟨hd2, hin⟩]
          have i1 : (m : Int) + (j : Int) < 4064 := by omega
          have hyb := bw_by HPM.out HPY.out m P j
          have hbl := bw_length HPM.out m P j
          have hc := rr.cell ((m + j) / 8) (by omega)
          have hf := rr.unfrozen ((m + j) / 8)
          have HF := hid (flp8 ((bw pl m P j).getD ((m + j) / 8) 0) ((m + j) % 8) (getD_byte hyb _) (Nat.mod_lt _ (by omega)))
          have HR := hid (rr.set ((m + j) / 8) ((((bw pl m P j).getD ((m + j) / 8) 0).toNat ^^^ 2 ^ ((m + j) % 8) : Nat) : Int))
          rw [← HU.out] at HR
          have d1 : ((m : Int) + (j : Int)).tdiv 8 = (((m + j) / 8 : Nat) : Int) := by rw [Int.tdiv_eq_ediv_of_nonneg (by omega)]; omega
          have d2 : ((m : Int) + (j : Int)).tmod 8 = (((m + j) % 8 : Nat) : Int) := by rw [Int.tmod_eq_emod_of_nonneg (by omega)]; omega
          have hq : (((m + j) / 8 : Nat) : Int) < 512 := by omega
          have hj8 : (m + j) % 8 < 8 := Nat.mod_lt _ (by omega)
          generalize (m + j) / 8 = q8 at *
          generalize (m + j) % 8 = j8 at *
          generalize (bw pl m P j).getD q8 0 = z at *
          generalize P / 2 ^ j = q at *
          generalize trn 4064 m P j = tb at *
          have HM : Hid ((2 : Int) ^ j8 % 256 = ((2 ^ j8 : Nat) : Int)) := by
            show _ = _
            have h8 : 2 ^ j8 < 2 ^ 8 := Nat.pow_lt_pow_right (by omega) hj8
            rw [show (2 : Int) ^ j8 = ((2 ^ j8 : Nat) : Int) from by rw [Int.natCast_pow]; rfl]
            exact Int.emod_eq_of_lt (Int.natCast_nonneg _) (Int.ofNat_lt.2 h8)
          have GG := hid gg
          clear hd2 HV HU rr hyb hbl gg
          go_wp2_with fail
          go_region
          rw [HM.out, HF.out]
          have G5 := gr_trans GG.out (grow_cell wr gb q8 (.int .u8 ((z.toNat ^^^ 2 ^ j8 : Nat) : Int)))
          have R5 : Row (wr.setCell ⟨gb, q8, none⟩ (.int .u8 ((z.toNat ^^^ 2 ^ j8 : Nat) : Int))).drew gb (bw pl m P (j + 1)) := HR.out
          have G6 : w4.grownBy (wr.setCell ⟨gb, q8, none⟩ (.int .u8 ((z.toNat ^^^ 2 ^ j8 : Nat) : Int))).drew (some gb) := ⟨G5.os, G5.tape, G5.output, G5.size, G5.block⟩
          clear G5 HR GG hc hf
          generalize (wr.setCell ⟨gb, q8, none⟩ (.int .u8 ((z.toNat ^^^ 2 ^ j8 : Nat) : Int))).drew = wn at *
          go_wp2_with fail
          go_roundw
          case rel => exact ⟨j + 1, by omega, by go_num, by rw [HQ.out]; rfl, by rw [HV1.out], R5, G6⟩
          case measure => simp [intOf]; omega
        · have hno : ¬ (P / 2 ^ j % 2 = 1 ∧ m + j < 4064) := fun h => hin h.2
          have HU1 := hid (bw_no HPM.out hno)
          have HV1 : Hid (trn 4064 m P (j + 1) = trn 4064 m P j) := by show _ = _; rw [HV.out, if_neg hno]
          have i1 : (4064 : Int) ≤ (m : Int) + (j : Int) := by omega
          have i2 : decide ((m : Int) + (j : Int) < 4064) = false := decide_eq_false (by omega)
          have i3 : (m : Int) + (j : Int) ≤ 5000 := by omega
          have i4 : (0 : Int) ≤ (m : Int) + (j : Int) := by omega
          clear hm hmn hin
          rw [← HU1.out] at rr
          clear hd2 hno HV HU1
          generalize P / 2 ^ j = q at *
          generalize trn 4064 m P j = tb at *
          go_wp2_with fail
          go_roundw
          case rel => exact ⟨j + 1, by omega, by go_num, by rw [HQ.out]; rfl, by rw [HV1.out], rr, gg⟩
          case measure => simp [intOf]; omega
      · have hno : ¬ (P / 2 ^ j % 2 = 1 ∧ m + j < 4064) := fun h => hd2 h.1
        have HU1 := hid (bw_no HPM.out hno)
        have HV1 : Hid (trn 4064 m P (j + 1) = trn 4064 m P j) := by show _ = _; rw [HV.out, if_neg hno]
        have e3 : ((P / 2 ^ j : Nat) : Int) % 2 = 0 := by omega
        rw [← HU1.out] at rr
        clear hd2 hno HV HU1
        generalize P / 2 ^ j = q at *
        generalize trn 4064 m P j = tb at *
        go_wp2_with fail
        go_roundw
        case rel => exact ⟨j + 1, by omega, by go_num, by rw [HQ.out]; rfl, by rw [HV1.out], rr, gg⟩
        case measure => simp [intOf]; omega
    · obtain rfl : j = 32 := by omega
      have HG := hid (bw_gs HPM.out HPY.out (P := P) hmn)
      have P5 := hid ((rr.bs (bw_by HPM.out HPY.out m P 32)).len (bw_length HPM.out m P 32))
      have T5 := tab_grown T4.out gg (by omega)
      have M5 := hid (sm_grown M4.out gg (by simp; omega))
      have Y5 := hid (Y4.out.kept gg OF.out)
      have B5 := bel_some B4.out B4.out.size gg (Nat.le_of_lt hgw)
      generalize bw pl m P 32 = R at *
      clear rr gg T4 M4 Y4 B4 R4 OF
      cases ht : trn 4064 m P 32 with
      | true =>
        rw [ht, if_pos rfl] at HG
        clear ht
        go_wp2_with fail
        refine (get_n (some ⟨gb, 0, none⟩) 512 512 R _ T5 P5.out (Nat.le_refl _) (by unfold maxLen; omega) HG.out).mono ?_
        rintro x6 w6 ⟨rfl, g6⟩
        have A6 : Below w6.heap.size w6 (w6.alloc (.cells #[.string ⟨#[]⟩, .int .i64 0, .int .i64 0, .int .i64 0, .slice none 0 0] 24)) := (Below.refl _ _).alloc (Nat.le_refl _) _
        have B6 := hid (bel_bel (bel_bel B5 B5.size g6) (bel_bel B5 B5.size g6).size A6)
        have T6 := hid ((T5.bel g6).bel A6)
        have m6 := (M5.out.kept g6).kept A6
        have P6 := hid ((P5.out.below g6).below A6)
        have d0 := m6.c0
        have d1 := m6.c1
        have d2 := m6.c2
        have d3 := m6.c3
        clear m6 A6 g6 B5 T5 M5 P5 Y5
        go_wp2_with fail
        refine (right_n ⟨#[67, 86, 79, 49]⟩ 1 2 3 (some ⟨gb, 0, none⟩) 512 512 R _ T6.out P6.out (Nat.le_refl _) (by unfold maxLen; omega) (rt_none HG.out _ _ _ _)).mono ?_
        rintro x7 w7 ⟨rfl, g7⟩
        have B7 := bel_bel B6.out B6.out.size g7
        clear d0 d1 d2 d3 B6 T6 P6 g7
        go_wp2_with (go_at_call 9; refine (num_ _ _).mono ?_; rintro xn wn ⟨rfl, hw⟩; obtain rfl := hw.symm)
        go_ret
        exact ⟨rfl, B7⟩
      | false =>
        rw [ht, if_neg (by decide)] at HG
        clear ht
        have hln : ([97, 98, 99] : List Int).length = 3 := Y5.out.1
        go_wp2_with fail
        refine (get_y (some ⟨gb, 0, none⟩) 512 512 R _ T5 P5.out (Nat.le_refl _) (by unfold maxLen; omega) ⟨⟨#[67, 86, 79, 49]⟩, 1, 2, 3, [97, 98, 99]⟩ HG.out).mono ?_
        rintro x6 w6 ⟨g, rfl, hg6, r6, g6⟩
        simp only [hln]
        have A6 : Below w6.heap.size w6 (w6.alloc (.cells #[.string ⟨#[67, 86, 79, 49]⟩, .int .i64 1, .int .i64 2, .int .i64 3, .slice (some ⟨g, 0, none⟩) 3 3] 24)) := (Below.refl _ _).alloc (Nat.le_refl _) _
        have B6 := hid (bel_bel (bel_bel B5 B5.size g6) (bel_bel B5 B5.size g6).size A6)
        have T6 := hid ((T5.bel g6).bel A6)
        have m6 := (M5.out.kept g6).kept A6
        have P6 := hid ((P5.out.below g6).below A6)
        have Y6 := hid ((Y5.out.below g6).below A6)
        have d0 := m6.c0
        have d1 := m6.c1
        have d2 := m6.c2
        have d3 := m6.c3
        have M6 := hid m6
        clear m6 A6 g6 B5 T5 M5 P5 Y5 r6
        go_wp2_with fail
        refine (right_y ⟨#[67, 86, 79, 49]⟩ 1 2 3 [97, 98, 99] (some ⟨gb, 0, none⟩) 512 512 R _ T6.out P6.out (Nat.le_refl _) (by unfold maxLen; omega) HG.out).mono ?_
        rintro x7 w7 ⟨g', rfl, hg7, r7, g7⟩
        simp only [hln]
        have B7 := hid (bel_bel B6.out B6.out.size g7)
        have m7 := M6.out.kept g7
        have Y7 := hid (Y6.out.below g7)
        have L7 := hid ((r7.bs HPY.out).len hln)
        have d4 := m7.c4
        clear d0 d1 d2 d3 B6 T6 P6 g7 M6 m7 r7 Y6
        go_wp2_with fail
        refine (same_yes (some ⟨g', 0, none⟩) (some ⟨gp, 0, none⟩) 3 3 3 3 [97, 98, 99] _ L7.out Y7.out (by have := HN.out; omega) (by have := HN.out; omega)).mono ?_
        rintro x8 w8 ⟨rfl, D8⟩
        have B8 := bel_bel B7.out B7.out.size D8.below
        clear B7 Y7 L7 d4 D8
        go_wp2_with (go_at_call 9; refine (num_ _ _).mono ?_; rintro xn wn ⟨rfl, hw⟩; obtain rfl := hw.symm)
        go_ret
        exact ⟨rfl, B8⟩
theorem sectorBurst_ (s : Sec) (a : Option Addr) (n c : Nat) (bit pt : Int) (w : World) (hT : Tab w) (hb : Bs w a n s.l) (hat : -9223372036854775808 ≤ bit ∧ bit ≤ 9223372036854775807) (hx : 0 ≤ pt ∧ pt ≤ 4294967295) :
    Calls Tryd.prog 4 #[.agg #[.string s.T, .int .i64 s.e, .int .i64 s.q, .int .i64 s.p, .slice a n c], .int .i64 bit, .int .u32 pt] w fun en w' => en = .returned (.bool true) ∧ Below w.heap.size w w' := by
  by_cases h : May s
  · exact bst_1 s a n c bit pt w hT hb hat hx h
  · exact bst_2 s a n c bit pt w hT hb hat hx h
end Go.Proofs.YtfmdnfbcfhojpabDoor
