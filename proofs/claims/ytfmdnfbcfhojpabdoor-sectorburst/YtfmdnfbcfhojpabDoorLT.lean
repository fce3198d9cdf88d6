import Derived.Test.YtfmdnfbcfhojpabDoorL5
import Derived.Test.YtfmdnfbcfhojpabDoorPlace
namespace Go.Proofs.YtfmdnfbcfhojpabDoor
set_option maxRecDepth 100000
open Go.RowKit
set_option linter.unusedVariables false

theorem rt_none {b : List Int} (h : gs b = none) (T : ByteArray) (e q p : Int) : rt b T e q p = none := by unfold rt; rw [h]
theorem xor_u8 {z x : Int} (hz : 0 ≤ z ∧ z ≤ 255) (hx : 0 ≤ x ∧ x ≤ 255) : bits .xor .u8 z x = ((z.toNat ^^^ x.toNat : Nat) : Int) := u8_xor z x hz.1 (by omega) hx.1 (by omega)
theorem xor_lt8 {z x : Int} (hz : 0 ≤ z ∧ z ≤ 255) (hx : 0 ≤ x ∧ x ≤ 255) : 0 ≤ ((z.toNat ^^^ x.toNat : Nat) : Int) ∧ ((z.toNat ^^^ x.toNat : Nat) : Int) ≤ 255 := by
  have := Nat.xor_lt_two_pow (n := 8) (show z.toNat < 2 ^ 8 by omega) (show x.toNat < 2 ^ 8 by omega)
  omega
theorem grow_cell (w : World) (g i : Nat) (v : Value) : w.grownBy (w.setCell ⟨g, i, none⟩ v) (some g) := ⟨rfl, rfl, rfl, by simp [World.setCell], fun k _ hk => Below.heap_setCell _ _ _ _ (fun e => hk (by rw [e]))⟩
set_option maxHeartbeats 16000000 in
theorem trn_1 (s : Sec) (a : Option Addr) (n c : Nat) (at_ x : Int) (w : World) (hT : Tab w) (hb : Bs w a n s.l) (hat : -9223372036854775808 ≤ at_ ∧ at_ ≤ 9223372036854775807) (hx : 0 ≤ x ∧ x ≤ 255) (hM : May s) (hx2 : x ≠ 0) :
    Calls Tryd.prog 3 #[.agg #[.string s.T, .int .i64 s.e, .int .i64 s.q, .int .i64 s.p, .slice a n c], .int .i64 at_, .int .u8 x] w fun en w' => en = .returned (.bool true) ∧ Below w.heap.size w w' := by
  have hMN := (may_n hb.1).1 hM
  have HPM := hid hM
  have HPY : Hid (By s.l) := hb.2.1
  have HPL := hid (ps_length hM)
  have HPB := hid (ps_by (s := s) hb.2.1)
  have hx3 : (x == 0) = false := by rw [beq_eq_false_iff_ne]; exact hx2
  obtain ⟨hat0, hat1⟩ := hat
  obtain ⟨hx0, hx1⟩ := hx
  have m0 := Sm.new w s.T s.e s.q s.p (.slice a n c)
  have B0 := snew w s.T s.e s.q s.p (.slice a n c)
  have T0 := hT.bel B0
  have Y0 := hid (hb.below B0)
  clear hb hT
  go_enter Tryd.func3, Tryd.ntmps3
  go_wp2_with fail
  refine (first_ _ T0).mono ?_
  rintro x1 w1 ⟨rfl, g1⟩
  have m1 := m0.kept g1
  have B1 := bel_bel B0 B0.size g1
  have T1 := hid (T0.bel g1)
  have Y1 := hid (Y0.out.below g1)
  have d0 := m1.c0
  have d1 := m1.c1
  have d2 := m1.c2
  have d3 := m1.c3
  have d4 := m1.c4
  have M1 := hid m1
  have B1H := hid B1
  clear m0 B0 T0 Y0 g1 m1 B1
  go_wp2_with fail
  refine (may_y s.T s.e s.q s.p a n c _ hMN).mono ?_
  rintro x2 w2 ⟨rfl, g2⟩
  have m2 := M1.out.kept g2
  have B2 := hid (bel_bel B1H.out B1H.out.size g2)
  have T2 := hid (T1.out.bel g2)
  have Y2 := hid (Y1.out.below g2)
  have M2 := hid m2
  clear d0 d1 d2 d3 d4 M1 B1H T1 Y1 g2
  have e0 := m2.c0
  have e1 := m2.c1
  have e2 := m2.c2
  have e3 := m2.c3
  have e4 := m2.c4
  clear m2
  go_wp2_with fail
  have BB := B2
  have TT := T2
  have MM := M2
  have YY := Y2
  clear B2 T2 M2 Y2 e0 e1 e2 e3 e4
  refine (put_y s.T s.e s.q s.p a n c s.l _ TT.out YY.out hMN).mono ?_
  rintro x4 w4 ⟨gb, rfl, hgb, r4, g4⟩
  have B4 := hid (bel_bel BB.out BB.out.size g4)
  have T4 := hid (TT.out.bel g4)
  have M4 := hid (MM.out.kept g4)
  have hlt4 := MM.out.lt
  have hgw : w.heap.size < gb := by omega
  replace r4 : Row w4 gb (ps s) := r4
  have hl := HPL.out
  obtain ⟨k, hk, ek⟩ := place at_ 512 (by omega) (by omega)
  have hkn : k < 512 := by omega
  have hc4 := r4.cell k (by omega)
  have hf := r4.unfrozen k
  have i4 : (k : Int) < 512 := hk
  have i5 : ¬ (k : Int) < 0 := by omega
  have hzb := getD_byte HPB.out k
  have ex : bits .xor .u8 ((ps s).getD k 0) x = ((((ps s).getD k 0).toNat ^^^ (x : Int).toNat : Nat) : Int) := xor_u8 hzb (by omega)
  have HX := hid (xor_lt8 hzb (show 0 ≤ (x : Int) ∧ (x : Int) ≤ 255 by omega))
  have HS := hid (r4.set k ((((ps s).getD k 0).toNat ^^^ (x : Int).toNat : Nat) : Int))
  have HG : Hid (gs ((ps s).set k ((((ps s).getD k 0).toNat ^^^ (x : Int).toNat : Nat) : Int)) = none) := turned HPM.out HPY.out hkn (by omega) (by omega)
  have HY2 := hid (byte_set HPB.out k _ HX.out)
  have HL2 : Hid (((ps s).set k ((((ps s).getD k 0).toNat ^^^ (x : Int).toNat : Nat) : Int)).length = 512) := by show _ = _; rw [List.length_set]; exact hl
  generalize (ps s).set k ((((ps s).getD k 0).toNat ^^^ (x : Int).toNat : Nat) : Int) = R at *
  generalize ((((ps s).getD k 0).toNat ^^^ (x : Int).toNat : Nat) : Int) = v at *
  generalize (ps s).getD k 0 = z at *
  clear HX hzb r4 hl BB TT MM YY g4
  go_wp2_with (go_at_call 9; refine (num_ _ _).mono ?_; rintro xn wn ⟨rfl, hw⟩; obtain rfl := hw.symm)
  have B5 : Below w.heap.size w (w4.setCell ⟨gb, k, none⟩ (.int .u8 v)) := B4.out.setCell (p := ⟨gb, k, none⟩) (Nat.le_of_lt hgw) _
  have T5 : Tab (w4.setCell ⟨gb, k, none⟩ (.int .u8 v)) := tab_grown T4.out (by exact grow_cell w4 gb k _) (by omega)
  have M5 := M4.out.at (w' := w4.setCell ⟨gb, k, none⟩ (.int .u8 v)) (Below.heap_setCell _ _ _ _ (Nat.ne_of_lt hgw))
  have P5 := hid ((HS.out.bs HY2.out).len HL2.out)
  clear HS B4 T4 M4 hc4 hf ek ex
  generalize w4.setCell ⟨gb, k, none⟩ (.int .u8 v) = w5 at *
  refine (get_n (some ⟨gb, 0, none⟩) 512 512 R w5 T5 P5.out (Nat.le_refl _) (by unfold maxLen; omega) HG.out).mono ?_
  rintro x6 w6 ⟨rfl, g6⟩
  have A6 : Below w6.heap.size w6 (w6.alloc (.cells #[.string ⟨#[]⟩, .int .i64 0, .int .i64 0, .int .i64 0, .slice none 0 0] 24)) := (Below.refl _ _).alloc (Nat.le_refl _) _
  have B6 := hid (bel_bel (bel_bel B5 B5.size g6) (bel_bel B5 B5.size g6).size A6)
  have T6 := hid ((T5.bel g6).bel A6)
  have m6 := (M5.kept g6).kept A6
  have P6 := hid ((P5.out.below g6).below A6)
  have d0 := m6.c0
  have d1 := m6.c1
  have d2 := m6.c2
  have d3 := m6.c3
  have M6 := hid m6
  clear m6 A6 g6 B5 T5 M5 P5
  go_wp2_with fail
  refine (right_n s.T s.e s.q s.p (some ⟨gb, 0, none⟩) 512 512 R _ T6.out P6.out (Nat.le_refl _) (by unfold maxLen; omega) (rt_none HG.out _ _ _ _)).mono ?_
  rintro x7 w7 ⟨rfl, g7⟩
  have B7 := hid (bel_bel B6.out B6.out.size g7)
  have T7 := hid (T6.out.bel g7)
  have P7 := hid (P6.out.below g7)
  clear d0 d1 d2 d3 M6 B6 T6 P6 g7
  go_wp2_with fail
  refine (refGet_n (some ⟨gb, 0, none⟩) 512 512 R _ P7.out (Nat.le_refl _) (by unfold maxLen; omega) HG.out).mono ?_
  rintro x8 w8 ⟨rfl, g8⟩
  have A8 : Below w8.heap.size w8 (w8.alloc (.cells #[.string ⟨#[]⟩, .int .i64 0, .int .i64 0, .int .i64 0, .slice none 0 0] 24)) := (Below.refl _ _).alloc (Nat.le_refl _) _
  have B8 := hid (bel_bel (bel_bel B7.out B7.out.size g8) (bel_bel B7.out B7.out.size g8).size A8)
  have T8 := hid ((T7.out.bel g8).bel A8)
  have P8 := hid ((P7.out.below g8).below A8)
  have m8 := Sm.new w8 ⟨#[]⟩ 0 0 0 (.slice none 0 0)
  have f0 := m8.c0
  have f1 := m8.c1
  have f2 := m8.c2
  have f3 := m8.c3
  clear m8 A8 g8 B7 T7 P7
  go_wp2_with fail
  refine (right_n ⟨#[]⟩ 0 0 0 (some ⟨gb, 0, none⟩) 512 512 R _ T8.out P8.out (Nat.le_refl _) (by unfold maxLen; omega) (rt_none HG.out _ _ _ _)).mono ?_
  rintro x9 w9 ⟨rfl, g9⟩
  have B9 := bel_bel B8.out B8.out.size g9
  clear f0 f1 f2 f3 B8 T8 P8 g9
  go_wp2_with (go_at_call 9; refine (num_ _ _).mono ?_; rintro xn wn ⟨rfl, hw⟩; obtain rfl := hw.symm)
  go_ret
  exact ⟨rfl, B9⟩
set_option maxHeartbeats 16000000 in
theorem trn_2 (s : Sec) (a : Option Addr) (n c : Nat) (at_ x : Int) (w : World) (hT : Tab w) (hb : Bs w a n s.l) (hat : -9223372036854775808 ≤ at_ ∧ at_ ≤ 9223372036854775807) (hx : 0 ≤ x ∧ x ≤ 255) (hM : ¬ May s) :
    Calls Tryd.prog 3 #[.agg #[.string s.T, .int .i64 s.e, .int .i64 s.q, .int .i64 s.p, .slice a n c], .int .i64 at_, .int .u8 x] w fun en w' => en = .returned (.bool true) ∧ Below w.heap.size w w' := by
  have hMN : ¬ MayN s.T s.e s.q s.p n := fun k => hM ((may_n hb.1).2 k)
  have HT0 := hid hT
  obtain ⟨hat0, hat1⟩ := hat
  obtain ⟨hx0, hx1⟩ := hx
  have m0 := Sm.new w s.T s.e s.q s.p (.slice a n c)
  have B0 := snew w s.T s.e s.q s.p (.slice a n c)
  have T0 := hT.bel B0
  have Y0 := hid (hb.below B0)
  clear hb hT
  go_enter Tryd.func3, Tryd.ntmps3
  go_wp2_with fail
  refine (first_ _ T0).mono ?_
  rintro x1 w1 ⟨rfl, g1⟩
  have m1 := m0.kept g1
  have B1 := bel_bel B0 B0.size g1
  have T1 := hid (T0.bel g1)
  have Y1 := hid (Y0.out.below g1)
  have d0 := m1.c0
  have d1 := m1.c1
  have d2 := m1.c2
  have d3 := m1.c3
  have d4 := m1.c4
  have M1 := hid m1
  have B1H := hid B1
  clear m0 B0 T0 Y0 g1 m1 B1
  go_wp2_with fail
  refine (lmay_n s.T s.e s.q s.p a n c _ hMN).mono ?_
  rintro x2 w2 ⟨rfl, g2⟩
  have m2 := M1.out.kept g2
  have B2 := hid (bel_bel B1H.out B1H.out.size g2)
  have T2 := hid (T1.out.bel g2)
  have Y2 := hid (Y1.out.below g2)
  have M2 := hid m2
  clear d0 d1 d2 d3 d4 M1 B1H T1 Y1 g2
  clear m2
  go_wp2_with fail
  refine (plain_ _).mono ?_
  rintro x3 w3 ⟨gp, rfl, y3, hgp, g3⟩
  have m3 := M2.out.kept g3
  have hlt3 := M2.out.lt
  have B3 := bel_bel B2.out B2.out.size g3
  have T3 := T2.out.bel g3
  have BB := hid (bel_row B3 (g := w.heap.size) (Nat.le_refl _) #[.string ⟨#[67, 86, 79, 49]⟩, .int .i64 1, .int .i64 2, .int .i64 3, .slice (some ⟨gp, 0, none⟩) 3 3])
  have TT : Hid (Tab (w3.setRow w.heap.size #[.string ⟨#[67, 86, 79, 49]⟩, .int .i64 1, .int .i64 2, .int .i64 3, .slice (some ⟨gp, 0, none⟩) 3 3])) := tab_grown T3 (grow_setRow _ _ _) (by have := HT0.out.1; omega)
  have MM := hid (m3.row ⟨#[67, 86, 79, 49]⟩ 1 2 3 (.slice (some ⟨gp, 0, none⟩) 3 3))
  have YY : Hid (Bs (w3.setRow w.heap.size #[.string ⟨#[67, 86, 79, 49]⟩, .int .i64 1, .int .i64 2, .int .i64 3, .slice (some ⟨gp, 0, none⟩) 3 3]) (some ⟨gp, 0, none⟩) 3 [97, 98, 99]) := y3.kept (grow_setRow _ _ _) (.inr fun x hx => by cases hx; simp; omega)
  have M3 := hid m3
  have q0 := MM.out.c0
  have q1 := MM.out.c1
  have q2 := MM.out.c2
  have q3 := MM.out.c3
  have q4 := MM.out.c4
  have HPM := hid pl_may
  have HPY := hid pl_by
  have HPL := hid (ps_length pl_may)
  have HPB := hid (ps_by pl_by)
  clear m3 B3 T3 y3 g3 M2 B2 T2 Y2
  go_wp2_with (with_reducible show wpList _ _ _ (_ :: _) _ _; refine wpList_ss rfl rfl _ _ rfl w.heap.size ⟨#[67, 86, 79, 49]⟩ 1 2 3 (some ⟨gp, 0, none⟩) 3 3 rfl rfl _ _ _ _ _ (by with_reducible exact M3.out) ?_)
  clear q0 q1 q2 q3 q4 M3
  generalize w3.setRow w.heap.size #[.string ⟨#[67, 86, 79, 49]⟩, .int .i64 1, .int .i64 2, .int .i64 3, .slice (some ⟨gp, 0, none⟩) 3 3] = w3' at *
  refine (put_y ⟨#[67, 86, 79, 49]⟩ 1 2 3 (some ⟨gp, 0, none⟩) 3 3 [97, 98, 99] _ TT.out YY.out pl_mayn).mono ?_
  rintro x4 w4 ⟨gb, rfl, hgb, r4, g4⟩
  have B4 := hid (bel_bel BB.out BB.out.size g4)
  have T4 := hid (TT.out.bel g4)
  have M4 := hid (MM.out.kept g4)
  have hlt4 := MM.out.lt
  have hgw : w.heap.size < gb := by omega
  replace r4 : Row w4 gb (ps pl) := r4
  have hl := HPL.out
  obtain ⟨k, hk, ek⟩ := place at_ 512 (by omega) (by omega)
  have hkn : k < 512 := by omega
  have hc4 := r4.cell k (by omega)
  have hf := r4.unfrozen k
  have i4 : (k : Int) < 512 := hk
  have i5 : ¬ (k : Int) < 0 := by omega
  have hzb := getD_byte HPB.out k
  have ex : bits .xor .u8 ((ps pl).getD k 0) 1 = ((((ps pl).getD k 0).toNat ^^^ (1 : Int).toNat : Nat) : Int) := xor_u8 hzb (by omega)
  have HX := hid (xor_lt8 hzb (show 0 ≤ (1 : Int) ∧ (1 : Int) ≤ 255 by omega))
  have HS := hid (r4.set k ((((ps pl).getD k 0).toNat ^^^ (1 : Int).toNat : Nat) : Int))
  have HG : Hid (gs ((ps pl).set k ((((ps pl).getD k 0).toNat ^^^ (1 : Int).toNat : Nat) : Int)) = none) := turned HPM.out HPY.out hkn (by omega) (by omega)
  have HY2 := hid (byte_set HPB.out k _ HX.out)
  have HL2 : Hid (((ps pl).set k ((((ps pl).getD k 0).toNat ^^^ (1 : Int).toNat : Nat) : Int)).length = 512) := by show _ = _; rw [List.length_set]; exact hl
  generalize (ps pl).set k ((((ps pl).getD k 0).toNat ^^^ (1 : Int).toNat : Nat) : Int) = R at *
  generalize ((((ps pl).getD k 0).toNat ^^^ (1 : Int).toNat : Nat) : Int) = v at *
  generalize (ps pl).getD k 0 = z at *
  clear HX hzb r4 hl BB TT MM YY g4
  go_wp2_with (go_at_call 9; refine (num_ _ _).mono ?_; rintro xn wn ⟨rfl, hw⟩; obtain rfl := hw.symm)
  have B5 : Below w.heap.size w (w4.setCell ⟨gb, k, none⟩ (.int .u8 v)) := B4.out.setCell (p := ⟨gb, k, none⟩) (Nat.le_of_lt hgw) _
  have T5 : Tab (w4.setCell ⟨gb, k, none⟩ (.int .u8 v)) := tab_grown T4.out (by exact grow_cell w4 gb k _) (by omega)
  have M5 := M4.out.at (w' := w4.setCell ⟨gb, k, none⟩ (.int .u8 v)) (Below.heap_setCell _ _ _ _ (Nat.ne_of_lt hgw))
  have P5 := hid ((HS.out.bs HY2.out).len HL2.out)
  clear HS B4 T4 M4 hc4 hf ek ex
  generalize w4.setCell ⟨gb, k, none⟩ (.int .u8 v) = w5 at *
  refine (get_n (some ⟨gb, 0, none⟩) 512 512 R w5 T5 P5.out (Nat.le_refl _) (by unfold maxLen; omega) HG.out).mono ?_
  rintro x6 w6 ⟨rfl, g6⟩
  have A6 : Below w6.heap.size w6 (w6.alloc (.cells #[.string ⟨#[]⟩, .int .i64 0, .int .i64 0, .int .i64 0, .slice none 0 0] 24)) := (Below.refl _ _).alloc (Nat.le_refl _) _
  have B6 := hid (bel_bel (bel_bel B5 B5.size g6) (bel_bel B5 B5.size g6).size A6)
  have T6 := hid ((T5.bel g6).bel A6)
  have m6 := (M5.kept g6).kept A6
  have P6 := hid ((P5.out.below g6).below A6)
  have d0 := m6.c0
  have d1 := m6.c1
  have d2 := m6.c2
  have d3 := m6.c3
  have M6 := hid m6
  clear m6 A6 g6 B5 T5 M5 P5
  go_wp2_with fail
  refine (right_n ⟨#[67, 86, 79, 49]⟩ 1 2 3 (some ⟨gb, 0, none⟩) 512 512 R _ T6.out P6.out (Nat.le_refl _) (by unfold maxLen; omega) (rt_none HG.out _ _ _ _)).mono ?_
  rintro x7 w7 ⟨rfl, g7⟩
  have B7 := hid (bel_bel B6.out B6.out.size g7)
  have T7 := hid (T6.out.bel g7)
  have P7 := hid (P6.out.below g7)
  clear d0 d1 d2 d3 M6 B6 T6 P6 g7
  go_wp2_with fail
  refine (refGet_n (some ⟨gb, 0, none⟩) 512 512 R _ P7.out (Nat.le_refl _) (by unfold maxLen; omega) HG.out).mono ?_
  rintro x8 w8 ⟨rfl, g8⟩
  have A8 : Below w8.heap.size w8 (w8.alloc (.cells #[.string ⟨#[]⟩, .int .i64 0, .int .i64 0, .int .i64 0, .slice none 0 0] 24)) := (Below.refl _ _).alloc (Nat.le_refl _) _
  have B8 := hid (bel_bel (bel_bel B7.out B7.out.size g8) (bel_bel B7.out B7.out.size g8).size A8)
  have T8 := hid ((T7.out.bel g8).bel A8)
  have P8 := hid ((P7.out.below g8).below A8)
  have m8 := Sm.new w8 ⟨#[]⟩ 0 0 0 (.slice none 0 0)
  have f0 := m8.c0
  have f1 := m8.c1
  have f2 := m8.c2
  have f3 := m8.c3
  clear m8 A8 g8 B7 T7 P7
  go_wp2_with fail
  refine (right_n ⟨#[]⟩ 0 0 0 (some ⟨gb, 0, none⟩) 512 512 R _ T8.out P8.out (Nat.le_refl _) (by unfold maxLen; omega) (rt_none HG.out _ _ _ _)).mono ?_
  rintro x9 w9 ⟨rfl, g9⟩
  have B9 := bel_bel B8.out B8.out.size g9
  clear f0 f1 f2 f3 B8 T8 P8 g9
  go_wp2_with (go_at_call 9; refine (num_ _ _).mono ?_; rintro xn wn ⟨rfl, hw⟩; obtain rfl := hw.symm)
  go_ret
  exact ⟨rfl, B9⟩
set_option maxHeartbeats 16000000 in
theorem trn_3 (s : Sec) (a : Option Addr) (n c : Nat) (at_ : Int) (w : World) (hT : Tab w) (hb : Bs w a n s.l) (hat : -9223372036854775808 ≤ at_ ∧ at_ ≤ 9223372036854775807) (hM : May s) :
    Calls Tryd.prog 3 #[.agg #[.string s.T, .int .i64 s.e, .int .i64 s.q, .int .i64 s.p, .slice a n c], .int .i64 at_, .int .u8 0] w fun en w' => en = .returned (.bool true) ∧ Below w.heap.size w w' := by
  have hMN := (may_n hb.1).1 hM
  have HT0 := hid hT
  obtain ⟨hat0, hat1⟩ := hat
  have m0 := Sm.new w s.T s.e s.q s.p (.slice a n c)
  have B0 := snew w s.T s.e s.q s.p (.slice a n c)
  have T0 := hT.bel B0
  have Y0 := hid (hb.below B0)
  clear hb hT
  go_enter Tryd.func3, Tryd.ntmps3
  go_wp2_with fail
  refine (first_ _ T0).mono ?_
  rintro x1 w1 ⟨rfl, g1⟩
  have m1 := m0.kept g1
  have B1 := bel_bel B0 B0.size g1
  have T1 := hid (T0.bel g1)
  have Y1 := hid (Y0.out.below g1)
  have d0 := m1.c0
  have d1 := m1.c1
  have d2 := m1.c2
  have d3 := m1.c3
  have d4 := m1.c4
  have M1 := hid m1
  have B1H := hid B1
  clear m0 B0 T0 Y0 g1 m1 B1
  go_wp2_with fail
  refine (may_y s.T s.e s.q s.p a n c _ hMN).mono ?_
  rintro x2 w2 ⟨rfl, g2⟩
  have m2 := M1.out.kept g2
  have B2 := hid (bel_bel B1H.out B1H.out.size g2)
  have T2 := hid (T1.out.bel g2)
  have Y2 := hid (Y1.out.below g2)
  have M2 := hid m2
  clear d0 d1 d2 d3 d4 M1 B1H T1 Y1 g2
  clear m2
  go_wp2_with fail
  refine (plain_ _).mono ?_
  rintro x3 w3 ⟨gp, rfl, y3, hgp, g3⟩
  have m3 := M2.out.kept g3
  have hlt3 := M2.out.lt
  have B3 := bel_bel B2.out B2.out.size g3
  have T3 := T2.out.bel g3
  have BB := hid (bel_row B3 (g := w.heap.size) (Nat.le_refl _) #[.string ⟨#[67, 86, 79, 49]⟩, .int .i64 1, .int .i64 2, .int .i64 3, .slice (some ⟨gp, 0, none⟩) 3 3])
  have TT : Hid (Tab (w3.setRow w.heap.size #[.string ⟨#[67, 86, 79, 49]⟩, .int .i64 1, .int .i64 2, .int .i64 3, .slice (some ⟨gp, 0, none⟩) 3 3])) := tab_grown T3 (grow_setRow _ _ _) (by have := HT0.out.1; omega)
  have MM := hid (m3.row ⟨#[67, 86, 79, 49]⟩ 1 2 3 (.slice (some ⟨gp, 0, none⟩) 3 3))
  have YY : Hid (Bs (w3.setRow w.heap.size #[.string ⟨#[67, 86, 79, 49]⟩, .int .i64 1, .int .i64 2, .int .i64 3, .slice (some ⟨gp, 0, none⟩) 3 3]) (some ⟨gp, 0, none⟩) 3 [97, 98, 99]) := y3.kept (grow_setRow _ _ _) (.inr fun x hx => by cases hx; simp; omega)
  have M3 := hid m3
  have q0 := MM.out.c0
  have q1 := MM.out.c1
  have q2 := MM.out.c2
  have q3 := MM.out.c3
  have q4 := MM.out.c4
  have HPM := hid pl_may
  have HPY := hid pl_by
  have HPL := hid (ps_length pl_may)
  have HPB := hid (ps_by pl_by)
  clear m3 B3 T3 y3 g3 M2 B2 T2 Y2
  go_wp2_with (with_reducible show wpList _ _ _ (_ :: _) _ _; refine wpList_ss rfl rfl _ _ rfl w.heap.size ⟨#[67, 86, 79, 49]⟩ 1 2 3 (some ⟨gp, 0, none⟩) 3 3 rfl rfl _ _ _ _ _ (by with_reducible exact M3.out) ?_)
  clear q0 q1 q2 q3 q4 M3
  generalize w3.setRow w.heap.size #[.string ⟨#[67, 86, 79, 49]⟩, .int .i64 1, .int .i64 2, .int .i64 3, .slice (some ⟨gp, 0, none⟩) 3 3] = w3' at *
  refine (put_y ⟨#[67, 86, 79, 49]⟩ 1 2 3 (some ⟨gp, 0, none⟩) 3 3 [97, 98, 99] _ TT.out YY.out pl_mayn).mono ?_
  rintro x4 w4 ⟨gb, rfl, hgb, r4, g4⟩
  have B4 := hid (bel_bel BB.out BB.out.size g4)
  have T4 := hid (TT.out.bel g4)
  have M4 := hid (MM.out.kept g4)
  have hlt4 := MM.out.lt
  have hgw : w.heap.size < gb := by omega
  replace r4 : Row w4 gb (ps pl) := r4
  have hl := HPL.out
  obtain ⟨k, hk, ek⟩ := place at_ 512 (by omega) (by omega)
  have hkn : k < 512 := by omega
  have hc4 := r4.cell k (by omega)
  have hf := r4.unfrozen k
  have i4 : (k : Int) < 512 := hk
  have i5 : ¬ (k : Int) < 0 := by omega
  have hzb := getD_byte HPB.out k
  have ex : bits .xor .u8 ((ps pl).getD k 0) 1 = ((((ps pl).getD k 0).toNat ^^^ (1 : Int).toNat : Nat) : Int) := xor_u8 hzb (by omega)
  have HX := hid (xor_lt8 hzb (show 0 ≤ (1 : Int) ∧ (1 : Int) ≤ 255 by omega))
  have HS := hid (r4.set k ((((ps pl).getD k 0).toNat ^^^ (1 : Int).toNat : Nat) : Int))
  have HG : Hid (gs ((ps pl).set k ((((ps pl).getD k 0).toNat ^^^ (1 : Int).toNat : Nat) : Int)) = none) := turned HPM.out HPY.out hkn (by omega) (by omega)
  have HY2 := hid (byte_set HPB.out k _ HX.out)
  have HL2 : Hid (((ps pl).set k ((((ps pl).getD k 0).toNat ^^^ (1 : Int).toNat : Nat) : Int)).length = 512) := by show _ = _; rw [List.length_set]; exact hl
  generalize (ps pl).set k ((((ps pl).getD k 0).toNat ^^^ (1 : Int).toNat : Nat) : Int) = R at *
  generalize ((((ps pl).getD k 0).toNat ^^^ (1 : Int).toNat : Nat) : Int) = v at *
  generalize (ps pl).getD k 0 = z at *
  clear HX hzb r4 hl BB TT MM YY g4
  go_wp2_with (go_at_call 9; refine (num_ _ _).mono ?_; rintro xn wn ⟨rfl, hw⟩; obtain rfl := hw.symm)
  have B5 : Below w.heap.size w (w4.setCell ⟨gb, k, none⟩ (.int .u8 v)) := B4.out.setCell (p := ⟨gb, k, none⟩) (Nat.le_of_lt hgw) _
  have T5 : Tab (w4.setCell ⟨gb, k, none⟩ (.int .u8 v)) := tab_grown T4.out (by exact grow_cell w4 gb k _) (by omega)
  have M5 := M4.out.at (w' := w4.setCell ⟨gb, k, none⟩ (.int .u8 v)) (Below.heap_setCell _ _ _ _ (Nat.ne_of_lt hgw))
  have P5 := hid ((HS.out.bs HY2.out).len HL2.out)
  clear HS B4 T4 M4 hc4 hf ek ex
  generalize w4.setCell ⟨gb, k, none⟩ (.int .u8 v) = w5 at *
  refine (get_n (some ⟨gb, 0, none⟩) 512 512 R w5 T5 P5.out (Nat.le_refl _) (by unfold maxLen; omega) HG.out).mono ?_
  rintro x6 w6 ⟨rfl, g6⟩
  have A6 : Below w6.heap.size w6 (w6.alloc (.cells #[.string ⟨#[]⟩, .int .i64 0, .int .i64 0, .int .i64 0, .slice none 0 0] 24)) := (Below.refl _ _).alloc (Nat.le_refl _) _
  have B6 := hid (bel_bel (bel_bel B5 B5.size g6) (bel_bel B5 B5.size g6).size A6)
  have T6 := hid ((T5.bel g6).bel A6)
  have m6 := (M5.kept g6).kept A6
  have P6 := hid ((P5.out.below g6).below A6)
  have d0 := m6.c0
  have d1 := m6.c1
  have d2 := m6.c2
  have d3 := m6.c3
  have M6 := hid m6
  clear m6 A6 g6 B5 T5 M5 P5
  go_wp2_with fail
  refine (right_n ⟨#[67, 86, 79, 49]⟩ 1 2 3 (some ⟨gb, 0, none⟩) 512 512 R _ T6.out P6.out (Nat.le_refl _) (by unfold maxLen; omega) (rt_none HG.out _ _ _ _)).mono ?_
  rintro x7 w7 ⟨rfl, g7⟩
  have B7 := hid (bel_bel B6.out B6.out.size g7)
  have T7 := hid (T6.out.bel g7)
  have P7 := hid (P6.out.below g7)
  clear d0 d1 d2 d3 M6 B6 T6 P6 g7
  go_wp2_with fail
  refine (refGet_n (some ⟨gb, 0, none⟩) 512 512 R _ P7.out (Nat.le_refl _) (by unfold maxLen; omega) HG.out).mono ?_
  rintro x8 w8 ⟨rfl, g8⟩
  have A8 : Below w8.heap.size w8 (w8.alloc (.cells #[.string ⟨#[]⟩, .int .i64 0, .int .i64 0, .int .i64 0, .slice none 0 0] 24)) := (Below.refl _ _).alloc (Nat.le_refl _) _
  have B8 := hid (bel_bel (bel_bel B7.out B7.out.size g8) (bel_bel B7.out B7.out.size g8).size A8)
  have T8 := hid ((T7.out.bel g8).bel A8)
  have P8 := hid ((P7.out.below g8).below A8)
  have m8 := Sm.new w8 ⟨#[]⟩ 0 0 0 (.slice none 0 0)
  have f0 := m8.c0
  have f1 := m8.c1
  have f2 := m8.c2
  have f3 := m8.c3
  clear m8 A8 g8 B7 T7 P7
  go_wp2_with fail
  refine (right_n ⟨#[]⟩ 0 0 0 (some ⟨gb, 0, none⟩) 512 512 R _ T8.out P8.out (Nat.le_refl _) (by unfold maxLen; omega) (rt_none HG.out _ _ _ _)).mono ?_
  rintro x9 w9 ⟨rfl, g9⟩
  have B9 := bel_bel B8.out B8.out.size g9
  clear f0 f1 f2 f3 B8 T8 P8 g9
  go_wp2_with (go_at_call 9; refine (num_ _ _).mono ?_; rintro xn wn ⟨rfl, hw⟩; obtain rfl := hw.symm)
  go_ret
  exact ⟨rfl, B9⟩
theorem sectorTurned_ (s : Sec) (a : Option Addr) (n c : Nat) (at_ x : Int) (w : World) (hT : Tab w) (hb : Bs w a n s.l) (hat : -9223372036854775808 ≤ at_ ∧ at_ ≤ 9223372036854775807) (hx : 0 ≤ x ∧ x ≤ 255) :
    Calls Tryd.prog 3 #[.agg #[.string s.T, .int .i64 s.e, .int .i64 s.q, .int .i64 s.p, .slice a n c], .int .i64 at_, .int .u8 x] w fun en w' => en = .returned (.bool true) ∧ Below w.heap.size w w' := by
  by_cases h : May s
  · by_cases h0 : x = 0
    · subst h0; exact trn_3 s a n c at_ w hT hb hat h
    · exact trn_1 s a n c at_ x w hT hb hat hx h h0
  · exact trn_2 s a n c at_ x w hT hb hat hx h
end Go.Proofs.YtfmdnfbcfhojpabDoor
