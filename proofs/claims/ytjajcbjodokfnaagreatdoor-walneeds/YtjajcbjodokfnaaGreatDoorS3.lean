import Derived.Test.YtjajcbjodokfnaaGreatDoorS2
import Derived.Deep.RegionHeld
namespace Go.Proofs.YtjajcbjodokfnaaGreatDoor
set_option maxRecDepth 100000
open Go.RowKit
set_option linter.unusedVariables false

theorem spl_mid {A B C Y : List Int} {off : Nat} (hA : A.length = off) (hB : B.length = Y.length) : splice (A ++ (B ++ C)) off Y = A ++ (Y ++ C) := by
  subst hA
  unfold splice
  rw [List.take_left' rfl, ← hB, ← List.append_assoc A B C, List.drop_left' (by rw [List.length_append])]
/-- What the row of Put holds, step by step. -/
def pr0 (s : Sec) : List Int := List.replicate 512 0
def pr1 (s : Sec) : List Int := splice (pr0 s) 0 (tb s.T)
def pr2 (s : Sec) : List Int := splice (pr1 s) 4 (be 8 s.e)
def pr3 (s : Sec) : List Int := splice (pr2 s) 12 (be 8 s.q)
def pr4 (s : Sec) : List Int := splice (pr3 s) 20 (be 4 s.p)
def pr5 (s : Sec) : List Int := splice (pr4 s) 24 (be 2 s.l.length)
def pr6 (s : Sec) : List Int := splice (pr5 s) 28 s.l
def zr (n : Nat) : List Int := List.replicate n 0
theorem zr_length (n : Nat) : (zr n).length = n := by simp [zr]
theorem zr_add (m n : Nat) : zr (m + n) = zr m ++ zr n := by simp [zr]
theorem pr_all {s : Sec} (h : May s) : ((pr0 s).length = 512 ∧ (pr1 s).length = 512 ∧ (pr2 s).length = 512 ∧ (pr3 s).length = 512 ∧ (pr4 s).length = 512 ∧ (pr5 s).length = 512 ∧ (pr6 s).length = 512) ∧ pr6 s = hd s ++ zr 4 := by
  have hT : (tb s.T).length = 4 := by rw [tb_length]; exact isT_size h.1
  have hl := h.2.2.2.2
  have L := fun j x => be_length j x
  generalize hx : s.l.length = n at hl
  have e0 : pr0 s = zr 4 ++ (zr 8 ++ (zr 8 ++ (zr 4 ++ (zr 2 ++ (zr 2 ++ (zr n ++ (zr (480 - n) ++ zr 4))))))) := by
    rw [← zr_add, ← zr_add, ← zr_add, ← zr_add, ← zr_add, ← zr_add, ← zr_add, ← zr_add]
    show zr 512 = _
    congr 1
    omega
  have e1 : pr1 s = tb s.T ++ (zr 8 ++ (zr 8 ++ (zr 4 ++ (zr 2 ++ (zr 2 ++ (zr n ++ (zr (480 - n) ++ zr 4))))))) := by
    show splice (pr0 s) 0 (tb s.T) = _
    rw [e0]; exact spl_mid (A := []) (B := zr 4) rfl (by rw [hT]; rfl)
  have e2 : pr2 s = tb s.T ++ (be 8 s.e ++ (zr 8 ++ (zr 4 ++ (zr 2 ++ (zr 2 ++ (zr n ++ (zr (480 - n) ++ zr 4))))))) := by
    show splice (pr1 s) 4 (be 8 s.e) = _
    rw [e1]; exact spl_mid hT (by rw [L]; rfl)
  have e3 : pr3 s = tb s.T ++ (be 8 s.e ++ (be 8 s.q ++ (zr 4 ++ (zr 2 ++ (zr 2 ++ (zr n ++ (zr (480 - n) ++ zr 4))))))) := by
    show splice (pr2 s) 12 (be 8 s.q) = _
    rw [e2, ← List.append_assoc (tb s.T), spl_mid (by simp only [List.length_append, hT, L]) (by rw [L]; rfl), List.append_assoc]
  have e4 : pr4 s = tb s.T ++ (be 8 s.e ++ (be 8 s.q ++ (be 4 s.p ++ (zr 2 ++ (zr 2 ++ (zr n ++ (zr (480 - n) ++ zr 4))))))) := by
    show splice (pr3 s) 20 (be 4 s.p) = _
    rw [e3, ← List.append_assoc (tb s.T), ← List.append_assoc (tb s.T ++ _), spl_mid (by simp only [List.length_append, hT, L]) (by rw [L]; rfl)]
    simp only [List.append_assoc]
  have e5 : pr5 s = tb s.T ++ (be 8 s.e ++ (be 8 s.q ++ (be 4 s.p ++ (be 2 n ++ (zr 2 ++ (zr n ++ (zr (480 - n) ++ zr 4))))))) := by
    show splice (pr4 s) 24 (be 2 s.l.length) = _
    rw [e4, hx, ← List.append_assoc (tb s.T), ← List.append_assoc (tb s.T ++ _), ← List.append_assoc (tb s.T ++ _ ++ _), spl_mid (by simp only [List.length_append, hT, L]) (by rw [L]; rfl)]
    simp only [List.append_assoc]
  have e6 : pr6 s = tb s.T ++ (be 8 s.e ++ (be 8 s.q ++ (be 4 s.p ++ (be 2 n ++ (zr 2 ++ (s.l ++ (zr (480 - n) ++ zr 4))))))) := by
    show splice (pr5 s) 28 s.l = _
    rw [e5, ← List.append_assoc (tb s.T), ← List.append_assoc (tb s.T ++ _), ← List.append_assoc (tb s.T ++ _ ++ _), ← List.append_assoc (tb s.T ++ _ ++ _ ++ _), ← List.append_assoc (tb s.T ++ _ ++ _ ++ _ ++ _), spl_mid (by simp only [List.length_append, hT, L, zr_length]) (by rw [hx, zr_length])]
    simp only [List.append_assoc]
  refine ⟨?_, ?_⟩
  · refine ⟨?_, ?_, ?_, ?_, ?_, ?_, ?_⟩
    · rw [e0]; simp only [List.length_append, zr_length]; omega
    · rw [e1]; simp only [List.length_append, hT, zr_length]; omega
    · rw [e2]; simp only [List.length_append, hT, L, zr_length]; omega
    · rw [e3]; simp only [List.length_append, hT, L, zr_length]; omega
    · rw [e4]; simp only [List.length_append, hT, L, zr_length]; omega
    · rw [e5]; simp only [List.length_append, hT, L, zr_length]; omega
    · rw [e6]; simp only [List.length_append, hT, L, zr_length, hx]; omega
  · rw [e6]
    simp only [hd, hx, List.append_assoc]
    rfl
theorem pr_end {s : Sec} (h : May s) : (pr6 s).take 508 = hd s ∧ splice (pr6 s) 508 (be 4 (updc 0 (hd s))) = ps s := by
  have hl := hd_length h
  rw [(pr_all h).2]
  refine ⟨List.take_left' hl, ?_⟩
  have := spl_mid (A := hd s) (B := zr 4) (C := []) (Y := be 4 (updc 0 (hd s))) hl (by rw [be_length]; rfl)
  simp only [List.append_nil] at this
  rw [this]
  rfl

theorem sm_grown {w w' : World} {g : Nat} {T : ByteArray} {e q p : Int} {v : Value} {r : Option Nat} (h : Sm w g T e q p v) (hb : w.grownBy w' r) (hr : some g ≠ r) : Sm w' g T e q p v := h.at (hb.block g h.lt hr)
theorem row_sum {w : World} {g : Nat} {zs : List Int} (hr : Row w g zs) (hl : zs.length = 512) (hy : By zs) : Bs w (some ⟨g, 0, none⟩) 508 (zs.take 508) := by
  refine ⟨by simp; omega, hy.take 508, .inr ⟨g, 0, rfl, fun i hi => ?_⟩⟩
  rw [Nat.zero_add, hr.cell i (by omega)]
  simp only [List.getD, List.getElem?_take, if_pos hi]
theorem bel_some {B g : Nat} {a b c : World} (h : Below B a b) (hB : B ≤ b.heap.size) (hg : b.grownBy c (some g)) (hgB : B ≤ g) : Below B a c :=
  h.trans ⟨hg.os, hg.tape, hg.output, hg.size, fun k hk => hg.block k (by omega) (by simp; omega)⟩
theorem tab_grown {w w' : World} {g : Nat} (h : Tab w) (hb : w.grownBy w' (some g)) (hg : 0 < g) : Tab w' :=
  ⟨Nat.lt_of_lt_of_le h.1 hb.size, fun i hi => hb.cell (h.2 i hi) (by simp; omega)⟩

set_option maxHeartbeats 4000000 in
theorem put_n (T : ByteArray) (e q p : Int) (a : Option Addr) (n c : Nat) (w : World) (h : ¬ MayN T e q p n) :
    Calls Tryz.prog 138 #[.agg #[.string T, .int .i64 e, .int .i64 q, .int .i64 p, .slice a n c]] w fun en w' => en = .returned (.tuple #[.slice none 0 0, .int .i64 117]) ∧ Below w.heap.size w w' := by
  have m0 := Sm.new w T e q p (.slice a n c)
  have B0 := snew w T e q p (.slice a n c)
  go_enter Tryz.func138, Tryz.ntmps138
  go_wp2_with fail
  refine (mayBe_n T e q p a n c _ h).mono ?_
  rintro e1 w1 ⟨rfl, g1⟩
  replace B0 := bel_bel B0 B0.size g1
  go_wp2
  go_ret2
  exact ⟨rfl, B0⟩

set_option maxHeartbeats 8000000 in
theorem put_y (T : ByteArray) (e q p : Int) (a : Option Addr) (n c : Nat) (l : List Int) (w : World) (hT : Tab w) (hb : Bs w a n l) (h : MayN T e q p n) :
    Calls Tryz.prog 138 #[.agg #[.string T, .int .i64 e, .int .i64 q, .int .i64 p, .slice a n c]] w fun en w' => ∃ g, en = .returned (.tuple #[.slice (some ⟨g, 0, none⟩) 512 512, .int .i64 0]) ∧ w.heap.size ≤ g ∧ Row w' g (ps ⟨T, e, q, p, l⟩) ∧ Below w.heap.size w w' := by
  obtain ⟨i, hi, hz0, hz1, hz2⟩ := info_parts info5
  have m0 := Sm.new w T e q p (.slice a n c)
  have B0 := snew w T e q p (.slice a n c)
  have hM : May ⟨T, e, q, p, l⟩ := (may_n hb.1).2 h
  have HA := hid (pr_all hM)
  have HE := hid (pr_end hM)
  have HBY : Hid (By (ps ⟨T, e, q, p, l⟩)) := ps_by hb.2.1
  have HB := hid hb
  have HTB := hid hT
  have hTz := isT_size h.1
  obtain ⟨_, ⟨e0, e1⟩, ⟨q0, q1⟩, ⟨p0, p1⟩, n1⟩ := id h
  have hln := hb.1
  generalize hs : (⟨T, e, q, p, l⟩ : Sec) = s at *
  have S0 : Hid (s.T = T ∧ s.e = e ∧ s.q = q ∧ s.p = p ∧ s.l = l) := by subst hs; exact ⟨rfl, rfl, rfl, rfl, rfl⟩
  clear hs hT hb
  go_enter Tryz.func138, Tryz.ntmps138
  go_wp2_with fail
  refine (mayBe_y T e q p a n c _ h).mono ?_
  rintro x1 w1 ⟨rfl, g1⟩
  replace m0 := m0.kept g1
  replace B0 := bel_bel B0 B0.size g1
  clear g1
  go_wp2_with (at_make; refine wpList_make_full _ rfl _ _ 33 rfl 0 5 i (.int .u8 0) 1 Tryz.underlying33 hi hz0 hz1 .i64 .i64 _ _ 512 rfl rfl (by omega) (by omega) (by rw [hz2]; omega) (by unfold maxLen; omega) (by omega) ?_; intro w2 hown hg2; have r0 := row_of_own ((made_zeros 512) ▸ hown); clear hown)
  have hg1 := m0.lt
  have hz2 := hg2.size
  have G0 : Hid (w.heap.size ≤ w1.heap.size) := B0.size
  have r0' := r0.lt
  have hB2 : Below w.heap.size w w2 := bel_grow B0 B0.size hg2
  replace m0 := sm_grown m0 hg2 (by simp)
  clear B0 hg2 hi hz0 hz1
  generalize hg : w1.heap.size = g at *
  refine (cut_ g 0 512 w2 (by omega) (by unfold maxLen; omega)).mono ?_
  rintro x3 w3 ⟨rfl, g3⟩
  simp only [fv, Nat.zero_add]
  replace m0 := m0.kept g3
  replace r0 : Row w3 g (pr0 s) := r0.kept (grown_of_below g3) (by simp)
  replace hB2 := bel_bel hB2 hB2.size g3
  have r0' := r0.lt
  clear g3
  --WALK
  have f0 := fm_new w3 g 0
  simp only [fv, Nat.zero_add] at f0
  replace r0 : Row (w3.alloc (.cells #[.slice (some ⟨g, 0, none⟩) 4 4, .slice (some ⟨g, 4, none⟩) 8 8, .slice (some ⟨g, 12, none⟩) 8 8, .slice (some ⟨g, 20, none⟩) 4 4, .slice (some ⟨g, 24, none⟩) 2 2, .slice (some ⟨g, 28, none⟩) 480 480, .slice (some ⟨g, 0, none⟩) 508 508, .slice (some ⟨g, 508, none⟩) 4 4] 198)) g (pr0 s) := r0.kept (r := none) (World.grownBy_alloc w3 _ _) (by simp)
  replace m0 := m0.alloc (.cells #[.slice (some ⟨g, 0, none⟩) 4 4, .slice (some ⟨g, 4, none⟩) 8 8, .slice (some ⟨g, 12, none⟩) 8 8, .slice (some ⟨g, 20, none⟩) 4 4, .slice (some ⟨g, 24, none⟩) 2 2, .slice (some ⟨g, 28, none⟩) 480 480, .slice (some ⟨g, 0, none⟩) 508 508, .slice (some ⟨g, 508, none⟩) 4 4] 198)
  replace hB2 := hB2.alloc hB2.size (.cells #[.slice (some ⟨g, 0, none⟩) 4 4, .slice (some ⟨g, 4, none⟩) 8 8, .slice (some ⟨g, 12, none⟩) 8 8, .slice (some ⟨g, 20, none⟩) 4 4, .slice (some ⟨g, 24, none⟩) 2 2, .slice (some ⟨g, 28, none⟩) 480 480, .slice (some ⟨g, 0, none⟩) 508 508, .slice (some ⟨g, 508, none⟩) 4 4] 198)
  have d0 := m0.c0
  have x0 := f0.c0
  have F0 := hid f0
  have M0 := hid m0
  have R0 := hid r0
  have BB := hid hB2
  clear f0 m0 r0 hB2
  have hfne : ¬ w3.heap.size = g := by omega
  have hmne : ¬ w.heap.size = g := by omega
  have hmlt : w.heap.size < w3.heap.size := by omega
  go_wp2_with (refine wpList_cpt rfl (.tmp 13) (.tmp 15) rfl g 0 4 4 T rfl rfl (pr0 s) R0.out (by omega) (by have := HA.out.1.1; omega) ?_; intro w4 r4 g4; have m4 := sm_grown M0.out g4 (by simp; omega); have f4 := F0.out.grown g4 (by simp; omega); have d := m4.c1; have x := f4.c1; simp only [Nat.zero_add] at x)
  generalize hf : w3.heap.size = f at *
  have hgw : w.heap.size ≤ g := by omega
  have hg0 : 0 < g := by have := HTB.out.1; omega
  replace r4 : Row w4 g (pr1 s) := by have e := S0.out.1; unfold pr1; rw [e]; exact r4
  have b4 := bel_some BB.out BB.out.size g4 hgw
  clear F0 M0 R0 BB d0 x0 g4
  have M := hid m4
  have F := hid f4
  have R := hid r4
  have B := hid b4
  clear m4 f4 r4 b4
  refine (lay64_ g 4 8 (pr1 s) e w4 R.out (by have := HA.out.1; omega) (by omega) (by omega)).mono ?_
  rintro y w5 ⟨rfl, r5, g5⟩
  replace r5 : Row w5 g (pr2 s) := by have e := S0.out.2.1; unfold pr2; rw [e]; exact r5
  have m5 := sm_grown M.out g5 (by simp; omega)
  have f5 := F.out.grown g5 (by simp; omega)
  have b5 := bel_some B.out B.out.size g5 hgw
  clear d x M F R B g5
  have d := m5.c2
  have x := f5.c2
  simp only [Nat.zero_add] at x
  have M := hid m5
  have F := hid f5
  have R := hid r5
  have B := hid b5
  clear m5 f5 r5 b5
  go_wp2_with fail
  refine (lay64_ g 12 8 (pr2 s) q w5 R.out (by have := HA.out.1; omega) (by omega) (by omega)).mono ?_
  rintro y w6 ⟨rfl, r6, g6⟩
  replace r6 : Row w6 g (pr3 s) := by have e := S0.out.2.2.1; unfold pr3; rw [e]; exact r6
  have m6 := sm_grown M.out g6 (by simp; omega)
  have f6 := F.out.grown g6 (by simp; omega)
  have b6 := bel_some B.out B.out.size g6 hgw
  clear d x M F R B g6
  have d := m6.c3
  have x := f6.c3
  simp only [Nat.zero_add] at x
  have M := hid m6
  have F := hid f6
  have R := hid r6
  have B := hid b6
  clear m6 f6 r6 b6
  go_wp2_with fail
  refine (lay32_ g 20 4 (pr3 s) p w6 R.out (by have := HA.out.1; omega) (by omega) (by omega)).mono ?_
  rintro y w7 ⟨rfl, r7, g7⟩
  replace r7 : Row w7 g (pr4 s) := by have e := S0.out.2.2.2.1; unfold pr4; rw [e]; exact r7
  have m7 := sm_grown M.out g7 (by simp; omega)
  have f7 := F.out.grown g7 (by simp; omega)
  have b7 := bel_some B.out B.out.size g7 hgw
  clear d x M F R B g7
  have d := m7.c4
  have x := f7.c4
  simp only [Nat.zero_add] at x
  have M := hid m7
  have F := hid f7
  have R := hid r7
  have B := hid b7
  clear m7 f7 r7 b7
  go_wp2_with fail
  refine (lay16_ g 24 2 (pr4 s) (n : Int) w7 R.out (by have := HA.out.1; omega) (by omega) (by omega)).mono ?_
  rintro y w8 ⟨rfl, r8, g8⟩
  replace r8 : Row w8 g (pr5 s) := by have e := S0.out.2.2.2.2; unfold pr5; rw [e, hln]; exact r8
  have m8 := sm_grown M.out g8 (by simp; omega)
  have f8 := F.out.grown g8 (by simp; omega)
  have b8 := bel_some B.out B.out.size g8 hgw
  clear d x M F R B g8
  have d := m8.c4
  have x := f8.c5
  simp only [Nat.zero_add] at x
  have M := hid m8
  have F := hid f8
  have R := hid r8
  have B := hid b8
  have Y : Hid (Bs w8 a n l) := HB.out.below b8
  clear m8 f8 r8 b8
  have hmin : Nat.min n 480 = n := Nat.min_eq_left n1
  go_wp2_with (refine wpList_cp rfl (.tmp 43) (.tmp 45) rfl g 28 480 480 a n c rfl rfl (pr5 s) l R.out Y.out n hmin (by have := HA.out.1; omega) ?_; intro w9 r9 g9)
  replace r9 : Row w9 g (pr6 s) := by
    have e := S0.out.2.2.2.2
    rw [List.take_of_length_le (by rw [hln]; exact Nat.le_refl _)] at r9
    unfold pr6; rw [e]; exact r9
  have f9 := F.out.grown g9 (by simp; omega)
  have b9 := bel_some B.out B.out.size g9 hgw
  clear d x M F R B Y g9
  have x6 := f9.c6
  have x7 := f9.c7
  simp only [Nat.zero_add] at x6 x7
  have T9 : Hid (Tab w9) := HTB.out.bel b9
  have hy6 : By (pr6 s) := by
    rw [HA.out.2]
    exact By.app (fun z hz => HBY.out z (List.mem_append_left _ hz)) (By.zeros 4)
  have U9 : Hid (Bs w9 (some ⟨g, 0, none⟩) 508 (hd s)) := by
    have := row_sum r9 HA.out.1.2.2.2.2.2.2 hy6
    rw [HE.out.1] at this
    exact this
  have HU : Hid (updc 0 (hd s) < 4294967296) := sum_lt (by have e := S0.out.2.2.2.2; rw [e]; exact HB.out.2.1)
  have R9 := hid r9
  have B9 := hid b9
  have flt := f9.lt
  have hsum := fun wx (hx : Drawn w9 wx) => sum_ (some ⟨g, 0, none⟩) 508 508 (hd s) wx (T9.out.drawn hx) (U9.out.drawn hx) (by unfold maxLen; omega)
  have hlay := fun wx (hx : Drawn w9 wx) => lay32_ g 508 4 (pr6 s) (updc 0 (hd s) : Nat) wx (by unfold Row; rw [hx.heap]; exact R9.out) (by have := HA.out.1; omega) (by omega) (by have := HU.out; omega)
  clear r9 f9 b9 hy6
  --REG
  go_region_held (fun wx => wx.cell? ⟨f, 6, none⟩ = some (.slice (some ⟨g, 0, none⟩) 508 508) ∧ wx.cell? ⟨f, 7, none⟩ = some (.slice (some ⟨g, 508, none⟩) 4 4)) (go_keep) (first | (go_at_call 123; refine (hsum _ (by exact ⟨rfl, rfl, rfl, rfl⟩)).mono ?_; rintro y wx ⟨rfl, hw⟩; obtain rfl := hw.symm) | (go_at_call 163; refine (hlay _ (by exact ⟨rfl, rfl, rfl, rfl⟩)).mono ?_; rintro y wz ⟨rfl, rz, gz⟩; have y6 : wz.cell? ⟨f, 6, none⟩ = some (.slice (some ⟨g, 0, none⟩) 508 508) := gz.cell (by exact x6) (by simp; omega); have y7 : wz.cell? ⟨f, 7, none⟩ = some (.slice (some ⟨g, 508, none⟩) 4 4) := gz.cell (by exact x7) (by simp; omega)))
  have BZ : Below w.heap.size w wz := bel_some (b := w9.drew) ⟨B9.out.os, B9.out.tape, B9.out.output, B9.out.size, B9.out.block⟩ B9.out.size gz hgw
  have RZ : Hid (Row wz g (ps s)) := by
    have e := HE.out.2
    rw [← e]
    exact rz
  clear y6 y7 rz gz x6 x7
  go_wp2
  go_ret2
  exact ⟨g, rfl, hgw, RZ.out, BZ⟩
end Go.Proofs.YtjajcbjodokfnaaGreatDoor
