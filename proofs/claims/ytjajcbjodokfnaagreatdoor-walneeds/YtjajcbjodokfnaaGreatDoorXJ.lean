import Derived.Test.YtjajcbjodokfnaaGreatDoorXI
namespace Go.Proofs.YtjajcbjodokfnaaGreatDoor
set_option maxRecDepth 100000
open Go.RowKit Go.Shelf
set_option linter.unusedVariables false
set_option linter.unusedSimpArgs false

theorem bel_set {B b i : Nat} {w0 w : World} (h : Below B w0 w) (hb : B ≤ b) (v : Value) : Below B w0 (w.setCell ⟨b, i, none⟩ v) := h.setCell (p := ⟨b, i, none⟩) hb v
theorem own_set {w : World} {B n r i sz : Nat} {t : TypeId} {v x : Value} {xs : List Value} (h : w.ownsRow B t sz v n xs) (hr : ∀ g, v.ownBlock = some g → g ≠ r) : (w.setCell ⟨r, i, none⟩ x).ownsRow B t sz v n xs := own_at' h (fun g e => Below.heap_setCell _ _ _ _ (fun q => hr g e q))
theorem own_bel12 {w w' : World} {B n sz : Nat} {t : TypeId} {v : Value} {xs : List Value} (h : w.ownsRow B t sz v n xs) (hb : Below w.heap.size w w') : w'.ownsRow B t sz v n xs := own_at' h (fun g e => hb.block g (h.lt g e).2)
/-- A block of a row is no block of bytes. -/
theorem Ym.own {w : World} {r k n B : Nat} {v x : Value} {b : Bool} {xs : List Value} (h : Ym w r k v b) (ho : w.ownsRow B 5 1 x n xs) : ∀ g, x.ownBlock = some g → g ≠ r := fun g e q => by
  obtain ⟨cur, hc⟩ := own_ty ho e
  subst q
  unfold Ym at h
  rw [h] at hc
  simp at hc
section
variable {w : World} {r k B n : Nat} {a : Option Addr} {c : Nat} {b : Bool} {tx : List Int}
set_option maxHeartbeats 4000000 in
theorem add_none (h : Ym w r k (.slice a n c) b) (ho : w.ownsRow B 5 1 (.slice a n c) n (cells tx)) (hB : B ≤ r) (hk : k ≤ 100) (T : ByteArray) (hT : T ≠ t4 ∧ T ≠ t2 ∧ T ≠ t3) (v : Value) :
    Calls Tryz.prog 130 #[.pointer (some ⟨r, 0, none⟩), .string T, v] w fun en w' => en = .returned (.bool false) ∧ Below B w w' := by
  have q4 : (T.toList == [67, 86, 79, 49]) = false := tl_no (t := t4) rfl hT.1
  have q2 : (T.toList == [67, 86, 68, 49]) = false := tl_no (t := t2) rfl hT.2.1
  have q3 : (T.toList == [67, 86, 67, 49]) = false := tl_no (t := t3) rfl hT.2.2
  have c0 := h.c0
  have f0 := h.fz 0
  have HB := hid (bel_set (Below.refl B w) hB (i := 0) (.int .i64 ((k : Int) + 1)))
  clear h ho hT
  go_enter Tryz.func130, Tryz.ntmps130
  go_wp2_with fail
  go_ret
  exact ⟨rfl, HB.out⟩
set_option maxHeartbeats 4000000 in
theorem add_one (h : Ym w r k (.slice a n c) b) (hB : B ≤ r) (hk : k ≤ 100) (ab : Option Addr) (m cb : Nat) (l : List Int) (hb : w.ownsRow B 5 1 (.slice ab m cb) m (cells l)) :
    Calls Tryz.prog 130 #[.pointer (some ⟨r, 0, none⟩), .string t4, .slice ab m cb] w fun en w' => en = .returned (.bool (decide (k = 0) && decide (0 < m))) ∧ Ym w' r (k + 1) (.slice ab m cb) true ∧ w'.ownsRow B 5 1 (.slice ab m cb) m (cells l) ∧ Below B w w' := by
  have q4 : ((t4).toList == [67, 86, 79, 49]) = true := tl_yes rfl
  have hne := h.own hb
  have c0 := h.c0
  have c1 := h.c1
  have f1 := h.fz 1
  have h1 := h.s1 (.slice ab m cb)
  have c2 := h1.c2
  have f2 := h1.fz 2
  have h2 := h1.s2 true
  have d0 := h2.c0
  have f0 := h2.fz 0
  obtain ⟨K1, HK1⟩ : ∃ K1, Hid (k + 1 = K1) := ⟨_, rfl⟩
  have e1 : (k : Int) + 1 = (K1 : Int) := by have := HK1.out; omega
  have H3 := hid (h2.s0 K1)
  have HO := hid (own_set (i := 0) (x := .int .i64 K1) (own_set (i := 2) (x := .bool true) (own_set (i := 1) (x := .slice ab m cb) hb hne) hne) hne)
  have HB := hid (bel_set (i := 0) (bel_set (i := 2) (bel_set (i := 1) (Below.refl B w) hB (.slice ab m cb)) hB (.bool true)) hB (.int .i64 K1))
  rw [HK1.out]
  clear h h1 h2 hb hne
  generalize t4 = T at *
  by_cases hk0 : k = 0
  · have hkb : ((k : Int) == 0) = true := by simp; omega
    rw [decide_eq_true hk0, Bool.true_and]
    clear hk0
    go_enter Tryz.func130, Tryz.ntmps130
    go_wp2_with fail
    go_ret
    exact ⟨rfl, H3.out, HO.out, HB.out⟩
  · have hkb : ((k : Int) == 0) = false := by simp; omega
    rw [decide_eq_false hk0, Bool.false_and]
    go_enter Tryz.func130, Tryz.ntmps130
    go_wp2_with fail
    go_ret
    exact ⟨rfl, H3.out, HO.out, HB.out⟩
set_option maxHeartbeats 4000000 in
theorem add_piece (h : Ym w r k (.slice a n c) b) (ho : w.ownsRow B 5 1 (.slice a n c) n (cells tx)) (hB : B ≤ r) (hBw : B ≤ w.heap.size) (hk : k ≤ 100) (hn : n ≤ 100000) (ad : Addr) (m cb : Nat) (l : List Int) (hb : Bs w (some ad) m l) (hm : m ≤ 100000) :
    Calls Tryz.prog 130 #[.pointer (some ⟨r, 0, none⟩), .string t2, .slice (some ad) m cb] w fun en w' => en = .returned (.bool (tkp k n m)) ∧ ∃ a' c', Ym w' r (k + 1) (.slice a' (n + m) c') b ∧ w'.ownsRow B 5 1 (.slice a' (n + m) c') (n + m) (cells (tx ++ l)) ∧ Below B w w' := by
  obtain ⟨i5, hi5, hz0, hz1, hz2⟩ := info_parts info5
  have q4 : ((t2).toList == [67, 86, 79, 49]) = false := tl_no (t := t4) rfl (by decide)
  have q2 : ((t2).toList == [67, 86, 68, 49]) = true := tl_yes rfl
  have kt := takes_ r k a n c b (some ad) m cb w h hk (by omega) (by omega)
  obtain ⟨t, Ht⟩ : ∃ t, Hid (tkp k n m = t) := ⟨_, rfl⟩
  rw [Ht.out] at kt ⊢
  obtain ⟨K1, HK1⟩ : ∃ K1, Hid (k + 1 = K1) := ⟨_, rfl⟩
  have e1 : (k : Int) + 1 = (K1 : Int) := by have := HK1.out; omega
  rw [HK1.out]
  have HY := hid h
  have HO := hid ho
  have HBB := hid hb
  clear h ho hb
  generalize t2 = T at *
  go_enter Tryz.func130, Tryz.ntmps130
  go_wp2_with fail
  refine kt.mono ?_
  rintro en w1 ⟨rfl, d1⟩
  have Y1 := HY.out.below d1.below
  have O1 : w1.ownsRow B 5 1 (.slice a n c) n (cells tx) := own_at' HO.out (fun g e => by rw [d1.heap])
  have b1 := HBB.out.below d1.below
  have hs1 : w1.heap.size = w.heap.size := by rw [d1.heap]
  have c1 := Y1.c1
  have HD1 : Hid (Below B w w1) := ⟨d1.os, d1.tape, d1.output, by omega, fun k _ => by rw [d1.heap]⟩
  have HY1 := hid Y1
  have HO1 := hid O1
  have HB1 := hid b1
  clear kt d1 Y1 O1 b1
  go_wp2_with (at_builtin; refine wpList_append_own _ rfl _ _ 33 rfl B 5 i5 (.int .u8 0) 1 1 Tryz.underlying33 hi5 hz0 hz1 hz2 rfl (by decide) (.slice a n c) n (cells tx) rfl (by exact HO1.out) ad m cb (cells l) rfl (by rw [cells_length, HB1.out.1, Nat.mul_one]) ?c1 (cells_one l) (by unfold maxLen; omega) (by omega) (by omega) ?_)
  case c1 =>
    rcases HB1.out.2.2 with q | ⟨bb, off, q, hc⟩
    · intro j u hj
      rw [List.eq_nil_of_length_eq_zero (l := l) (by rw [HB1.out.1]; exact q)] at hj
      simp [cells] at hj
    · obtain rfl := Option.some.inj q
      intro j u hj
      have hjl : j < (cells l).length := (List.getElem?_eq_some_iff.1 hj).1
      rw [cells_length, HB1.out.1] at hjl
      have := hc j hjl
      rw [Addr.add_lit, this]
      unfold cells at hj
      rw [List.getElem?_map] at hj
      have hl1 : j < l.length := by rw [HB1.out.1]; exact hjl
      rw [List.getElem?_eq_getElem hl1] at hj
      simp only [Option.map] at hj
      rw [← hj]
      simp [List.getD, hl1]
  intro v' w2 hown hg hv
  obtain ⟨a7, c7, rfl, _, _, _⟩ := own_slice hown
  clear hv
  have hne := HY1.out.own HO1.out
  have Y2 := HY1.out.at (hg.block r HY1.out.lt (fun q => hne r q.symm rfl))
  have f1 := Y2.fz 1
  have c1 := Y2.c1
  have Y3 := Y2.s1 (.slice a7 (n + m) c7)
  have d0 := Y3.c0
  have f0 := Y3.fz 0
  have HY4 := hid (Y3.s0 K1)
  have hown' : w2.ownsRow B 5 1 (.slice a7 (n + m) c7) (n + m) (cells (tx ++ l)) := by
    have : cells (tx ++ l) = cells tx ++ cells l := by simp [cells]
    rw [this]
    exact hown
  have hne2 := Y2.own hown'
  have HO4 := hid (own_set (i := 0) (x := .int .i64 K1) (own_set (i := 1) (x := .slice a7 (n + m) c7) hown' hne2) hne2)
  have HB4 := hid (bel_set (i := 0) (bel_set (i := 1) (HD1.out.grown hg (by omega) (fun j e => (HO1.out.lt j e).1)) hB (.slice a7 (n + m) c7)) hB (.int .i64 K1))
  clear hg hown hown' hne hne2 Y2 Y3 HY1 HO1
  go_wp2_with fail
  go_ret
  exact ⟨rfl, a7, c7, HY4.out, HO4.out, HB4.out⟩
set_option maxHeartbeats 4000000 in
theorem add_end (h : Ym w r k (.slice a n c) b) (ho : w.ownsRow B 5 1 (.slice a n c) n (cells tx)) (hy : By tx) (hTb : Tab w) (hB : B ≤ r) (hBw : B ≤ w.heap.size) (hk : k ≤ 100) (hn : n ≤ 100000) (ab : Option Addr) (m cb : Nat) (l : List Int) (hb : Bs w ab m l) :
    Calls Tryz.prog 130 #[.pointer (some ⟨r, 0, none⟩), .string t3, .slice ab m cb] w fun en w' => en = .returned (.bool (decide (1 < k) && sameB l (edb tx))) ∧ Ym w' r (k + 1) (.slice a n c) true ∧ w'.ownsRow B 5 1 (.slice a n c) n (cells tx) ∧ Below B w w' := by
  have q4 : ((t3).toList == [67, 86, 79, 49]) = false := tl_no (t := t4) rfl (by decide)
  have q2 : ((t3).toList == [67, 86, 68, 49]) = false := tl_no (t := t2) rfl (by decide)
  have q3 : ((t3).toList == [67, 86, 67, 49]) = true := tl_yes rfl
  have hne := h.own ho
  have c0 := h.c0
  obtain ⟨K1, HK1⟩ : ∃ K1, Hid (k + 1 = K1) := ⟨_, rfl⟩
  have e1 : (k : Int) + 1 = (K1 : Int) := by have := HK1.out; omega
  rw [HK1.out]
  obtain ⟨a', c', e', bx, _⟩ := own_form ho hy
  obtain ⟨rfl, -, rfl⟩ : a = a' ∧ True ∧ c = c' := by simpa using e'
  clear e'
  have fin : ∀ wx, Below w.heap.size w wx → Hid (Ym ((wx.setCell ⟨r, 2, none⟩ (.bool true)).setCell ⟨r, 0, none⟩ (.int .i64 K1)) r K1 (.slice a n c) true ∧ ((wx.setCell ⟨r, 2, none⟩ (.bool true)).setCell ⟨r, 0, none⟩ (.int .i64 K1)).ownsRow B 5 1 (.slice a n c) n (cells tx) ∧ Below B w ((wx.setCell ⟨r, 2, none⟩ (.bool true)).setCell ⟨r, 0, none⟩ (.int .i64 K1))) := fun wx hx =>
    ⟨((h.below hx).s2 true).s0 K1, own_set (own_set (own_bel12 ho hx) hne) hne, bel_set (bel_set ⟨hx.os, hx.tape, hx.output, hx.size, fun k hk => hx.block k (by omega)⟩ hB _) hB _⟩
  by_cases hk1 : 1 < k
  · have hkI : (1 : Int) < (k : Int) := by omega
    have hkB : decide ((1 : Int) < (k : Int)) = true := decide_eq_true hkI
    rw [decide_eq_true hk1, Bool.true_and]
    have c1 := h.c1
    have ke := endOf_ a n c tx w hTb bx (by omega)
    have HY := hid h
    have HBB := hid hb
    obtain ⟨t, Ht⟩ : ∃ t, Hid (sameB l (edb tx) = t) := ⟨_, rfl⟩
    rw [Ht.out]
    clear h ho hb bx hk1
    generalize t3 = T at *
    go_enter Tryz.func130, Tryz.ntmps130
    go_wp2_with fail
    refine ke.mono ?_
    rintro en w1 ⟨g4, rfl, hg4, r4, B4⟩
    have kq := equal_ ab (some ⟨g4, 0, none⟩) m cb 10 10 l (edb tx) w1 (HBB.out.below B4) (r4.bs12 (edb_length tx) (edb_by tx))
    rw [Ht.out] at kq
    have Y1 := HY.out.below B4
    have c2 := Y1.c2
    have f2 := Y1.fz 2
    have Y2 := Y1.s2 true
    have d0 := Y2.c0
    have f0 := Y2.fz 0
    have HF := fin w1 B4
    clear ke B4 r4 Y1 Y2 fin
    go_wp2_with fail
    refine kq.mono ?_
    rintro en w2 ⟨rfl, hw⟩
    obtain rfl := hw.symm
    clear hw kq
    go_wp2_with fail
    go_ret
    exact ⟨rfl, HF.out⟩
  · have hkI : ¬ (1 : Int) < (k : Int) := by omega
    have hkB : decide ((1 : Int) < (k : Int)) = false := decide_eq_false hkI
    rw [decide_eq_false hk1, Bool.false_and]
    have c2 := h.c2
    have f2 := h.fz 2
    have Y2 := h.s2 true
    have d0 := Y2.c0
    have f0 := Y2.fz 0
    have HF := fin w (Below.refl _ _)
    clear h ho hb bx hk1 Y2 fin
    generalize t3 = T at *
    go_enter Tryz.func130, Tryz.ntmps130
    go_wp2_with fail
    go_ret
    exact ⟨rfl, HF.out⟩
end
end Go.Proofs.YtjajcbjodokfnaaGreatDoor
