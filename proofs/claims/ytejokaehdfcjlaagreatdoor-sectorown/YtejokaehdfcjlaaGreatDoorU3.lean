import Derived.Test.YtejokaehdfcjlaaGreatDoorU2
namespace Go.Proofs.YtejokaehdfcjlaaGreatDoor
set_option maxRecDepth 100000
open Go.RowKit
set_option linter.unusedVariables false

theorem cells_app7 (a b : List Int) : cells a ++ cells b = cells (a ++ b) := by simp [cells]
/-- append of bytes that came in, nil or not, to a row of one's own. -/
theorem wpList_app7 {w : World} {ops : Array Oper} {rest : List Oper} {o : Oper} {act : Act} {Q : Exit → Act → World → Prop} (hgd : o.guard = none) (s x : Operand)
    (ho : o.op = .call { callee := .builtin .append, args := #[s, x], argTypes := #[44, 44] })
    (base : Nat) (v : Value) (n : Nat) (X : List Int) (hs : act.eval s = v) (hown : w.ownsRow base 5 1 v n (cells X)) (hn0 : 0 < n)
    (a : Option Addr) (m c : Nat) (zs : List Int) (hx : act.eval x = .slice a m c) (hb : Bs w a m zs) (hnm : n + m ≤ 140737488355328) (hbase : base ≤ w.heap.size)
    (h : ∀ v' w', w'.ownsRow base 5 1 v' (n + m) (cells (X ++ zs)) → w.grownBy w' v.ownBlock → wpList Tryz.prog ops Q rest (act.put o.dst v') w') : wpList Tryz.prog ops Q (o :: rest) act w := by
  obtain ⟨i5, hi, hz0, hz1, hz2⟩ := info_parts info5
  have hb1 := hb.1
  cases a with
  | some ad =>
    refine wpList_append_own _ hgd s x 44 ho base 5 i5 (.int .u8 0) 1 1 Tryz.underlying44 hi hz0 hz1 hz2 rfl (by decide) v n _ hs hown ad m c (cells zs) hx (by rw [cells_length, Nat.mul_one, hb1]) (fun j u hj => ?_) (cells_one zs) (by unfold maxLen; omega) (by omega) hbase (fun v' w' h1 h2 _ => h v' w' (by rw [← cells_app7]; exact h1) h2)
    have hj' : j < zs.length := by
      have := (List.getElem?_eq_some_iff.1 hj).1
      rwa [cells_length] at this
    rcases hb.2.2 with h0 | ⟨b, off, e, hc⟩
    · omega
    · obtain rfl := Option.some.inj e
      rw [Addr.add_lit, hc j (by omega), ← hj]
      simp [cells, List.getD, hj']
  | none =>
    have hm0 : m = 0 := by
      rcases hb.2.2 with h0 | ⟨b, off, e, _⟩
      · exact h0
      · cases e
    subst hm0
    have hz : zs = [] := List.eq_nil_of_length_eq_zero hb1
    subst hz
    obtain ⟨g, cap, rfl, hnc, hcm, hbg, hh, _⟩ := own_head hown hn0
    refine wpList_plain hgd fun _ hK => ?_
    have hr : (Builtin.append_ #[44, 44] o.type #[.slice (some ⟨g, 0, none⟩) n cap, .slice none 0 c]).run Tryz.prog w = .ok (.slice (some ⟨g, 0, none⟩) n cap) w := by
      simp [Builtin.append_, run_underlying Tryz.underlying44, sizeOf, typeInfo, hi, Builtin.lenOf, Builtin.firstCells, hnc, storeCells]
    unfold Oper.wp execOp
    simp only [ho, resolve, invoke, builtin, Sem.run_bind, Sem.run_pure, Result.andThen_ok, List.map_toArray, List.map_cons, List.map_nil, hs, hx, hr]
    refine hK _ _ (h _ _ (by rw [List.append_nil]; exact hown) ⟨rfl, rfl, rfl, Nat.le_refl _, fun _ _ _ => rfl⟩)

def slen (v : Value) : Nat := match v with | .slice _ m _ => m | _ => 0
theorem slen_slice (a : Option Addr) (n c : Nat) : slen (.slice a n c) = n := rfl
theorem str_cells (S : ByteArray) : Lib.strCells S = cells (tb S) := by simp [Lib.strCells, cells, tb]
theorem sm_bel {B : Nat} {w w' : World} {g : Nat} {T : ByteArray} {e q p : Int} {v : Value} (h : Sm w g T e q p v) (hb : Below B w w') (hg : g < B) : Sm w' g T e q p v := h.at (hb.block g hg)
theorem hd_left (s : Sec) (n : Nat) (hn : s.l.length = n) : ((((((tb s.T ++ be 8 s.e) ++ be 8 s.q) ++ be 4 s.p) ++ be 2 n) ++ [0, 0]) ++ s.l) ++ zr (480 - n) = hd s := by
  subst hn
  simp only [hd, zr, List.append_assoc]
theorem own_base {w : World} {b b' n : Nat} {v : Value} {xs : List Value} (h : w.ownsRow b 5 1 v n xs) (hb : b' ≤ b) : w.ownsRow b' 5 1 v n xs := by
  obtain ⟨h1, h2⟩ := h
  refine ⟨h1, ?_⟩
  rcases h2 with h2 | ⟨g, cap, cur, rfl, hg, k⟩
  · exact .inl h2
  · exact .inr ⟨g, cap, cur, rfl, by omega, k⟩
theorem own_bel {w w' : World} {B b n : Nat} {v : Value} {xs : List Value} (h : w.ownsRow b 5 1 v n xs) (hb : Below w.heap.size w w') : w'.ownsRow b 5 1 v n xs := by
  obtain ⟨h1, h2⟩ := h
  refine ⟨h1, ?_⟩
  rcases h2 with h2 | ⟨g, cap, cur, rfl, hg, hh, k⟩
  · exact .inl h2
  · refine .inr ⟨g, cap, cur, rfl, hg, ?_, k⟩
    rw [hb.block g (Array.getElem?_eq_some_iff.1 hh).1]; exact hh

set_option maxHeartbeats 4000000 in
theorem refPut_n (T : ByteArray) (e q p : Int) (a : Option Addr) (n c : Nat) (w : World) (h : ¬ MayN T e q p n) :
    Calls Tryz.prog 6 #[.agg #[.string T, .int .i64 e, .int .i64 q, .int .i64 p, .slice a n c]] w fun en w' => en = .returned (.tuple #[.slice none 0 0, .int .i64 117]) ∧ Below w.heap.size w w' := by
  have m0 := Sm.new w T e q p (.slice a n c)
  have B0 := snew w T e q p (.slice a n c)
  go_enter Tryz.func6, Tryz.ntmps6
  go_wp2_with fail
  refine (refMay_n T e q p a n c _ h).mono ?_
  rintro e1 w1 ⟨rfl, g1⟩
  replace B0 := bel_bel B0 B0.size g1
  go_wp2
  go_ret2
  exact ⟨rfl, B0⟩

set_option maxHeartbeats 8000000 in
theorem refPut_y (T : ByteArray) (e q p : Int) (a : Option Addr) (n c : Nat) (l : List Int) (w : World) (hb : Bs w a n l) (h : MayN T e q p n) :
    Calls Tryz.prog 6 #[.agg #[.string T, .int .i64 e, .int .i64 q, .int .i64 p, .slice a n c]] w fun en w' => ∃ v, en = .returned (.tuple #[v, .int .i64 0]) ∧ w'.ownsRow w.heap.size 5 1 v 512 (cells (ps ⟨T, e, q, p, l⟩)) ∧ Below w.heap.size w w' := by
  obtain ⟨i, hi, hz0, hz1, hz2⟩ := info_parts info5
  have m0 := Sm.new w T e q p (.slice a n c)
  have B0 := snew w T e q p (.slice a n c)
  have hM : May ⟨T, e, q, p, l⟩ := (may_n hb.1).2 h
  have HL := hid (hd_left ⟨T, e, q, p, l⟩ n hb.1)
  have HBY : Hid (By (hd ⟨T, e, q, p, l⟩)) := hd_by hb.2.1
  have HB := hid hb
  have HLN := hid hb.1
  have HDL := hid (hd_length hM)
  have hu : Tryz.prog.underlying 9 = some .string := by kernel_rfl
  have hTz := isT_size h.1
  obtain ⟨_, ⟨e0, e1⟩, ⟨q0, q1⟩, ⟨p0, p1⟩, n1⟩ := id h
  simp only at HL
  clear hb hM
  go_enter Tryz.func6, Tryz.ntmps6
  go_wp2_with fail
  refine (refMay_y T e q p a n c _ h).mono ?_
  rintro x1 w1 ⟨rfl, g1⟩
  replace m0 := m0.kept g1
  replace B0 := bel_bel B0 B0.size g1
  have hlt := m0.lt
  clear g1 h
  generalize hbase : w1.heap.size = base at *
  have HBB := hid hbase
  clear hbase
  go_wp2_with (first | (at_make; refine wpList_make_own _ rfl _ _ 44 rfl base 5 i (.int .u8 0) 1 Tryz.underlying44 hi hz0 hz1 .i64 .i64 512 512 rfl rfl rfl (by rw [hz2]; omega) (by unfold maxLen; omega) (by rw [HBB.out]; exact Nat.le_refl _) ?_; intro w2 o2 g2; have F2 : Below base w1 w2 := (by have := below_of_grown g2; rw [HBB.out] at this; exact this); have d0 := (sm_bel m0 F2 hlt).c0; have O2 := hid o2; clear o2 g2) | (at_builtin; refine Lib.wpList_append_own_string _ rfl _ _ 44 9 rfl base 5 i Tryz.underlying44 hu hi hz0 hz1 hz2 _ 0 [] rfl O2.out T rfl (by unfold maxLen; omega) (by omega) (by have := F2.size; have := HBB.out; omega) ?_; intro v3 w3 o3 g3 _; have F3 : Below base w1 w3 := F2.grown g3 (by have := F2.size; have := HBB.out; omega) (fun z hz => (O2.out.lt z hz).1); have d1 := (sm_bel m0 F3 hlt).c1; rw [str_cells, List.nil_append, Nat.zero_add, hTz] at o3; have O3 := hid o3; clear o3 g3 O2 F2 d0))
  refine (refNumber_ v3 base 4 8 (tb T) e w3 O3.out (by omega) (by omega) (by omega) (by omega) (by have := F3.size; have := HBB.out; omega)).mono ?_
  rintro y w4 ⟨v4, rfl, o4, g4⟩
  have F4 := F3.trans g4
  have O4 : Hid (w4.ownsRow base 5 1 v4 12 (cells ((tb T) ++ be 8 e))) := o4
  have d2 := (sm_bel m0 F4 hlt).c2
  clear o4 g4 O3 d1
  go_wp2_with fail
  refine (refNumber_ v4 base 12 8 ((tb T) ++ be 8 e) q w4 O4.out (by omega) (by omega) (by omega) (by omega) (by have := F4.size; have := HBB.out; omega)).mono ?_
  rintro y w5 ⟨v5, rfl, o5, g5⟩
  have F5 := F4.trans g5
  have O5 : Hid (w5.ownsRow base 5 1 v5 20 (cells (((tb T) ++ be 8 e) ++ be 8 q))) := o5
  have d3 := (sm_bel m0 F5 hlt).c3
  clear o5 g5 O4 d2
  go_wp2_with fail
  refine (refNumber_ v5 base 20 4 (((tb T) ++ be 8 e) ++ be 8 q) p w5 O5.out (by omega) (by omega) (by omega) (by omega) (by have := F5.size; have := HBB.out; omega)).mono ?_
  rintro y w6 ⟨v6, rfl, o6, g6⟩
  have F6 := F5.trans g6
  have O6 : Hid (w6.ownsRow base 5 1 v6 24 (cells ((((tb T) ++ be 8 e) ++ be 8 q) ++ be 4 p))) := o6
  have d4 := (sm_bel m0 F6 hlt).c4
  clear o6 g6 O5 d3
  go_wp2_with fail
  refine (refNumber_ v6 base 24 2 ((((tb T) ++ be 8 e) ++ be 8 q) ++ be 4 p) (n : Int) w6 O6.out (by omega) (by omega) (by omega) (by omega) (by have := F6.size; have := HBB.out; omega)).mono ?_
  rintro y w7 ⟨v7, rfl, o7, g7⟩
  have F7 := F6.trans g7
  have O7 : Hid (w7.ownsRow base 5 1 v7 26 (cells (((((tb T) ++ be 8 e) ++ be 8 q) ++ be 4 p) ++ be 2 n))) := o7
  clear o7 g7 O6
  obtain ⟨X7, hX7⟩ : ∃ X7, X7 = (((((tb T) ++ be 8 e) ++ be 8 q) ++ be 4 p) ++ be 2 n) := ⟨_, rfl⟩
  rw [← hX7] at O7
  have HX := hid hX7
  clear hX7
  have hsz7 : base ≤ w7.heap.size := by have := F7.size; have := HBB.out; omega
  go_wp2_with (first | (at_builtin; refine wpList_append_own _ rfl _ _ 44 rfl base 5 i (.int .u8 0) 1 1 Tryz.underlying44 hi hz0 hz1 hz2 rfl (by decide) v7 26 (cells X7) rfl (O7.out.alloc _) ⟨w7.heap.size, 0, none⟩ 2 2 [.int .u8 0, .int .u8 0] rfl rfl (cell_two_new w7 _ _ _) (by intro u hu; simp at hu; subst hu; rfl) (by unfold maxLen; omega) (by omega) (by simp; omega) ?_; intro v8 w8 o8 g8 _; have F8 : Below base w1 w8 := (F7.alloc hsz7 _).grown g8 (by simp; omega) (fun z hz => (O7.out.lt z hz).1); have d4 := (sm_bel m0 F8 hlt).c4; have O8 : Hid (w8.ownsRow base 5 1 v8 28 (cells (X7 ++ [0, 0]))) := (by show World.ownsRow _ _ _ _ _ _ _; rw [cells_append]; exact o8); clear o8 g8 O7) | (at_builtin; refine wpList_app7 rfl _ _ rfl base v8 28 (X7 ++ [0, 0]) rfl O8.out (by omega) a n c l rfl ((HB.out.below B0).below (by have := F8; rw [← HBB.out] at this; exact this)) (by omega) (by have := F8.size; have := HBB.out; omega) ?_; intro v9 w9 o9 g9; have F9 : Below base w1 w9 := F8.grown g9 (by have := F8.size; have := HBB.out; omega) (fun z hz => (O8.out.lt z hz).1); have O9 := hid o9; clear o9 g9 O8 d4))
  obtain ⟨X9, hX9⟩ : ∃ X9, X9 = X7 ++ [0, 0] ++ l := ⟨_, rfl⟩
  rw [← hX9] at O9
  have HX9 : Hid (X9 ++ zr (480 - n) = hd ⟨T, e, q, p, l⟩) := by
    show _ = _
    rw [hX9, HX.out]
    exact HL.out
  clear hX9
  have hX9b : By X9 := fun z hz => HBY.out z (by rw [← HX9.out]; exact List.mem_append_left _ hz)
  go_loopw [4] (fun v wr => ∃ k : Nat, k ≤ 480 - n ∧ wr.ownsRow base 5 1 v (28 + n + k) (cells (X9 ++ zr k)) ∧ Below base w1 wr) (fun v _ => 508 - slen v)
  case atStart => exact ⟨0, by omega, by simpa [zr] using O9.out, F9⟩
  case round =>
    obtain ⟨k, hk, hown, hbl⟩ := hrel
    have hsz : base ≤ wr.heap.size := by have := hbl.size; have := HBB.out; omega
    obtain ⟨av, cv, rfl, yv, y1, y2, _⟩ := own_form hown (By.app hX9b (By.zeros k))
    by_cases hlt2 : 28 + n + k < 508
    · have hI : ((28 + n + k : Nat) : Int) < 508 := by omega
      generalize hlen : 28 + n + k = len at *
      go_wp2_with (at_builtin; refine wpList_append_own _ rfl _ _ 44 rfl base 5 i (.int .u8 0) 1 1 Tryz.underlying44 hi hz0 hz1 hz2 rfl (by decide) _ _ _ rfl (hown.alloc _) ⟨wr.heap.size, 0, none⟩ 1 1 [.int .u8 0] rfl rfl ?c1 ?c2 ?c3 ?c4 ?c5 ?_)
      case c1 =>
        intro j u hj
        match j, hj with
        | 0, hj => simp at hj; subst hj; simp [Addr.add]
      case c2 => intro u hu; simp at hu; subst hu; rfl
      case c3 => unfold maxLen; omega
      case c4 => omega
      case c5 => simp; omega
      intro v' w' hown' hgrow _
      have hown2 : w'.ownsRow base 5 1 v' (28 + n + (k + 1)) (cells (X9 ++ zr (k + 1))) := by
        rw [show 28 + n + (k + 1) = len + 1 from by omega, zr_add, ← List.append_assoc, cells_append]
        exact hown'
      have hbl2 : Below base w1 w' := (hbl.alloc (by omega) _).grown hgrow (by simp; omega) fun z hz => (hown.lt z hz).1
      obtain ⟨av', cv', hv', _⟩ := own_form hown2 (By.app hX9b (By.zeros (k + 1)))
      subst hv'
      clear hown' hgrow hown
      go_wp2
      go_roundw
      case rel => exact ⟨k + 1, by omega, hown2, hbl2⟩
      case measure =>
        first | (rw [slen_slice, slen_slice]; omega) | (show 508 - slen (.slice _ _ _) < 508 - slen (.slice _ _ _); rw [slen_slice, slen_slice]; omega)
    · have hI : ¬ ((28 + n + k : Nat) : Int) < 508 := by omega
      obtain rfl : k = 480 - n := by omega
      obtain ⟨H, hH⟩ : ∃ H, H = hd ⟨T, e, q, p, l⟩ := ⟨_, rfl⟩
      have HH := hid hH
      rw [HX9.out, ← hH] at hown yv
      rw [← hH] at HBY
      clear hH HX9 HL HDL
      generalize hlen : 28 + n + (480 - n) = len at *
      obtain rfl : len = 508 := by omega
      clear hlen
      have HO := hid hown
      have HY := hid yv
      have HF := hid hbl
      have HU : Hid (updc 0 H < 4294967296) := updc_lt (by omega) HBY.out
      clear hown yv hbl hI hk hlt2 hX9b y1 y2 F3 F4 F5 F6 F7 F8 F9 HX hsz7
      go_wp2_with fail
      refine (refSum_ av 508 cv H wr HY.out (by omega)).mono ?_
      rintro y wq ⟨rfl, hw⟩
      obtain rfl := hw.symm
      have hU := HU.out
      generalize hUU : updc 0 H = U at *
      have HUU := hid hUU
      clear hUU
      have hU1 : (U : Int) < 18446744073709551616 := by omega
      have hU0 : (0 : Int) ≤ (U : Int) := by omega
      go_wp2_with fail
      refine (refNumber_ (.slice av 508 cv) base 508 4 H (U : Int) wr HO.out (by omega) (by omega) (by omega) (by omega) (by omega)).mono ?_
      rintro y wz ⟨vz, rfl, oz, gz⟩
      have FZ := HF.out.trans gz
      have OZ := hid oz
      have BZ := hid (bel_bel B0 B0.size (by have := FZ; rw [← HBB.out] at this; exact this))
      clear oz gz FZ
      go_wp2
      go_ret2
      exact ⟨vz, rfl, own_base (by have e := HH.out; unfold ps; rw [← e, HUU.out]; exact OZ.out) (Nat.le_of_lt hlt), BZ.out⟩
end Go.Proofs.YtejokaehdfcjlaaGreatDoor
