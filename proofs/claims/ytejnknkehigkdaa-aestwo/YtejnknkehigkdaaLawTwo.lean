import Derived.Test.YtejnknkehigkdaaLawBlocks
import Derived.Test.YtejnknkehigkdaaBlkRow
namespace Go.Proofs.Ytejnknkehigkdaa
open Go.RowKit
set_option linter.unusedVariables false

theorem Bl.range {w : World} {b off n : Nat} {fs : Nat → Nat → Nat} (hc : ∀ i, i < n → ∀ j, j < 16 → w.cell? ⟨b, off + 16 * i + j, none⟩ = some (.int .u8 (fs i j : Nat))) (i : Nat) (hi : i < n) : w.rangeAt b (off + 16 * i) (av (fs i)).toList := fun j v hv => by
  have hj : j < 16 := by have := (List.getElem?_eq_some_iff.1 hv).1; simpa [av] using this
  rw [Array.getElem?_toList, av_get _ j hj] at hv
  rw [hc i hi j hj, ← hv]
/-- A range of cells that no tactic looks into. -/
structure Rng (w : World) (g off : Nat) (f : Nat → Nat) : Prop where
  out : w.rangeAt g off (av f).toList
theorem Rng.kept {w w' : World} {g off : Nat} {f : Nat → Nat} (h : Rng w g off f) (hb : Below w.heap.size w w') : Rng w' g off f := ⟨rng_kept h.out hb⟩
theorem Rng.alloc {w : World} {g off : Nat} {f : Nat → Nat} (h : Rng w g off f) (o : Obj) : Rng (w.alloc o) g off f := ⟨World.rangeAt_alloc h.out o⟩
theorem wpList_ldr {ops : Array Oper} {rest : List Oper} {o : Oper} {a : Act} {w : World} {Q : Exit → Act → World → Prop} (hgd : o.guard = none) (x : Operand) (ho : o.op = .load 36 x)
    (g off : Nat) (hx : a.eval x = .pointer (some ⟨g, off, none⟩)) (f : Nat → Nat) (hr : Rng w g off f)
    (h : wpList Try.prog ops Q rest (a.put o.dst (.agg (av f))) w) : wpList Try.prog ops Q (o :: rest) a w := by
  have e : (av f).toList.toArray = av f := by simp
  refine wpList_load_mid hgd _ x ho g off hx (av f).toList _ hr.out under16 rfl (by rw [show (av f).toList.length = 16 from by simp [av]]; exact size16) ?_
  rw [e]
  exact h
theorem wpList_nea {ops : Array Oper} {rest : List Oper} {o : Oper} {a : Act} {w : World} {Q : Exit → Act → World → Prop} (hgd : Region.wanted o (yielded ops a.tmps) = true) (x y : Operand) (t : TypeId) (ho : o.op = .binOp .neq 36 x y t)
    (xs ys : Array Value) (hx : a.eval x = .agg xs) (hy : a.eval y = .agg ys) (r : Bool) (hr : ∀ w, (Op.equalIn 10000 36 (.agg xs) (.agg ys)).run Try.prog w = .ok r w)
    (h : wpList Try.prog ops Q rest (a.put o.dst (.bool (!r))) w) : wpList Try.prog ops Q (o :: rest) a w :=
  wpList_step fun K hK => by
    simp only [hgd, if_true]
    unfold Oper.wp execOp
    simp only [ho, hx, hy, Sem.run_bind, Sem.run_pure, run_eqGuard_agg w .neq _ x y _ _ guard16, Result.andThen_ok, run_neq_struct, hr]
    exact hK _ _ h
/-- Which of the blocks. -/
theorem run_ixb (b off n c j : Nat) (hj : j < n) (w : World) : (Instr.indexAt 41 (.slice (some ⟨b, off, none⟩) n c) (.int .i64 j)).run Try.prog w = .ok (.pointer (some ⟨b, off + 16 * j, none⟩)) w := by
  have h1 : (0 : Int) ≤ (j : Int) ∧ (j : Int) < (n : Int) := by omega
  simp only [Instr.indexAt, Sem.run_bind, asIntOf, Sem.run_pure, run_underlying (show Try.prog.underlying 41 = some (.slice 36) by kernel_rfl), Result.andThen_ok, if_pos h1, run_sizeOf size16, Addr.add_mid, Int.toNat_natCast]
  rw [Nat.mul_comm j 16]
theorem over_set (xs ys : List Int) (j : Nat) (hx : j < xs.length) (hy : j < ys.length) : (xs.take j ++ ys.drop j).set j (xs.getD j 0) = xs.take (j + 1) ++ ys.drop (j + 1) := by
  have e2 : j - (xs.take j).length = 0 := by simp; omega
  rw [List.drop_eq_getElem_cons hy, List.set_append_right _ _ (by simp; omega), e2, List.set_cons_zero, List.take_succ_eq_append_getElem hx, List.append_assoc]
  simp [List.getD, hx]
theorem over_len (xs ys : List Int) (j : Nat) (hx : xs.length = 32) (hy : ys.length = 33) (hj : j ≤ 32) : (xs.take j ++ ys.drop j).length = 33 := by simp; omega
theorem over_bytes {xs ys : List Int} (hx : ∀ z ∈ xs, 0 ≤ z ∧ z ≤ 255) (hy : ∀ z ∈ ys, 0 ≤ z ∧ z ≤ 255) (j : Nat) : ∀ z ∈ xs.take j ++ ys.drop j, 0 ≤ z ∧ z ≤ 255 := by
  intro z hz
  rcases List.mem_append.1 hz with h | h
  · exact hx z (List.mem_of_mem_take h)
  · exact hy z (List.mem_of_mem_drop h)
theorem Cp.setC {w : World} {g g' : Nat} {k : Nat → Nat} (h : Cp w g k) (hn : g ≠ g') (i : Nat) (v : Value) : Cp (w.setCell ⟨g', i, none⟩ v) g k := h.same (heap_setCell_other _ _ _ _ hn)
theorem Cp.drawn {w w' : World} {g : Nat} {k : Nat → Nat} (h : Cp w g k) (hd : Drawn w w') : Cp w' g k := h.same (hd.at g)
theorem Ci.kept {w w' : World} {g : Nat} {k : Nat → Nat} (h : Ci w g k) (hb : Below w.heap.size w w') : Ci w' g k := h.keep hb h.lt
theorem Ci.alloc {w : World} {g : Nat} {k : Nat → Nat} (h : Ci w g k) (o : Obj) : Ci (w.alloc o) g k := h.keep ((Below.refl _ _).alloc (Nat.le_refl _) o) h.lt
theorem Head.drawn {w w' : World} {g cap : Nat} {ys : List Int} (h : Head w g cap ys) (hd : Drawn w w') : Head w' g cap ys := h.below hd.below

set_option maxRecDepth 100000 in
set_option maxHeartbeats 1000000 in
/-- Keys or lists of blocks that the statement does not look at. -/
theorem aesTwo_not (a0 a1 a2 : Option Addr) (n0 c0 n1 c1 n2 c2 : Nat) (w : World) (h0 : n0 ≤ maxLen) (h1 : n1 ≤ maxLen) (h2 : n2 ≤ maxLen) (hn : n0 ≠ 32 ∨ n1 ≠ 32 ∨ 40 < n2) :
    Calls Try.prog 8 #[.slice a0 n0 c0, .slice a1 n1 c1, .slice a2 n2 c2] w fun e w' => e = .returned (.bool true) ∧ Below w.heap.size w w' := by
  unfold maxLen at h0 h1 h2
  go_enter Try.func8, Try.ntmps8
  go_wp2_with fail
  refine (first_ w).mono ?_
  rintro e w1 ⟨rfl, B0⟩
  by_cases e0 : n0 = 32
  · have b0 : ((n0 : Int) != 32) = false := by simp [e0]
    by_cases e1 : n1 = 32
    · have b1 : ((n1 : Int) != 32) = false := by simp [e1]
      have b2 : decide ((40 : Int) < (n2 : Int)) = true := decide_eq_true (by rcases hn with h | h | h <;> omega)
      clear e0 e1 hn
      go_wp2_with fail
      go_ret
      exact ⟨rfl, B0⟩
    · have b1 : ((n1 : Int) != 32) = true := by simpa using fun h => e1 (by omega)
      clear e0 e1 hn
      go_wp2_with fail
      go_ret
      exact ⟨rfl, B0⟩
  · have b0 : ((n0 : Int) != 32) = true := by simpa using fun h => e0 (by omega)
    clear e0 hn
    go_wp2_with fail
    go_ret
    exact ⟨rfl, B0⟩
set_option maxRecDepth 100000 in
set_option maxHeartbeats 2000000 in
theorem aesTwo_yes (a0 a1 a2 : Option Addr) (c0 c1 n2 c2 : Nat) (z0 z1 : List Int) (fs : Nat → Nat → Nat) (w : World) (hb0 : Bs w a0 32 z0) (hb1 : Bs w a1 32 z1) (hbl : Bl w a2 n2 fs) (h2 : n2 ≤ 40) :
    Calls Try.prog 8 #[.slice a0 32 c0, .slice a1 32 c1, .slice a2 n2 c2] w fun e w' => e = .returned (.bool true) ∧ Below w.heap.size w w' := by
  obtain ⟨i, hi, hz0, hz1, hz2⟩ := info_parts info5
  have K0 : Hid (∀ j, kf (z0.map Int.toNat) j < 256) := kf_lt (keyB hb0.2.1)
  have K1 : Hid (∀ j, kf (z1.map Int.toNat) j < 256) := kf_lt (keyB hb1.2.1)
  have d2 : decide ((40 : Int) < (n2 : Int)) = false := decide_eq_false (by omega)
  have HY0 := hid hb0.2.1
  have HY1 := hid hb1.2.1
  have HL0 := hid hb0.1
  have HL1 := hid hb1.1
  go_enter Try.func8, Try.ntmps8
  go_wp2_with fail
  refine (first_ w).mono ?_
  rintro e w1 ⟨rfl, B0⟩
  have S0 := B0.size
  go_wp2_with fail
  refine (refBytes a0 32 c0 z0 w1 (hb0.below B0) (by omega)).mono ?_
  rintro e w2 ⟨v, rfl, hown, g1⟩
  have B1 := bel_bel B0 S0 g1
  have S1 := g1.size
  clear d2
  go_wp2_with (at_builtin; refine wpList_append_own _ rfl _ _ 25 rfl w1.heap.size 5 i (.int .u8 0) 1 1 Try.underlying25 hi hz0 hz1 hz2 rfl (by decide) _ _ _ rfl (hown.alloc _) ⟨w2.heap.size, 0, none⟩ 1 1 [.int .u8 77] rfl rfl ?c1 ?c2 ?c3 ?c4 ?c5 ?_)
  case c1 =>
    intro j u hj
    match j, hj with
    | 0, hj => simp at hj; subst hj; simp [Addr.add]
  case c2 => intro u hu; simp at hu; subst hu; rfl
  case c3 => unfold maxLen; omega
  case c4 => omega
  case c5 => simp; omega
  intro v' w3 hown' hgrow _
  have B2 : Below w.heap.size w w3 := (B1.alloc B1.size _).grown hgrow (by simp; omega) fun q hq => by have := (hown.lt q hq).1; omega
  have hown2 : w3.ownsRow w1.heap.size 5 1 v' 33 (cells (z0 ++ [77])) := by rw [cells_append]; exact hown'
  clear hown' hgrow hown B1 S1 g1 hi hz0 hz1 hz2
  obtain ⟨g, cap, rfl, hc1, hc2, hg1, hh, hlen⟩ := own_head hown2 (by omega)
  clear hown2
  have hgw : w.heap.size ≤ g := by omega
  clear hg1 B0 S0
  have hyb : ∀ z ∈ z0 ++ [77], 0 ≤ z ∧ z ≤ 255 := by
    intro z hz
    rcases List.mem_append.1 hz with h | h
    · exact HY0.out z h
    · simp at h; omega
  have HYB := hid hyb
  have hbs := hh.bs (m := 32) (by rw [hlen]; omega) hyb
  have ez : (z0 ++ [(77 : Int)]).take 32 = z0 := by rw [List.take_append_of_le_length (by rw [HL0.out]; omega), List.take_of_length_le (by rw [HL0.out]; omega)]
  rw [ez] at hbs
  clear ez
  unfold maxLen at hc2
  have hcI : (32 : Int) ≤ (cap : Int) := by omega
  clear hyb
  obtain ⟨y0, HE0⟩ : ∃ y0, Hid (z0 ++ [(77 : Int)] = y0) := ⟨_, rfl⟩
  have H32 : Hid (y0.getD 32 0 = 77) := by
    show _ = _
    rw [← HE0.out]
    have := HL0.out
    simp [List.getD, this]
  rw [HE0.out] at hh hlen
  have HYB : Hid (∀ z ∈ y0, 0 ≤ z ∧ z ≤ 255) := by rw [← HE0.out]; exact HYB.out
  have HT0 : Hid (y0.take 32 = z0) := by
    show _ = _
    rw [← HE0.out, List.take_append_of_le_length (by rw [HL0.out]; omega), List.take_of_length_le (by rw [HL0.out]; omega)]
  have HLY := hid hlen
  clear hlen
  obtain ⟨b1, o1, rfl, hcl⟩ : ∃ b off, a1 = some ⟨b, off, none⟩ ∧ ∀ i, i < 32 → w.cell? ⟨b, off + i, none⟩ = some (.int .u8 (z1.getD i 0)) := by
    rcases hb1.2.2 with h | h
    · omega
    · exact h
  have HCL := hid hcl
  have hb1l : b1 < w.heap.size := World.block_lt_of_cell? w _ (hcl 0 (by omega))
  clear hcl
  have k0 := fun w hb => new_ (some ⟨g, 0, none⟩) 32 cap z0 w hb rfl
  have k1 := fun w hb => new_ (some ⟨g, 0, none⟩) 32 cap z1 w hb rfl
  have r0 := fun w hb => refNew_ a0 32 c0 z0 w hb rfl
  have r1 := fun w hb => refNew_ (some ⟨b1, o1, none⟩) 32 c1 z1 w hb rfl
  generalize kf (z0.map Int.toNat) = kA at *
  generalize kf (z1.map Int.toNat) = kB at *
  go_wp2_with fail
  refine (k0 _ hbs).mono ?_
  rintro e w4 ⟨gc, rfl, hgc, cc, g4⟩
  have hgl := hh.lt
  have hng : gc ≠ g := by omega
  have hh := hh.below g4
  have B4 := bel_bel B2 B2.size g4
  have bs := hh.bs (m := 32) (by rw [HLY.out]; omega) HYB.out
  rw [HT0.out] at bs
  clear k0 g4 hbs hgc hgl B2
  go_wp2_with fail
  refine (same_yes (some ⟨g, 0, none⟩) a0 32 cap 32 c0 z0 w4 bs (hb0.below B4) (by omega) (by omega)).mono ?_
  rintro e w5 ⟨rfl, D⟩
  have hh := hh.drawn D
  have cc := cc.drawn D
  have B5 := bel_bel B4 B4.size D.below
  clear D bs B4
  go_wp2_with fail
  go_loopw [12] (fun i wr => ∃ j : Nat, j ≤ 32 ∧ i = .int .i64 j ∧ Head wr g cap (z1.take j ++ y0.drop j) ∧ Cp wr gc kA ∧ Below w.heap.size w wr) (fun i _ => 32 - (intOf i).toNat)
  case atStart => exact ⟨0, by omega, rfl, by simpa using hh, cc, B5⟩
  case round =>
    clear hh cc B5
    obtain ⟨j, hj, rfl, hh, cc, b0⟩ := hrel
    by_cases hlt : j < 32
    · have hl := over_len z1 y0 j HL1.out HLY.out hj
      have c0 := hh.cell j (by omega)
      have f0 := hh.unfrozen j
      have c1' := (b0.cell hb1l).trans (HCL.out j hlt)
      have HH := hh.set j (z1.getD j 0)
      rw [over_set z1 y0 j (by rw [HL1.out]; omega) (by rw [HLY.out]; omega)] at HH
      have CC := cc.setC hng j (.int .u8 (z1.getD j 0))
      have B6 : Below w.heap.size w (wr.setCell ⟨g, j, none⟩ (.int .u8 (z1.getD j 0))) := b0.setCell hgw _
      clear hh cc b0 hl
      generalize (z1.take j ++ y0.drop j).getD j 0 = x at *
      generalize z1.getD j 0 = y at *
      go_wp2_with fail
      go_roundw
      case rel => exact ⟨j + 1, by omega, by go_num, HH, CC, B6⟩
      case measure => simp [intOf]; omega
    · have hge : ¬ (j : Int) < 32 := by omega
      obtain ⟨y1, HE1⟩ : ∃ y1, Hid (z1.take j ++ y0.drop j = y1) := ⟨_, rfl⟩
      have HLY1 : Hid (y1.length = 33) := by show _ = _; rw [← HE1.out]; exact over_len z1 y0 j HL1.out HLY.out hj
      have HYB1 : Hid (∀ z ∈ y1, 0 ≤ z ∧ z ≤ 255) := by rw [← HE1.out]; exact over_bytes HY1.out HYB.out j
      have HT1 : Hid (y1.take 32 = z1) := by
        show _ = _
        have e : z1.take 32 = z1 := List.take_of_length_le (by rw [HL1.out]; omega)
        rw [← HE1.out, show j = 32 from by omega, e, List.take_append_of_le_length (by rw [HL1.out]; omega), e]
      have H33 : Hid (y1.getD 32 0 = 77) := by
        have h1 := HL1.out
        have h2 := H32.out
        show _ = _
        rw [← HE1.out, show j = 32 from by omega, List.take_of_length_le (by omega)]
        simp only [List.getD, List.getElem?_append_right (Nat.le_of_eq h1), h1, List.getElem?_drop] at h2 ⊢
        exact h2
      rw [HE1.out] at hh
      have bs := hh.bs (m := 32) (by rw [HLY1.out]; omega) HYB1.out
      rw [HT1.out] at bs
      clear hlt hj
      obtain ⟨wo, rfl⟩ : ∃ wo, wo = wr := ⟨_, rfl⟩
      go_wp2_with fail
      refine (k1 _ bs).mono ?_
      rintro e w7 ⟨gd, rfl, hgd, cd, g7⟩
      have hgl := hh.lt
      have hnd : gd ≠ g := by omega
      have hh := hh.below g7
      have cc := cc.kept g7
      have B7 := bel_bel b0 b0.size g7
      have bs := hh.bs (m := 32) (by rw [HLY1.out]; omega) HYB1.out
      rw [HT1.out] at bs
      clear g7 hgd hgl b0 k1
      go_wp2_with fail
      refine (same_yes (some ⟨g, 0, none⟩) (some ⟨b1, o1, none⟩) 32 cap 32 c1 z1 w7 bs (hb1.below B7) (by omega) (by omega)).mono ?_
      rintro e w8 ⟨rfl, D⟩
      have hh := hh.drawn D
      have cc := cc.drawn D
      have cd := cd.drawn D
      have B8 := bel_bel B7 B7.size D.below
      have c32 := hh.cell 32 (by rw [HLY1.out]; omega)
      rw [H33.out] at c32
      clear D bs B7
      go_wp2_with fail
      clear c32
      go_loopw [15] (fun i wr => ∃ (q : Nat) (ys : List Int), q ≤ 32 ∧ i = .int .i64 q ∧ Head wr g cap ys ∧ Hid (ys.length = 33) ∧ Cp wr gc kA ∧ Cp wr gd kB ∧ Below w.heap.size w wr) (fun i _ => 32 - (intOf i).toNat)
      case atStart => exact ⟨0, y1, by omega, rfl, hh, HLY1, cc, cd, B8⟩
      case round =>
        clear hh cc cd B8
        obtain ⟨q, ys, hq, rfl, hh, hl, cc, cd, b0⟩ := hrel
        by_cases hlt : q < 32
        · have c0 := hh.cell q (by rw [hl.out]; omega)
          have f0 := hh.unfrozen q
          have HH := hh.set q 0
          have HL : Hid ((ys.set q 0).length = 33) := by show _ = _; rw [List.length_set]; exact hl.out
          have CC := cc.setC hng q (.int .u8 0)
          have CD := cd.setC hnd q (.int .u8 0)
          have B6 : Below w.heap.size w (wr.setCell ⟨g, q, none⟩ (.int .u8 0)) := b0.setCell hgw _
          clear hh cc cd b0 hl
          generalize ys.set q 0 = ys' at *
          generalize ys.getD q 0 = x at *
          go_wp2_with fail
          go_roundw
          case rel => exact ⟨q + 1, ys', by omega, by go_num, HH, HL, CC, CD, B6⟩
          case measure => simp [intOf]; omega
        · have hge2 : ¬ (q : Int) < 32 := by omega
          clear hlt hq hh hl
          obtain ⟨wu, rfl⟩ : ∃ wu, wu = wr := ⟨_, rfl⟩
          go_wp2_with fail
          refine (r0 _ (hb0.below b0)).mono ?_
          rintro e w9 ⟨gr, rfl, _, cr, g9⟩
          have cc := cc.kept g9
          have cd := cd.kept g9
          have B9 := bel_bel b0 b0.size g9
          clear g9 b0 r0
          go_wp2_with fail
          refine (r1 _ (hb1.below B9)).mono ?_
          rintro e w10 ⟨gs, rfl, _, cs, g10⟩
          have cc := cc.kept g10
          have cd := cd.kept g10
          have cr := cr.kept g10
          have B10 := bel_bel B9 B9.size g10
          clear g10 B9 r1
          go_wp2_with fail
          refine (num_ 0 _).mono ?_
          rintro e w11 ⟨rfl, rfl⟩
          go_wp2_with fail
          refine (num_ 0 _).mono ?_
          rintro e w12 ⟨rfl, rfl⟩
          go_wp2_with fail
          go_loopw [20] (fun i wr => ∃ t : Nat, t ≤ n2 ∧ i = .int .i64 t ∧ Cp wr gc kA ∧ Cp wr gd kB ∧ Ci wr gr kA ∧ Ci wr gs kB ∧ Below w.heap.size w wr) (fun i _ => n2 - (intOf i).toNat)
          case atStart => exact ⟨0, by omega, rfl, cc, cd, cr, cs, B10⟩
          case round =>
            clear cc cd cr cs B10
            obtain ⟨t, ht, rfl, cc, cd, cr, cs, b0⟩ := hrel
            by_cases hlt : t < n2
            · obtain ⟨b2, o2, rfl, hcb⟩ : ∃ b off, a2 = some ⟨b, off, none⟩ ∧ ∀ i, i < n2 → ∀ j, j < 16 → w.cell? ⟨b, off + 16 * i + j, none⟩ = some (.int .u8 (fs i j : Nat)) := by
                rcases hbl.2 with h | h
                · omega
                · exact h
              have R : Rng wr b2 (o2 + 16 * t) (fs t) := ⟨rng_kept (Bl.range hcb t hlt) ⟨b0.os, b0.tape, b0.output, b0.size, b0.block⟩⟩
              have ix := fun w' => run_ixb b2 o2 n2 c2 t hlt w'
              have hf := hbl.1 t hlt
              clear hcb
              have kc := fun w h => block_ gc kA (fs t) w h K0.out hf
              have kd := fun w h => block_ gd kB (fs t) w h K1.out hf
              have kr := fun w h => refBlock_ gr kA (fs t) w h K0.out hf
              have ks := fun w h => refBlock_ gs kB (fs t) w h K1.out hf
              have Q1 := hid (run_eqyes (f := bl kA (fs t) 14) (g := bl kA (fs t) 14) fun _ _ => rfl)
              have Q2 := hid (run_eqyes (f := bl kB (fs t) 14) (g := bl kB (fs t) 14) fun _ _ => rfl)
              generalize bl kA (fs t) 14 = oA at *
              generalize bl kB (fs t) 14 = oB at *
              clear hf
              go_wp2_with (refine wpList_ldr rfl _ rfl _ _ rfl _ (by with_reducible exact R) ?_)
              refine (kc _ cc).mono ?_
              rintro e wv0 ⟨rfl, g2⟩
              have R := (R.kept g2).alloc (.cells (av oA) 36)
              have cc := (cc.kept g2).alloc (.cells (av oA) 36)
              have cd := (cd.kept g2).alloc (.cells (av oA) 36)
              have cr := (cr.kept g2).alloc (.cells (av oA) 36)
              have cs := (cs.kept g2).alloc (.cells (av oA) 36)
              have A0 := Ar.new wv0 (av oA)
              have b0 := bel_bel b0 b0.size g2
              have b0 := b0.alloc b0.size (.cells (av oA) 36)
              clear g2
              go_wp2_with (first | (refine wpList_stna rfl rfl _ _ rfl _ _ _ rfl rfl rfl (by rfl) ?_) | (refine wpList_ldr rfl _ rfl _ _ rfl _ (by with_reducible exact R) ?_))
              generalize wv0.heap.size = ga0 at *
              generalize wv0.alloc (.cells (av oA) 36) = wv0x at *
              refine (kd _ cd).mono ?_
              rintro e wv1 ⟨rfl, g2⟩
              have R := (R.kept g2).alloc (.cells (av oB) 36)
              have cc := (cc.kept g2).alloc (.cells (av oB) 36)
              have cd := (cd.kept g2).alloc (.cells (av oB) 36)
              have cr := (cr.kept g2).alloc (.cells (av oB) 36)
              have cs := (cs.kept g2).alloc (.cells (av oB) 36)
              have A0 := (A0.kept g2).alloc (.cells (av oB) 36)
              have A1 := Ar.new wv1 (av oB)
              have b0 := bel_bel b0 b0.size g2
              have b0 := b0.alloc b0.size (.cells (av oB) 36)
              clear g2
              go_wp2_with (first | (refine wpList_stna rfl rfl _ _ rfl _ _ _ rfl rfl rfl (by rfl) ?_) | (refine wpList_ldr rfl _ rfl _ _ rfl _ (by with_reducible exact R) ?_))
              generalize wv1.heap.size = ga1 at *
              generalize wv1.alloc (.cells (av oB) 36) = wv1x at *
              refine (kc _ cc).mono ?_
              rintro e wv2 ⟨rfl, g2⟩
              have R := (R.kept g2).alloc (.cells (av oA) 36)
              have cc := (cc.kept g2).alloc (.cells (av oA) 36)
              have cd := (cd.kept g2).alloc (.cells (av oA) 36)
              have cr := (cr.kept g2).alloc (.cells (av oA) 36)
              have cs := (cs.kept g2).alloc (.cells (av oA) 36)
              have A0 := (A0.kept g2).alloc (.cells (av oA) 36)
              have A1 := (A1.kept g2).alloc (.cells (av oA) 36)
              have A2 := Ar.new wv2 (av oA)
              have b0 := bel_bel b0 b0.size g2
              have b0 := b0.alloc b0.size (.cells (av oA) 36)
              clear g2
              go_wp2_with (first | (refine wpList_stna rfl rfl _ _ rfl _ _ _ rfl rfl rfl (by rfl) ?_) | (refine wpList_ldr rfl _ rfl _ _ rfl _ (by with_reducible exact R) ?_))
              generalize wv2.heap.size = ga2 at *
              generalize wv2.alloc (.cells (av oA) 36) = wv2x at *
              refine (kr _ cr).mono ?_
              rintro e wv3 ⟨rfl, g2⟩
              have R := (R.kept g2).alloc (.cells (av oA) 36)
              have cc := (cc.kept g2).alloc (.cells (av oA) 36)
              have cd := (cd.kept g2).alloc (.cells (av oA) 36)
              have cr := (cr.kept g2).alloc (.cells (av oA) 36)
              have cs := (cs.kept g2).alloc (.cells (av oA) 36)
              have A0 := (A0.kept g2).alloc (.cells (av oA) 36)
              have A1 := (A1.kept g2).alloc (.cells (av oA) 36)
              have A2 := (A2.kept g2).alloc (.cells (av oA) 36)
              have A3 := Ar.new wv3 (av oA)
              have b0 := bel_bel b0 b0.size g2
              have b0 := b0.alloc b0.size (.cells (av oA) 36)
              clear g2
              go_wp2_with (first | (refine wpList_stna rfl rfl _ _ rfl _ _ _ rfl rfl rfl (by rfl) ?_) | (refine wpList_ldr rfl _ rfl _ _ rfl _ (by with_reducible exact R) ?_))
              generalize wv3.heap.size = ga3 at *
              generalize wv3.alloc (.cells (av oA) 36) = wv3x at *
              refine (ks _ cs).mono ?_
              rintro e wv4 ⟨rfl, g2⟩
              have R := (R.kept g2).alloc (.cells (av oB) 36)
              have cc := (cc.kept g2).alloc (.cells (av oB) 36)
              have cd := (cd.kept g2).alloc (.cells (av oB) 36)
              have cr := (cr.kept g2).alloc (.cells (av oB) 36)
              have cs := (cs.kept g2).alloc (.cells (av oB) 36)
              have A0 := (A0.kept g2).alloc (.cells (av oB) 36)
              have A1 := (A1.kept g2).alloc (.cells (av oB) 36)
              have A2 := (A2.kept g2).alloc (.cells (av oB) 36)
              have A3 := (A3.kept g2).alloc (.cells (av oB) 36)
              have A4 := Ar.new wv4 (av oB)
              have b0 := bel_bel b0 b0.size g2
              have b0 := b0.alloc b0.size (.cells (av oB) 36)
              clear g2
              clear kc kd kr ks R ix
              go_wp2_with (first | (refine wpList_stna rfl rfl _ _ rfl _ _ _ rfl rfl rfl (by rfl) ?_) | (refine wpList_lda rfl _ rfl ga0 rfl _ (by with_reducible exact A0) ?_) | (refine wpList_ldga rfl _ rfl ga0 rfl _ (by with_reducible exact A0) ?_) | (refine wpList_lda rfl _ rfl ga1 rfl _ (by with_reducible exact A1) ?_) | (refine wpList_ldga rfl _ rfl ga1 rfl _ (by with_reducible exact A1) ?_) | (refine wpList_lda rfl _ rfl ga2 rfl _ (by with_reducible exact A2) ?_) | (refine wpList_ldga rfl _ rfl ga2 rfl _ (by with_reducible exact A2) ?_) | (refine wpList_lda rfl _ rfl ga3 rfl _ (by with_reducible exact A3) ?_) | (refine wpList_ldga rfl _ rfl ga3 rfl _ (by with_reducible exact A3) ?_) | (refine wpList_lda rfl _ rfl wv4.heap.size rfl _ (by with_reducible exact A4) ?_) | (refine wpList_ldga rfl _ rfl wv4.heap.size rfl _ (by with_reducible exact A4) ?_) | (refine wpList_nea rfl _ _ _ rfl (av oA) (av oA) rfl rfl true Q1.out ?_) | (refine wpList_nea rfl _ _ _ rfl (av oB) (av oB) rfl rfl true Q2.out ?_))
              go_roundw
              case rel => exact ⟨t + 1, by omega, by go_num, cc, cd, cr, cs, b0⟩
              case measure => simp [intOf]; omega
            · have hge3 : ¬ (t : Int) < (n2 : Int) := by omega
              go_wp2_with fail
              go_ret
              exact ⟨rfl, b0⟩
theorem aesTwo_ (a0 : Option Addr) (n0 c0 : Nat) (z0 : List Int) (a1 : Option Addr) (n1 c1 : Nat) (z1 : List Int) (a2 : Option Addr) (n2 c2 : Nat) (fs : Nat → Nat → Nat) (w : World) (hb0 : Bs w a0 n0 z0) (h0 : n0 ≤ 140737488351232) (hb1 : Bs w a1 n1 z1) (h1 : n1 ≤ 140737488351232) (hbl : Bl w a2 n2 fs) (h2 : n2 ≤ maxLen) :
    Calls Try.prog 8 #[.slice a0 n0 c0, .slice a1 n1 c1, .slice a2 n2 c2] w fun e w' => e = .returned (.bool true) ∧ Below w.heap.size w w' := by
  by_cases hn : n0 ≠ 32 ∨ n1 ≠ 32 ∨ 40 < n2
  · exact aesTwo_not a0 a1 a2 n0 c0 n1 c1 n2 c2 w (by unfold maxLen; omega) (by unfold maxLen; omega) h2 hn
  · obtain rfl : n0 = 32 := by omega
    obtain rfl : n1 = 32 := by omega
    exact aesTwo_yes a0 a1 a2 c0 c1 n2 c2 z0 z1 fs w hb0 hb1 hbl (by omega)
end Go.Proofs.Ytejnknkehigkdaa
