import Derived.Test.YtkeogggeefnoeaaGreatDoorN7
namespace Go.Proofs.YtkeogggeefnoeaaGreatDoor
set_option linter.unusedSimpArgs false
open Go.RowKit Go.Shelf
set_option linter.unusedVariables false
set_option maxRecDepth 100000
attribute [local go_sem] Oper.semAt_some

/-! Reading: words. -/
theorem sb_cut22 (l : List Nat) (i j : Nat) (hj : j ≤ l.length) : (sb l).extract i j = sb ((l.take j).drop i) := by
  apply ByteArray.ext
  rw [ByteArray.data_extract]
  unfold sb
  simp [List.map_take, List.map_drop, List.drop_take]
/-- What a round keeps of an iterator over a text: the text's box, and what walks. -/
def KW (bt : Nat) (A B : World) : Prop := B.heap[bt]? = A.heap[bt]? ∧ KeepsWalks A B
theorem KW.trans {bt : Nat} {A B C : World} (h : KW bt A B) (k : KW bt B C) : KW bt A C := ⟨k.1.trans h.1, h.2.trans k.2⟩
theorem KW.b {bt : Nat} {w : World} (hn : bt < w.heap.size) (W : World) (l : Nat) (o o' : Obj) (hl : w.heap.size ≤ l) (h : W.heap[l]? = some o) (h1 : o.isCells = false) (h2 : o.isWalk = false) : KW bt W (W.putObj l o') := ⟨World.putObj_heap_other (by omega), walksK_b W l o o' hl h h1 h2⟩
theorem KW.it {bt ig j : Nat} {A B : World} {S : ByteArray} (h : KW bt A B) (hi : It A ig S j) : It B ig S j := h.2.same ig _ hi rfl
theorem cur_nil {l : List Nat} {k j : Nat} (hk : k ≤ j) (hj : j ≤ l.length) : (l.take j).drop k = [] ↔ k = j := by
  rw [List.drop_eq_nil_iff, List.length_take]
  omega
theorem cur_next {l : List Nat} {k j : Nat} (hk : k ≤ j) (hj : j < l.length) : (l.take (j + 1)).drop k = (l.take j).drop k ++ [l.getD j 0] := by
  rw [List.take_succ_eq_append_getElem hj, List.drop_append_of_le_length (by rw [List.length_take]; omega)]
  congr 2
  simp [List.getD, hj]
theorem spl_next {l : List Nat} {k j : Nat} (hk : k ≤ j) (hj : j < l.length) (hb : blk (l.getD j 0) = false) : spl ((l.take j).drop k) (l.drop j) = spl ((l.take (j + 1)).drop k) (l.drop (j + 1)) := by
  have e : l.drop j = l.getD j 0 :: l.drop (j + 1) := by rw [List.drop_eq_getElem_cons hj]; simp [List.getD, hj]
  rw [e, spl, if_neg (by rw [hb]; simp), cur_next hk hj]
theorem spl_blank {l : List Nat} {k j : Nat} (hk : k ≤ j) (hj : j < l.length) (hb : blk (l.getD j 0) = true) : spl ((l.take j).drop k) (l.drop j) = (if k = j then [] else [(l.take j).drop k]) ++ spl ((l.take (j + 1)).drop (j + 1)) (l.drop (j + 1)) := by
  have e : l.drop j = l.getD j 0 :: l.drop (j + 1) := by rw [List.drop_eq_getElem_cons hj]; simp [List.getD, hj]
  have e2 : (l.take (j + 1)).drop (j + 1) = [] := (cur_nil (Nat.le_refl _) (by omega)).2 rfl
  rw [e, spl, if_pos hb, e2]
  by_cases h : k = j
  · rw [if_pos h, if_pos ((cur_nil hk (by omega)).2 h)]
    rfl
  · rw [if_neg h, if_neg (fun h2 => h ((cur_nil hk (by omega)).1 h2))]
    rfl
theorem spl_end22 {l : List Nat} {k : Nat} (hk : k ≤ l.length) : spl ((l.take l.length).drop k) (l.drop l.length) = if k = l.length then [] else [l.drop k] := by
  rw [List.drop_length, List.take_length, spl]
  by_cases h : k = l.length
  · rw [if_pos h, if_pos (by rw [List.drop_eq_nil_iff]; omega)]
  · rw [if_neg h, if_neg (by rw [List.drop_eq_nil_iff]; omega)]
set_option maxHeartbeats 4000000 in
theorem word1_in (n : Nat) (hn : 1 ≤ n) (lp bt : Nat) (l : List Nat) (hy : ∀ x ∈ l, x < 128) (hl : l.length ≤ 1048576) (J Jx : List (List Nat) → World → Prop) (W : World) (hA : AbidesFrom W.heap.size J)
    (hY : ∀ pre x W1, J pre W1 → pre.length < (spl [] l).length → YieldAt Fence.wide (n - 1) Tryz.prog lp #[.string (sb x)] W1 fun e W' => (e = .returned (.bool true) ∧ J (pre ++ [x]) W' ∧ KW bt W1 W') ∨ (e = .returned (.bool false) ∧ Jx (pre ++ [x]) W'))
    (hbt : bt < W.heap.size) (hct : W.cell? ⟨bt, 0, none⟩ = some (.string (sb l))) (h0 : J [] W) :
    CallsIn Fence.wide n Tryz.prog 66 #[.func (.yield lp) #[] #[], .pointer (some ⟨bt, 0, none⟩)] W fun e W' => (∃ v, e = .returned v) ∧ ((∃ ys, ys = spl [] l ∧ J ys W') ∨ (∃ pre, pre <+: spl [] l ∧ Jx pre W')) := by
  have hy2 : ∀ x ∈ l, x < 256 := fun x hx => by have := hy x hx; omega
  have HNL := hid (next_low l hy2)
  have HNE := hid (next_end l)
  have HCX : Hid (∀ i j : Nat, j ≤ l.length → (sb l).extract i j = sb ((l.take j).drop i)) := fun i j hj => sb_cut22 l i j hj
  have HSZ : Hid ((sb l).size = l.length) := sb_size l
  obtain ⟨q, HQ⟩ : ∃ z, Hid (l.length = z) := ⟨_, rfl⟩
  have HYY := hid hY
  have H128 : Hid (∀ j, j < l.length → l.getD j 0 < 128) := fun j hj => hy _ (by simp [List.getD, hj])
  obtain ⟨S, HS⟩ : ∃ z, Hid (sb l = z) := ⟨_, rfl⟩
  rw [HS.out] at HNL HNE HCX HSZ hct
  have HA := hid hA
  have hq2 : q ≤ 1048576 := by rw [← HQ.out]; exact hl
  have hsz : S.size = q := by rw [HSZ.out, HQ.out]
  clear hy hy2 hl hY hA
  refine callsIn_of_wp Tryz.func66 rfl trivial ?_ rfl
  simp only [Tryz.ntmps66, List.size_toArray, List.length_cons, List.length_nil, Nat.reduceAdd, Nat.reduceSub, Array.replicate_succ, Array.replicate_zero, List.push_toArray, List.append_toArray, List.nil_append, List.cons_append]
  gi_wp2_with fail
  have HI0 : Hid (It (W.iter S 0) W.heap.size S 0) := heap_alloc_new W _
  have HB0 : Hid (Below W.heap.size W (W.iter S 0)) := (Below.refl _ _).alloc (Nat.le_refl _) _
  have HJ0 : Hid (J [] (W.iter S 0)) := HA.out _ _ _ none h0 (World.grownBy_alloc W _ none) (fun r e => by cases e)
  obtain ⟨ig, HIG⟩ : ∃ z, Hid (W.heap.size = z) := ⟨_, rfl⟩
  have hct1 : (W.iter S 0).cell? ⟨bt, 0, none⟩ = some (.string S) := (HB0.out.cell (p := ⟨bt, 0, none⟩) hbt).trans hct
  have HWS : Hid (W.heap.size ≤ (W.iter S 0).heap.size) := HB0.out.size
  clear h0 hct
  generalize W.iter S 0 = w1 at *
  rw [HIG.out] at HI0 HA HWS hbt ⊢
  clear HB0
  gi_loopw [3, 4, 5] (fun b _ _ wr => ∃ (pre : List (List Nat)) (j k : Nat), b = .int .i64 (k : Int) ∧ k ≤ j ∧ j ≤ q ∧ Hid (spl [] l = pre ++ spl ((l.take j).drop k) (l.drop j)) ∧ Hid (It wr ig S j) ∧ Hid (J pre wr) ∧ wr.cell? ⟨bt, 0, none⟩ = some (.string S)) (fun _ _ _ wr => q - wr.iterPos ig)
  case atStart => exact ⟨[], 0, 0, rfl, Nat.le_refl _, by omega, (by show _ = _; simp), HI0, HJ0, hct1⟩
  case round =>
    obtain ⟨pre, j, k, rfl, hkj, hj, HP, HI, HJ, hct⟩ := hrel
    have hkj2 : (k : Int) ≤ (j : Int) := by omega
    by_cases hlt : j < q
    · have hlf : j < l.length := by rw [HQ.out]; exact hlt
      have hx := H128.out j hlf
      have hnx := HNL.out j hlf wr _ HI.out hx
      have hit2 : It (wr.iterAt ig S (j + 1)) ig S (j + 1) := Lib.iterAt_heap wr _ S j (j + 1) HI.out
      have HJ2 : Hid (J pre (wr.iterAt ig S (j + 1))) := HA.out _ _ _ (some ig) HJ.out ⟨rfl, rfl, rfl, by simp [World.iterAt], fun k hk hne => Lib.iterAt_other wr ig k S (j + 1) (fun e => hne (by rw [e]))⟩ (fun r e => by cases e; exact ⟨Nat.le_refl _, _, HI.out, rfl⟩)
      have hct2 : (wr.iterAt ig S (j + 1)).cell? ⟨bt, 0, none⟩ = some (.string S) := (World.cell?_of_block (w := wr) (a := ⟨bt, 0, none⟩) (Lib.iterAt_other wr ig bt S (j + 1) (by omega))).trans hct
      have HP1 := hid HI.out.pos
      have HI2 := hid hit2
      have HBN := hid fun hb => spl_next hkj hlf hb
      have HBB := hid fun hb => spl_blank hkj hlf hb
      have HCU := hid (HCX.out k j (by omega))
      have hz : (j : Int) ≤ (S.size : Int) := by omega
      generalize wr.iterAt ig S (j + 1) = w2 at *
      obtain ⟨x, HX⟩ : ∃ z, Hid (l.getD j 0 = z) := ⟨_, rfl⟩
      rw [HX.out] at hnx HBN HBB
      have k1 := isBlank_ (x : Int) w2
      clear hit2 HI HJ hct hx
      by_cases hb : x = 32 ∨ x = 9
      · rw [decide_eq_true (show (x : Int) = 32 ∨ (x : Int) = 9 by omega)] at k1
        have HE := hid (HBB.out (decide_eq_true hb))
        clear HBN HBB hb
        by_cases hkk : k = j
        · subst hkk
          have hlt2 : ¬ (k : Int) < (k : Int) := by omega
          have HE2 : Hid (spl [] l = pre ++ spl ((l.take (k + 1)).drop (k + 1)) (l.drop (k + 1))) := by
            show _ = _
            rw [HP.out, HE.out, if_pos rfl]
            rfl
          gi_wp2_with (first | (intro f hf; cases hf) | (refine ⟨trivial, ?_⟩; gi_at_call 65; refine (callsIn_wide.2 k1).mono ?_; rintro e w3 ⟨rfl, hw⟩; obtain rfl := hw.symm))
          refine ⟨fun f hf => (by cases hf), ?_⟩
          gi_wp2
          go_roundw
          case rel => exact ⟨pre, k + 1, k + 1, by first | rfl | go_num, Nat.le_refl _, by omega, HE2, HI2, HJ2, hct2⟩
          case measure => rw [HI2.out.pos, HP1.out]; omega
        · have hlt2 : (k : Int) < (j : Int) := by omega
          have HE2 : Hid (spl [] l = (pre ++ [(l.take j).drop k]) ++ spl ((l.take (j + 1)).drop (j + 1)) (l.drop (j + 1))) := by
            show _ = _
            rw [HP.out, HE.out, if_neg hkk, List.append_assoc]
          have hpl : pre.length < (spl [] l).length := by rw [HE2.out]; simp
          obtain ⟨fn, tmps, assign, body, hy, hR⟩ := HYY.out pre ((l.take j).drop k) w2 HJ2.out hpl
          rw [← HCU.out] at hy
          have HHR := hid hR
          clear hR hpl
          gi_wp2_with (first | (intro f hf; cases hf) | (refine ⟨trivial, ?_⟩; gi_at_call 65; refine (callsIn_wide.2 k1).mono ?_; rintro e w3 ⟨rfl, hw⟩; obtain rfl := hw.symm))
          refine HHR.out.mono ?_
          rintro e w4 (⟨rfl, hJ3, hk3⟩ | ⟨rfl, hJx3⟩)
          · have HI4 := hid (hk3.it HI2.out)
            have hct4 := (World.cell?_of_block (w := w2) (a := ⟨bt, 0, none⟩) hk3.1).trans hct2
            have HJ4 := hid hJ3
            clear hJ3 hk3 k1 hnx hy HHR
            gi_wp2
            go_roundw
            case rel => exact ⟨_, j + 1, j + 1, by first | rfl | go_num, Nat.le_refl _, by omega, HE2, HI4, HJ4, hct4⟩
            case measure => rw [HI4.out.pos, HP1.out]; omega
          · have HJ4 := hid hJx3
            clear hJx3 k1 hnx hy HHR
            gi_wp2
            refine bodyPost_ret (results_none rfl _ _ _) rfl ?_
            exact ⟨⟨_, rfl⟩, .inr ⟨_, ⟨_, HE2.out.symm⟩, HJ4.out⟩⟩
      · rw [decide_eq_false (show ¬ ((x : Int) = 32 ∨ (x : Int) = 9) by omega)] at k1
        have HE := hid (HBN.out (decide_eq_false hb))
        have HE2 : Hid (spl [] l = pre ++ spl ((l.take (j + 1)).drop k) (l.drop (j + 1))) := by
          show _ = _
          rw [HP.out, HE.out]
        clear HBN HBB hb
        gi_wp2_with (first | (intro f hf; cases hf) | (refine ⟨trivial, ?_⟩; gi_at_call 65; refine (callsIn_wide.2 k1).mono ?_; rintro e w3 ⟨rfl, hw⟩; obtain rfl := hw.symm))
        go_roundw
        case rel => exact ⟨pre, j + 1, k, rfl, by omega, by omega, HE2, HI2, HJ2, hct2⟩
        case measure => rw [HI2.out.pos, HP1.out]; omega
    · obtain rfl : j = q := by omega
      have hq := HQ.out
      have hie : It wr ig S l.length := by rw [hq]; exact HI.out
      have hnx := HNE.out wr _ hie
      have HE := hid (spl_end22 (l := l) (k := k) (by omega))
      have HCU := hid (HCX.out k l.length (Nat.le_refl _))
      rw [hq] at HCU
      have HPP := hid HP.out
      rw [← hq] at HPP
      have hzz : (S.size : Int) = (j : Int) := by omega
      clear HI HP hie
      by_cases hkk : k = j
      · have hlt2 : ¬ (k : Int) < (S.size : Int) := by omega
        have HE2 : Hid (pre = spl [] l) := by
          show _ = _
          rw [HPP.out, HE.out, if_pos (by omega), List.append_nil]
        clear HPP HE
        have HJF : Hid (J (spl [] l) wr) := by
          show J _ _
          rw [← HE2.out]
          exact HJ.out
        gi_wp2
        go_end0
        first
          | exact ⟨⟨_, rfl⟩, .inl ⟨_, rfl, HJF.out⟩⟩
          | exact ⟨⟨_, rfl⟩, .inl HJF.out⟩
      · have hlt2 : (k : Int) < (S.size : Int) := by omega
        have hle2 : (k : Int) ≤ (S.size : Int) := by omega
        have HE2 : Hid (pre ++ [l.drop k] = spl [] l) := by
          show _ = _
          rw [HPP.out, HE.out, if_neg (by omega)]
        have hpl : pre.length < (spl [] l).length := by rw [← HE2.out]; simp
        obtain ⟨fn, tmps, assign, body, hy, hR⟩ := HYY.out pre (l.drop k) wr HJ.out hpl
        have HCV : Hid (S.extract k j = sb (l.drop k)) := by
          show _ = _
          rw [HCU.out, ← hq, List.take_length]
        have hlt3 : (k : Int) < (j : Int) := by omega
        rw [← HCV.out] at hy
        have HHR := hid hR
        clear hR hpl HPP HE
        gi_wp2
        refine HHR.out.mono ?_
        rintro e w4 (⟨rfl, hJ3, hk3⟩ | ⟨rfl, hJx3⟩)
        · have HJ4 := hid hJ3
          clear hJ3 hk3 hnx hy HHR
          gi_wp2
          go_end0
          exact ⟨⟨_, rfl⟩, .inl ⟨_, HE2.out, HJ4.out⟩⟩
        · have HJ4 := hid hJx3
          clear hJx3 hnx hy HHR
          gi_wp2
          go_end0
          exact ⟨⟨_, rfl⟩, .inr ⟨_, ⟨[], by rw [List.append_nil, HE2.out]⟩, HJ4.out⟩⟩
theorem eachWord_ (S : ByteArray) (w : World) : Calls Tryz.prog 51 #[.string S] w fun e w' => e = .returned (.func (.func 66) #[] #[.pointer (some ⟨w.heap.size, 0, none⟩)]) ∧ w' = w.alloc (.cells #[.string S] 9) := by
  have hmf : ∀ fn first cap w, (Instr.makeFunc fn first cap).run Tryz.prog w = .ok (.func fn first cap) w := fun _ _ _ _ => rfl
  go_enter Tryz.func51, Tryz.ntmps51
  go_wp2_with fail
  go_ret
  exact ⟨rfl, rfl⟩
end Go.Proofs.YtkeogggeefnoeaaGreatDoor
namespace Go.Proofs.YtkeogggeefnoeaaGreatDoor
set_option linter.unusedSimpArgs false
open Go.RowKit Go.Shelf
set_option linter.unusedVariables false
set_option maxRecDepth 100000
attribute [local go_sem] Oper.semAt_some

/-! Reading: what is gathered from an iterator. -/
/-- A list in a boxed variable while it grows. -/
structure Gx (w : World) (S B : Nat) (lt et : TypeId) (sz n : Nat) (xs : List Value) (W : World) : Prop where
  out : ∃ v, Boxed W B lt v ∧ W.ownsRow S et sz v n xs
  bel : Below w.heap.size w W
  sz : S ≤ W.heap.size
section
variable {w W X Y w1 : World} {S B sz n m : Nat} {lt et : TypeId} {xs news : List Value}
theorem Gx.non {Bd : Nat} {row : Option Nat} (h : Gx w S B lt et sz n xs X) (hB : w.heap.size ≤ Bd) (hg : X.grownBy Y row) (hr : ∀ r, row = some r → Bd ≤ r ∧ ∃ o : Obj, X.heap[r]? = some o ∧ o.isCells = false) : Gx w S B lt et sz n xs Y := by
  obtain ⟨v, o1, o2⟩ := h.out
  exact ⟨⟨v, boxed_non o1 hg hr, own_non o2 hg hr⟩, h.bel.grown hg h.bel.size (fun k e => Nat.le_trans hB (hr k e).1), Nat.le_trans h.sz hg.size⟩
theorem Gx.on (h : Gx w S B lt et sz n xs X) (hb : Below X.heap.size X Y) : Gx w S B lt et sz n xs Y := by
  obtain ⟨v, o1, o2⟩ := h.out
  exact ⟨⟨v, (hb.block B o1.lt).trans o1, own_bel o2 hb⟩, bel_bel h.bel h.bel.size hb, Nat.le_trans h.sz hb.size⟩
/-- One more: the literal in a block of its own, the append, the store. -/
theorem Gx.push {o : Obj} {v v' : Value} (hbx : Boxed W B lt v) (ho : W.ownsRow S et sz v n xs) (bel : Below w.heap.size w W) (hsz : S ≤ W.heap.size) (hBS : B < S) (hwB : w.heap.size ≤ B) (hwS : w.heap.size ≤ S)
    (hown : w1.ownsRow S et sz v' (n + m) (xs ++ news)) (hg : (W.alloc o).grownBy w1 v.ownBlock) :
    Gx w S B lt et sz (n + m) (xs ++ news) (w1.setCell ⟨B, 0, none⟩ v') ∧ KeepsOthers W (w1.setCell ⟨B, 0, none⟩ v') ∧ (∀ k, k < S → k ≠ B → (w1.setCell ⟨B, 0, none⟩ v').heap[k]? = W.heap[k]?) ∧ w1.cell? ⟨B, 0, none⟩ = some v ∧ w1.frozen? ⟨B, 0, none⟩ = false := by
  have gal : W.grownBy (W.alloc o) none := World.grownBy_alloc W _ _
  have hnb : ∀ k, v.ownBlock = some k → S ≤ k := fun k ek => (ho.lt k ek).1
  have hoa : (W.alloc o).ownsRow S et sz v n xs := own_at' ho (fun g eg => by
    obtain ⟨cur, hc⟩ := own_ty ho eg
    exact Below.heap_alloc _ _ _ (Array.getElem?_eq_some_iff.1 hc).1)
  have kp : ∀ k, k < S → w1.heap[k]? = W.heap[k]? := fun k hk => (hg.block k (by rw [World.size_alloc]; omega) (fun ek => by have := hnb k ek.symm; omega)).trans (Below.heap_alloc _ _ _ (by omega))
  have x3 : Boxed w1 B lt v := (kp B hBS).trans hbx
  have sz1 : S ≤ w1.heap.size := by have := hg.size; rw [World.size_alloc] at this; omega
  refine ⟨⟨⟨v', x3.set _, own_at' hown (fun g eg => Below.heap_setCell _ _ _ _ (fun e2 => ?_))⟩, ?_, by simpa using sz1⟩, ?_, fun k hk hkB => (Below.heap_setCell _ _ _ _ (by show k ≠ B; exact hkB)).trans (kp k hk), x3.cell, x3.frozen⟩
  · have h1 := (hown.lt g eg).1
    simp only at e2
    omega
  · refine Below.setCell (bel.trans ⟨hg.os.trans gal.os, hg.tape.trans gal.tape, hg.output.trans gal.output, Nat.le_trans gal.size hg.size, fun k hk => kp k (by omega)⟩) ?_ _
    exact hwB
  · refine ((KeepsOthers.alloc W _).trans (KeepsOthers.of_grownBy hg (fun j o' ej hj => ?_))).trans (KeepsOthers.setCell _ _ _)
    obtain ⟨cur, hc⟩ := own_ty hoa ej
    have h2 : some o' = some (Obj.cells cur et (0, 0)) := hj.symm.trans hc
    cases h2
    rfl
end
theorem infoStr : (Tryz.prog.info? 9).map (fun i => (i.zero, i.size, i.bytes)) = some (some (.string ⟨#[]⟩), 1, 16) := by kernel_rfl
def wrow (ws : List (List Nat)) : List Value := ws.map fun x => .string (sb x)
theorem wv_own {w : World} {S n c : Nat} {a : Option Addr} {ws : List (List Nat)} (h : w.ownsRow S 9 1 (.slice a n c) n (wrow ws)) (hn : ws.length = n) : Wv w (fun x => S ≤ x) a n c ws := by
  obtain ⟨a', c', e, h1, h2, h3, _⟩ := own_slice h
  obtain ⟨rfl, -, rfl⟩ : a = a' ∧ True ∧ c = c' := by simpa using e
  refine ⟨hn, h1, h2, h3, ls_own h _ (fun i hi j u hu => ?_)⟩
  cases j with
  | succ j => simp at hu
  | zero =>
    simp at hu
    subst hu
    rw [Nat.mul_one, Nat.add_zero]
    unfold wrow
    rw [List.getElem?_map]
    simp [List.getD, show i < ws.length by omega]
/-- What listed answers. -/
def LdV (w : World) (l : List Nat) (e : Ending) (w' : World) : Prop :=
  if sgood l then ∃ a p, e = .returned (.tuple #[.slice a (wds l).length p, .int .i64 0]) ∧ Wv w' (fun x => w.heap.size ≤ x) a (wds l).length p (wds l)
  else e = .returned (.tuple #[.slice none 0 0, .int .i64 224])
theorem spl_len : ∀ (l cur : List Nat), (spl cur l).length ≤ l.length + 1
  | [], cur => by rw [spl]; split <;> simp
  | x :: l, cur => by
    rw [spl]
    have h1 := spl_len l []
    have h2 := spl_len l (cur ++ [x])
    split
    · split
      · simp; omega
      · simp; omega
    · simp; omega
theorem said_len : ∀ l : List Nat, (said l).length ≤ l.length
  | [] => Nat.le_refl _
  | x :: l => by
    have := said_len l
    rw [said]
    split
    · simp
    · simp; omega
theorem listed_ok (l : List Nat) (hy : ∀ x ∈ l, x < 256) (hl : l.length ≤ 1048576) (hg : sgood l = true) (w : World) : Calls Tryz.prog 32 #[.string (sb l)] w fun e w' => (∃ a p, e = .returned (.tuple #[.slice a (wds l).length p, .int .i64 0]) ∧ Wv w' (fun x => w.heap.size ≤ x) a (wds l).length p (wds l)) ∧ Below w.heap.size w w' := by
  have hmx : Tryz.prog.follows .mixedOrders = true := by kernel_rfl
  have k1 := fun w => uncommented_ l hy (by omega) w
  unfold UV at k1
  rw [if_pos hg] at k1
  have h128 : ∀ x ∈ said l, x < 128 := fun x hx => by
    have h1 := List.all_eq_true.1 (show (said l).all gd1 = true from hg) x hx
    unfold gd1 blk wch at h1
    simp at h1
    omega
  have hsl := said_len l
  have hwl := spl_len (said l) []
  unfold wds
  generalize said l = s at *
  obtain ⟨xs, HXS⟩ : ∃ z, Hid (spl [] s = z) := ⟨_, rfl⟩
  have HW1 := hid fun n hn lp bt J Jx W hA hY hbt hct h0 => word1_in n hn lp bt s h128 (by omega) J Jx W hA hY hbt hct h0
  rw [HXS.out] at HW1 hwl ⊢
  obtain ⟨Sx, HSX⟩ : ∃ z, Hid (sb s = z) := ⟨_, rfl⟩
  rw [HSX.out] at HW1
  simp only [HSX.out] at k1
  refine (callsIn_wide (n := 9)).1 ?_
  refine callsIn_of_wp_marks Tryz.func32 rfl trivial ?_ rfl
  simp only [Tryz.ntmps32, List.size_toArray, List.length_cons, List.length_nil, Nat.reduceAdd, Nat.reduceSub, Array.replicate_succ, Array.replicate_zero, List.push_toArray, List.append_toArray, List.nil_append, List.cons_append]
  gi_wp2_with (first | (refine ⟨trivial, ?_⟩; gi_at_call 50; refine (callsIn_wide.2 (k1 _)).mono ?_; rintro e0 w1 ⟨rfl, g1⟩) | (refine ⟨trivial, ?_⟩; gi_at_call 51; refine (callsIn_wide.2 (eachWord_ _ _)).mono ?_; rintro e0 w2 ⟨rfl, hw2⟩))
  clear hw2
  obtain ⟨W2, HW2⟩ : ∃ W2, Hid ((w1.alloc (.cells #[.slice none 0 0] 86)).alloc (.cells #[.string Sx] 9) = W2) := ⟨_, rfl⟩
  have sz2 : W2.heap.size = w1.heap.size + 1 + 1 := by rw [← HW2.out]; simp
  have bel2 : Below w.heap.size w W2 := by
    rw [← HW2.out]
    exact (g1.alloc g1.size _).alloc (by have := g1.size; simp; omega) _
  have b0 : Boxed W2 w1.heap.size 86 (.slice none 0 0) := by
    rw [← HW2.out]
    exact (Boxed.new w1 86 (.slice none 0 0)).alloc _
  have b1 : Boxed W2 (w1.heap.size + 1) 9 (.string Sx) := by
    rw [← HW2.out]
    have := Boxed.new (w1.alloc (.cells #[.slice none 0 0] 86)) 9 (.string Sx)
    simpa using this
  try rw [HW2.out]
  clear HW2
  have hw1 := g1.size
  generalize gB : w1.heap.size + 1 = B1 at *
  obtain ⟨B0, HB0⟩ : ∃ B0, Hid (w1.heap.size = B0) := ⟨_, rfl⟩
  have hB0 := HB0.out
  rw [hB0] at b0 ⊢
  have hBB : B0 < B1 ∧ B1 < W2.heap.size ∧ w.heap.size ≤ B0 := by omega
  have P2 : Gx w W2.heap.size B0 86 9 1 0 [] W2 := ⟨⟨_, b0, World.ownsRow_nil _ _ _ _⟩, bel2, Nat.le_refl _⟩
  have c1 := b1.cell
  have hseq : SeqStopsK Fence.wide 8 Tryz.prog 66 #[.pointer (some ⟨B1, 0, none⟩)] (fun x : List Nat => #[Value.string (sb x)]) (KW B1) (fun ys => ys = xs) (fun pre => pre <+: xs) xs.length W2 := fun lp J Jx W hW hA _ hY hJ0 =>
    HW1.out 8 (by omega) lp B1 J Jx W hA hY (by have := hW.size; omega) ((hW.cell (p := ⟨B1, 0, none⟩) hBB.2.1).trans c1) hJ0
  have hs2 := bel2.size
  clear b0 b1 c1 gB sz2 g1 hw1 HW1 k1
  refine with_act (fun A hA => ?_)
  refine wpIn_rangeFunc_ownH rfl (by omega) (gf := 66) (lb := #[.pointer (some ⟨B1, 0, none⟩)]) (by rw [hA]; rfl) trivial (enters_of Tryz.func66 (by kernel_rfl) rfl) hseq KW.trans
    (KW.b hBB.2.1) (Below.refl _ _) (fun _ => rfl)
    (fun pre W => Gx w W2.heap.size B0 86 9 1 pre.length (wrow pre) W)
    (fun c pre W => False)
    (fun pre X Y row hs hg hr => hs.non bel2.size hg hr)
    (fun c pre X Y row hs hg hr => hs)
    P2
    (fun x a' W => a' = { tmps := (A.tmps.setIfInBounds 18 (.string (sb x))).setIfInBounds 7 (.string (sb x)), defers := [] })
    (fun x a' _ X Y row hs hg hr => hs)
    ?assign ?body ?done ?stop
  case assign =>
    subst hA
    rintro lp pre x W K hI hK
    gi_wp2
    refine hK _ _ (KeepsFrom.refl _ _) ⟨rfl, KeepsWalks.refl _⟩ hI ?_
    simp only [List.setIfInBounds_toArray, List.set_cons_zero, List.set_cons_succ]
  case body =>
    subst hA
    rintro lp pre x a' W hlp _ hI ha hlt'
    simp only [List.setIfInBounds_toArray, List.set_cons_zero, List.set_cons_succ] at ha
    subst ha
    obtain ⟨⟨v, b3, ho⟩, bel, hsz⟩ := hI
    obtain ⟨av, cv, rfl, hvc, hvm, hvn, hva⟩ := own_slice ho
    have HRX : Hid (wrow (pre ++ [x]) = wrow pre ++ [.string (sb x)]) := by show _ = _; simp [wrow]
    have HPL : Hid ((pre ++ [x]).length = pre.length + 1) := by show _ = _; simp
    obtain ⟨X, HX⟩ : ∃ z, Hid (sb x = z) := ⟨_, rfl⟩
    rw [HX.out] at HRX ⊢
    obtain ⟨m, Hm⟩ : ∃ m, Hid (pre.length = m) := ⟨_, rfl⟩
    rw [Hm.out] at ho hvc hlt' HPL b3
    obtain ⟨L, HL⟩ : ∃ z, Hid (wrow pre = z) := ⟨_, rfl⟩
    rw [HL.out] at ho HRX
    obtain ⟨i, hi, hz0, hz1, hz2⟩ := info_parts infoStr
    have c3 := b3.cell
    have hc1 : (W.alloc (.cells #[.string X] 9)).cell? ⟨W.heap.size, 0, none⟩ = some (.string X) := (Boxed.new W 9 (.string X)).cell
    have ho2 : (W.alloc (.cells #[.string X] 9)).ownsRow W2.heap.size 9 1 (.slice av m cv) m L := own_at' ho (fun g eg => by
      obtain ⟨cur, hc⟩ := own_ty ho eg
      exact Below.heap_alloc _ _ _ (Array.getElem?_eq_some_iff.1 hc).1)
    have hwsz : W2.heap.size ≤ (W.alloc (.cells #[.string X] 9)).heap.size := by rw [World.size_alloc]; omega
    have HC1 := hid hc1
    have HO2 := hid ho2
    have HWS := hid hwsz
    have HO := hid ho
    have HBX := hid b3
    have HBEL := hid bel
    clear hc1 ho2 hwsz ho b3 bel
    gi_wp2_with (gi_at_builtin; refine wpListIn_append_own _ rfl _ _ 86 rfl W2.heap.size 9 i _ 1 16 Tryz.underlying86 hi hz0 hz1 hz2 rfl (by decide) (.slice av m cv) m L rfl (by exact HO2.out) ⟨W.heap.size, 0, none⟩ 1 1 [.string X] rfl rfl ?c1 ?c2 (by unfold maxLen at *; omega) (by omega) (by exact HWS.out) ?_)
    case c1 =>
      intro j u hj
      rw [Addr.add_lit, Nat.zero_add]
      match j, hj with
      | 0, hj => simp at hj; subst hj; exact HC1.out
      | j + 1, hj => simp at hj
    case c2 =>
      intro u hu
      simp at hu
      subst hu
      rfl
    intro v' w3 hown hg hv
    obtain ⟨a7, c7, rfl, _⟩ := own_slice hown
    obtain ⟨h1, h2, h3, h4, h5⟩ := Gx.push HBX.out HO.out HBEL.out hsz (by omega) hBB.2.2 (by omega) hown hg
    have HFIN : Hid (Gx w W2.heap.size B0 86 9 1 (pre ++ [x]).length (wrow (pre ++ [x])) (w3.setCell ⟨B0, 0, none⟩ (.slice a7 (m + 1) c7))) := by
      show Gx _ _ _ _ _ _ _ _ _
      rw [HPL.out, HRX.out]
      exact h1
    have HKF := hid (h2.from W2.heap.size)
    have HKW : Hid (KW B1 W (w3.setCell ⟨B0, 0, none⟩ (.slice a7 (m + 1) c7))) := ⟨h3 B1 hBB.2.1 (by omega), h2.walks⟩
    clear h1 h2 h3 hown hg hv c3
    gi_wp2
    exact ⟨HKF.out, HKW.out, HFIN.out⟩
  case done =>
    subst hA
    rintro D ys W hD rfl hI hK
    obtain ⟨⟨v, b3, ho⟩, bel, hsz⟩ := hI
    have c3 := b3.cell
    have HO := hid ho
    have HBEL := hid bel
    obtain ⟨av, cv, rfl, _⟩ := own_slice ho
    clear ho b3 bel
    gi_wp2
    refine ⟨by simp, .inl ⟨_, _, rfl, run_takeDeferred hK, ?_⟩⟩
    have BF := HBEL.out.trans (belowK_b (w := w) (Nat.le_refl _) _ D _ (.deferred none) (by omega) hK rfl rfl)
    refine ⟨.tuple #[.slice av ys.length cv, .int .i64 0], ?_, ⟨⟨av, cv, rfl, ?_⟩, BF⟩⟩
    · simp [results, Tryz.f32, go_sem]
    · exact wv_own (own_monoT (own_non (B := 0) HO.out (grownBy_putObj' _ D (.deferred none)) (fun r er => by cases er; exact ⟨Nat.zero_le _, _, hK, rfl⟩)) (by omega)) rfl
  case stop =>
    rintro D c pre W hD _ hf
    exact hf.elim
theorem listed_no (l : List Nat) (hy : ∀ x ∈ l, x < 256) (hl : l.length ≤ 1048576) (hg : ¬ sgood l = true) (w : World) : Calls Tryz.prog 32 #[.string (sb l)] w fun e w' => e = .returned (.tuple #[.slice none 0 0, .int .i64 224]) ∧ Below w.heap.size w w' := by
  have k1 := fun w => uncommented_ l hy (by omega) w
  unfold UV at k1
  rw [if_neg hg] at k1
  refine (callsIn_wide (n := 9)).1 ?_
  refine callsIn_of_wp_marks Tryz.func32 rfl trivial ?_ rfl
  simp only [Tryz.ntmps32, List.size_toArray, List.length_cons, List.length_nil, Nat.reduceAdd, Nat.reduceSub, Array.replicate_succ, Array.replicate_zero, List.push_toArray, List.append_toArray, List.nil_append, List.cons_append]
  gi_wp2_with (refine ⟨trivial, ?_⟩; gi_at_call 50; refine (callsIn_wide.2 (k1 _)).mono ?_; rintro e0 w1 ⟨rfl, g1⟩)
  exact ⟨.tuple #[.slice none 0 0, .int .i64 224], by simp [results, Tryz.f32, go_sem], rfl, g1⟩
theorem listed_ (l : List Nat) (hy : ∀ x ∈ l, x < 256) (hl : l.length ≤ 1048576) (w : World) : Calls Tryz.prog 32 #[.string (sb l)] w fun e w' => LdV w l e w' ∧ Below w.heap.size w w' := by
  by_cases hg : sgood l = true
  · refine (listed_ok l hy hl hg w).mono fun e w' h => ⟨?_, h.2⟩
    unfold LdV
    rw [if_pos hg]
    exact h.1
  · refine (listed_no l hy hl hg w).mono fun e w' h => ⟨?_, h.2⟩
    unfold LdV
    rw [if_neg hg]
    exact h.1
end Go.Proofs.YtkeogggeefnoeaaGreatDoor
namespace Go.Proofs.YtkeogggeefnoeaaGreatDoor
set_option linter.unusedSimpArgs false
open Go.RowKit Go.Shelf
set_option linter.unusedVariables false
set_option maxRecDepth 100000
attribute [local go_sem] Oper.semAt_some

/-! Reading: what stands between commas. -/
/-- Where the first comma stands. -/
def cx : List (List Nat) → Nat
  | [] => 0
  | x :: l => if x = [44] then 0 else cx l + 1
theorem cx_le : ∀ l : List (List Nat), cx l ≤ l.length
  | [] => Nat.le_refl _
  | x :: l => by
    have := cx_le l
    rw [cx]
    split
    · simp
    · simp; omega
theorem pcs_cx : ∀ (l cur : List (List Nat)), pcs cur l = (cur ++ l.take (cx l)) :: (if cx l < l.length then pcs [] (l.drop (cx l + 1)) else [])
  | [], cur => by simp [pcs, cx]
  | x :: l, cur => by
    by_cases e : x = [44]
    · rw [pcs, if_pos e, cx, if_pos e]
      simp
    · rw [pcs, if_neg e, pcs_cx l, cx, if_neg e]
      simp
theorem cx_at {l : List (List Nat)} {j : Nat} (h : ∀ i, i < j → l.getD i [] ≠ [44]) (hj : j < l.length) (he : l.getD j [] = [44]) : cx l = j := by
  induction l generalizing j with
  | nil => simp at hj
  | cons x l ih =>
    cases j with
    | zero =>
      have he : x = [44] := he
      rw [cx, if_pos he]
    | succ j =>
      have h0 : x ≠ [44] := h 0 (by omega)
      rw [cx, if_neg h0, ih (fun i hi => h (i + 1) (by omega)) (by simpa using hj) he]
theorem cx_no {l : List (List Nat)} (h : ∀ i, i < l.length → l.getD i [] ≠ [44]) : cx l = l.length := by
  induction l with
  | nil => rfl
  | cons x l ih =>
    have h0 : x ≠ [44] := h 0 (by simp)
    rw [cx, if_neg h0, ih (fun i hi => h (i + 1) (by simpa using hi))]
    simp
/-- All letters are bytes. -/
def Byw (ws : List (List Nat)) : Prop := ∀ x ∈ ws, ∀ y ∈ x, y < 256
theorem Byw.at {ws : List (List Nat)} (h : Byw ws) (i : Nat) : ∀ y ∈ ws.getD i [], y < 256 := fun y hy => by
  by_cases hi : i < ws.length
  · exact h (ws.getD i []) (by simp [List.getD, hi]) y hy
  · rw [show ws.getD i [] = [] by simp [List.getD, Nat.le_of_not_lt hi]] at hy
    simp at hy
def cxi (ws : List (List Nat)) : Int := if cx ws < ws.length then (cx ws : Int) else -1
set_option maxHeartbeats 1000000 in
theorem index_ (a : Option Addr) (n p : Nat) (ws : List (List Nat)) (hw : Byw ws) (V : Nat → Prop) (w : World) (h : Wv w V a n p ws) : Calls Tryz.prog 135 #[.slice a n p, .string ⟨#[44]⟩] w fun e w' => e = .returned (.int .i64 (cxi ws)) ∧ w' = w := by
  have HQ : Hid (∀ i, ((⟨#[44]⟩ : ByteArray).toList == (sb (ws.getD i [])).toList) = decide ([44] = ws.getD i [])) := fun i => sb_eq (a := [44]) (by decide) (hw.at i)
  have HAT := hid fun i (hi : i < n) => h.at hi
  have HLN := hid h.ln
  have hnp := h.np
  have hpm := h.pm
  unfold maxLen at hpm
  have HCA := hid fun j => cx_at (l := ws) (j := j)
  have HCN := hid (cx_no (l := ws))
  obtain ⟨r, HR⟩ : ∃ z, Hid (cxi ws = z) := ⟨_, rfl⟩
  have HRE : Hid (r = if cx ws < ws.length then (cx ws : Int) else -1) := HR.out.symm
  rw [HR.out]
  obtain ⟨K, HK⟩ : ∃ K : ByteArray, Hid ((⟨#[44]⟩ : ByteArray) = K) := ⟨_, rfl⟩
  rw [HK.out] at HQ ⊢
  clear h hw
  go_enter Tryz.func135, Tryz.ntmps135
  go_wp2_with fail
  go_loopw [8] (fun i wr => ∃ j : Nat, i = .int .i64 (j : Int) ∧ j ≤ n ∧ Hid (wr = w) ∧ Hid (∀ k, k < j → ws.getD k [] ≠ [44])) (fun i _ => n - (intOf i).toNat)
  case atStart => exact ⟨0, rfl, by omega, rfl, (by show ∀ k, _; intro k hk; omega)⟩
  case round =>
    obtain ⟨j, rfl, hj, HW, HN⟩ := hrel
    obtain rfl := HW.out
    by_cases hlt : j < n
    · obtain ⟨b, off, rfl, hc⟩ := HAT.out j hlt
      have q := HQ.out j
      have hs : ¬ ws.getD j [] = [44] → ∀ k, k < j + 1 → ws.getD k [] ≠ [44] := fun h k hk => by
        by_cases e : k = j
        · subst e; exact h
        · exact HN.out k (by omega)
      have hh : ws.getD j [] = [44] → r = (j : Int) := fun h => by
        have := HCA.out j HN.out (by rw [HLN.out]; exact hlt) h
        rw [HRE.out, this, if_pos (by rw [HLN.out]; exact hlt)]
      have HS := hid hs
      have HH := hid hh
      clear hs hh
      have h1 : (j : Int) < (n : Int) := by omega
      generalize ws.getD j [] = x at *
      by_cases hx : x = [44]
      · rw [decide_eq_true hx.symm] at q
        have HE := hid (HH.out hx)
        obtain ⟨X, HX⟩ : ∃ z, Hid (sb x = z) := ⟨_, rfl⟩
        rw [HX.out] at q hc
        clear HS HH hx
        go_wp2_with fail
        go_ret
        exact ⟨by rw [HE.out]; rfl, rfl⟩
      · rw [decide_eq_false (fun e => hx e.symm)] at q
        have HE := hid (HS.out hx)
        obtain ⟨X, HX⟩ : ∃ z, Hid (sb x = z) := ⟨_, rfl⟩
        rw [HX.out] at q hc
        clear HS HH hx
        go_wp2_with fail
        go_roundw
        case rel => exact ⟨j + 1, by first | rfl | go_num, by omega, hid True.intro, HE.out⟩
        case measure => simp [intOf]; omega
    · obtain rfl : j = n := by omega
      have HE : Hid (r = -1) := by
        show _ = _
        have := HCN.out (fun i hi => HN.out i (by rw [HLN.out] at hi; exact hi))
        rw [HRE.out, this, if_neg (by omega)]
      clear HN
      go_wp2_with fail
      go_ret
      exact ⟨by rw [HE.out]; rfl, rfl⟩
/-- Words that are letters, none too long. -/
def Gw (ws : List (List Nat)) : Prop := ∀ x ∈ ws, (∀ y ∈ x, y < 256) ∧ x.length ≤ 1048576
theorem Gw.byw {ws : List (List Nat)} (h : Gw ws) : Byw ws := fun x hx => (h x hx).1
theorem Gw.at {ws : List (List Nat)} (h : Gw ws) (i : Nat) : (∀ y ∈ ws.getD i [], y < 256) ∧ (ws.getD i []).length ≤ 1048576 := by
  by_cases hi : i < ws.length
  · exact h (ws.getD i []) (by simp [List.getD, hi])
  · rw [show ws.getD i [] = [] by simp [List.getD, Nat.le_of_not_lt hi]]
    exact ⟨by simp, by simp⟩
theorem Gw.drop {ws : List (List Nat)} (h : Gw ws) (k : Nat) : Gw (ws.drop k) := fun x hx => h x (List.mem_of_mem_drop hx)
theorem Gw.take {ws : List (List Nat)} (h : Gw ws) (k : Nat) : Gw (ws.take k) := fun x hx => h x (List.mem_of_mem_take hx)
/-- Words that lie somewhere. -/
structure WP where
  a : Option Addr
  n : Nat
  p : Nat
  ws : List (List Nat)
abbrev Wq (w : World) (V : Nat → Prop) := { y : WP // Wv w V y.a y.n y.p y.ws ∧ Gw y.ws }
def lenOf : Value → Nat
  | .slice _ n _ => n
  | _ => 0
/-- What a round keeps: what is old, and the words' box. -/
def KB (n₀ bt : Nat) (A B : World) : Prop := Below n₀ A B ∧ B.heap[bt]? = A.heap[bt]?
theorem KB.trans {n₀ bt : Nat} {A B C : World} (h : KB n₀ bt A B) (k : KB n₀ bt B C) : KB n₀ bt A C := ⟨h.1.trans k.1, k.2.trans h.2⟩
theorem KB.b {n₀ bt : Nat} {w : World} (hn : n₀ ≤ w.heap.size) (hb : bt < w.heap.size) (W : World) (l : Nat) (o o' : Obj) (hl : w.heap.size ≤ l) (h : W.heap[l]? = some o) (h1 : o.isCells = false) (h2 : o.isWalk = false) : KB n₀ bt W (W.putObj l o') := ⟨belowK_b hn W l o o' hl h h1 h2, World.putObj_heap_other (by omega)⟩
set_option maxHeartbeats 4000000 in
theorem part1_in (m : Nat) (hm : 1 ≤ m) (lp bt : Nat) (w0 : World) (V : Nat → Prop) (a : Option Addr) (n p : Nat) (ws : List (List Nat)) (hw : Gw ws) (h : Wv w0 V a n p ws) (J Jx : List (Wq w0 V) → World → Prop) (W : World) (hA : AbidesFrom W.heap.size J)
    (hY : ∀ pre x W1, J pre W1 → pre.length < (pcs [] ws).length → YieldAt Fence.wide (m - 1) Tryz.prog lp #[.slice x.1.a x.1.n x.1.p] W1 fun e W' => (e = .returned (.bool true) ∧ J (pre ++ [x]) W' ∧ KB w0.heap.size bt W1 W') ∨ (e = .returned (.bool false) ∧ Jx (pre ++ [x]) W'))
    (hbt : bt < W.heap.size) (hW : Below w0.heap.size w0 W) (hct : W.cell? ⟨bt, 0, none⟩ = some (.slice a n p)) (h0 : J [] W) :
    CallsIn Fence.wide m Tryz.prog 134 #[.func (.yield lp) #[] #[], .pointer (some ⟨bt, 0, none⟩)] W fun e W' => (∃ v, e = .returned v) ∧ ((∃ ys : List (Wq w0 V), ys.map (·.1.ws) = pcs [] ws ∧ J ys W') ∨ (∃ pre : List (Wq w0 V), pre.map (·.1.ws) <+: pcs [] ws ∧ Jx pre W')) := by
  have HK1 := hid fun (a : Option Addr) (n p : Nat) (ws : List (List Nat)) (hw : Byw ws) (w : World) (h : Wv w V a n p ws) => index_ a n p ws hw V w h
  have HYY := hid hY
  have HA := hid hA
  have HWW := hid hW
  have HV := hid h
  have HB := hid hw
  have k0 := HK1.out a n p ws hw.byw W (h.on hW)
  clear hY hA hW h hw
  refine callsIn_of_wp Tryz.func134 rfl trivial ?_ rfl
  simp only [Tryz.ntmps134, List.size_toArray, List.length_cons, List.length_nil, Nat.reduceAdd, Nat.reduceSub, Array.replicate_succ, Array.replicate_zero, List.push_toArray, List.append_toArray, List.nil_append, List.cons_append]
  gi_wp2_with (refine ⟨trivial, ?_⟩; gi_at_call 135; refine (callsIn_wide.2 k0).mono ?_; rintro e w3 ⟨rfl, hw⟩; obtain rfl := hw.symm)
  clear k0
  gi_loopw [3, 4] (fun r i wr => ∃ (pre : List (Wq w0 V)) (y : WP), r = .slice y.a y.n y.p ∧ i = .int .i64 (cxi y.ws) ∧ Hid (Wv w0 V y.a y.n y.p y.ws) ∧ Hid (Gw y.ws) ∧ Hid (pcs [] ws = pre.map (·.1.ws) ++ pcs [] y.ws) ∧ Hid (J pre wr) ∧ Hid (Below w0.heap.size w0 wr) ∧ wr.cell? ⟨bt, 0, none⟩ = some (.slice a n p)) (fun r _ _ => lenOf r)
  case atStart => exact ⟨[], ⟨a, n, p, ws⟩, rfl, rfl, HV.out, HB.out, (by show _ = _; simp), h0, HWW.out, hct⟩
  case round =>
    clear h0 hct HV HB
    obtain ⟨pre, ⟨a', n', p', ws'⟩, rfl, rfl, HV, HB, HP, HJ, HBW, hct⟩ := hrel
    simp only at HV HB HP ⊢
    have HPC : Hid (pcs [] ws' = ws'.take (cx ws') :: (if cx ws' < ws'.length then pcs [] (ws'.drop (cx ws' + 1)) else [])) := pcs_cx ws' []
    have HLN := hid HV.out.ln
    have hpm := HV.out.pm
    have hnp := HV.out.np
    unfold maxLen at hpm
    have hlen : pre.length < (pcs [] ws).length := by
      rw [HP.out, HPC.out]
      simp
    have HLE := hid hlen
    obtain ⟨c, HC⟩ : ∃ z, Hid (cx ws' = z) := ⟨_, rfl⟩
    obtain ⟨ci, HCI⟩ : ∃ z, Hid (cxi ws' = z) := ⟨_, rfl⟩
    have hci : ci = if c < n' then (c : Int) else -1 := by
      rw [← HCI.out, ← HC.out, ← HLN.out]
      rfl
    rw [HC.out, HLN.out] at HPC
    rw [HCI.out]
    by_cases hlt : c < n'
    · rw [if_pos hlt] at hci HPC
      subst hci
      obtain ⟨hs1, V1⟩ := list_to (k := c) HV.out (by omega)
      obtain ⟨a2, hs2, V2⟩ := list_of (k := c + 1) HV.out (by omega)
      rw [show ((c + 1 : Nat) : Int) = (c : Int) + 1 by omega] at hs2
      have HE2 : Hid (pcs [] ws = (pre ++ [⟨⟨a', c, p', ws'.take c⟩, V1, HB.out.take c⟩] : List (Wq w0 V)).map (·.1.ws) ++ pcs [] (ws'.drop (c + 1))) := by
        show _ = _
        rw [HP.out, HPC.out]
        simp
      obtain ⟨fn, tmps, assign, body, hy, hR⟩ := HYY.out pre ⟨⟨a', c, p', ws'.take c⟩, V1, HB.out.take c⟩ wr HJ.out HLE.out
      have HV2 := hid V2
      have HV1 := hid V1
      have HB2 : Hid (Gw (ws'.drop (c + 1))) := HB.out.drop (c + 1)
      simp only at hy
      have i0 : (0 : Int) ≤ (c : Int) := by omega
      have HHR := hid hR
      have k2 := fun w h => HK1.out a2 (n' - (c + 1)) (p' - (c + 1)) (ws'.drop (c + 1)) HB2.out.byw w h
      clear hR hlen V2
      gi_wp2
      refine HHR.out.mono ?_
      rintro e w4 (⟨rfl, hJ3, hk3⟩ | ⟨rfl, hJx3⟩)
      · have HB4 := hid (HBW.out.trans hk3.1)
        have hct4 := (World.cell?_of_block (w := wr) (a := ⟨bt, 0, none⟩) hk3.2).trans hct
        have HJ4 := hid hJ3
        have k3 := k2 w4 (HV2.out.on HB4.out)
        clear hJ3 hk3 hy HHR k2
        gi_wp2_with (refine ⟨trivial, ?_⟩; gi_at_call 135; refine (callsIn_wide.2 k3).mono ?_; rintro e w5 ⟨rfl, hw5⟩; obtain rfl := hw5.symm)
        go_roundw
        case rel => exact ⟨_, ⟨a2, n' - (c + 1), p' - (c + 1), ws'.drop (c + 1)⟩, rfl, rfl, HV2.out, HB2.out, HE2.out, HJ4.out, HB4.out, hct4⟩
        case measure => simp [lenOf]; omega
      · have HJ4 := hid hJx3
        have ilt : ¬ (c : Int) < 0 := by omega
        clear hJx3 hy HHR k2
        gi_wp2
        go_end0
        exact ⟨⟨_, rfl⟩, .inr ⟨_, ⟨_, HE2.out.symm⟩, HJ4.out⟩⟩
    · rw [if_neg hlt] at hci HPC
      subst hci
      have hc : c = n' := by have := cx_le ws'; rw [HC.out, HLN.out] at this; omega
      have HE2 : Hid ((pre ++ [⟨⟨a', n', p', ws'⟩, HV.out, HB.out⟩] : List (Wq w0 V)).map (·.1.ws) = pcs [] ws) := by
        show _ = _
        have ht : ws'.take n' = ws' := by rw [← HLN.out, List.take_length]
        rw [HP.out, HPC.out, hc, ht]
        simp
      obtain ⟨fn, tmps, assign, body, hy, hR⟩ := HYY.out pre ⟨⟨a', n', p', ws'⟩, HV.out, HB.out⟩ wr HJ.out HLE.out
      simp only at hy
      have HHR := hid hR
      clear hR hlen
      gi_wp2
      refine ⟨fun f hf => (by cases hf), ?_⟩
      gi_wp2
      refine HHR.out.mono ?_
      rintro e w4 (⟨rfl, hJ3, hk3⟩ | ⟨rfl, hJx3⟩)
      · have HJ4 := hid hJ3
        clear hJ3 hk3 hy HHR
        gi_wp2
        go_end0
        exact ⟨⟨_, rfl⟩, .inl ⟨_, HE2.out, HJ4.out⟩⟩
      · have HJ4 := hid hJx3
        clear hJx3 hy HHR
        gi_wp2
        go_end0
        exact ⟨⟨_, rfl⟩, .inr ⟨_, ⟨[], by rw [List.append_nil, HE2.out]⟩, HJ4.out⟩⟩
theorem eachPart_ (a : Option Addr) (n p : Nat) (w : World) : Calls Tryz.prog 114 #[.slice a n p] w fun e w' => e = .returned (.func (.func 134) #[] #[.pointer (some ⟨w.heap.size, 0, none⟩)]) ∧ w' = w.alloc (.cells #[.slice a n p] 86) := by
  have hmf : ∀ fn first cap w, (Instr.makeFunc fn first cap).run Tryz.prog w = .ok (.func fn first cap) w := fun _ _ _ _ => rfl
  go_enter Tryz.func114, Tryz.ntmps114
  go_wp2_with fail
  go_ret
  exact ⟨rfl, rfl⟩
end Go.Proofs.YtkeogggeefnoeaaGreatDoor
namespace Go.Proofs.YtkeogggeefnoeaaGreatDoor
set_option linter.unusedSimpArgs false
open Go.RowKit Go.Shelf
set_option linter.unusedVariables false
set_option maxRecDepth 100000
attribute [local go_sem] Oper.semAt_some

/-! Reading: lines. -/
theorem cutL_ix : ∀ (l cur : List Nat), cutL cur l = (cur ++ l.take (ix 10 l)) :: (if ix 10 l < l.length then cutL [] (l.drop (ix 10 l + 1)) else [])
  | [], cur => by simp [cutL, ix]
  | x :: l, cur => by
    by_cases e : x = 10
    · rw [cutL, if_pos e, ix, if_pos e]
      simp
    · rw [cutL, if_neg e, cutL_ix l, ix, if_neg e]
      simp
/-- Lines of a text are parts of it. -/
theorem cutL_mem : ∀ (l cur : List Nat) (P : Nat → Prop), (∀ x ∈ cur, P x) → (∀ x ∈ l, P x) → ∀ y ∈ cutL cur l, ∀ x ∈ y, P x
  | [], cur, P, hc, hl, y, hy, x, hx => by
    rw [cutL, List.mem_singleton] at hy
    subst hy
    exact hc x hx
  | z :: l, cur, P, hc, hl, y, hy, x, hx => by
    have hl' : ∀ x ∈ l, P x := fun x hx => hl x (List.mem_cons_of_mem _ hx)
    rw [cutL] at hy
    split at hy
    · rcases List.mem_cons.1 hy with rfl | hy
      · exact hc x hx
      · exact cutL_mem l [] P (by simp) hl' y hy x hx
    · refine cutL_mem l _ P (fun u hu => ?_) hl' y hy x hx
      rcases List.mem_append.1 hu with hu | hu
      · exact hc u hu
      · rw [List.mem_singleton.1 hu]
        exact hl z List.mem_cons_self
theorem cutL_len : ∀ (l cur : List Nat), ∀ y ∈ cutL cur l, y.length ≤ cur.length + l.length
  | [], cur, y, hy => by
    rw [cutL, List.mem_singleton] at hy
    subst hy
    simp
  | z :: l, cur, y, hy => by
    rw [cutL] at hy
    split at hy
    · rcases List.mem_cons.1 hy with rfl | hy
      · omega
      · have := cutL_len l [] y hy
        simp at this ⊢
        omega
    · have := cutL_len l _ y hy
      simp at this ⊢
      omega
theorem cutL_many : ∀ (l cur : List Nat), (cutL cur l).length ≤ l.length + 1
  | [], cur => by simp [cutL]
  | z :: l, cur => by
    rw [cutL]
    have h1 := cutL_many l []
    have h2 := cutL_many l (cur ++ [z])
    split
    · simp; omega
    · simp; omega
set_option maxHeartbeats 4000000 in
theorem line1_in (m : Nat) (hm : 1 ≤ m) (lp bt : Nat) (t : List Nat) (hy : ∀ x ∈ t, x < 256) (hl : t.length ≤ 1048576) (J Jx : List Nat → World → Prop) (W : World) (hA : AbidesFrom W.heap.size J)
    (hY : ∀ pre x W1, J pre W1 → pre.length < (cutL [] t).length → YieldAt Fence.wide (m - 1) Tryz.prog lp #[.int .i64 ((x + 1 : Nat) : Int), .string (sb ((cutL [] t).getD x []))] W1 fun e W' => (e = .returned (.bool true) ∧ J (pre ++ [x]) W' ∧ True) ∨ (e = .returned (.bool false) ∧ Jx (pre ++ [x]) W'))
    (hct : W.cell? ⟨bt, 0, none⟩ = some (.string (sb t))) (h0 : J [] W) :
    CallsIn Fence.wide m Tryz.prog 30 #[.func (.yield lp) #[] #[], .pointer (some ⟨bt, 0, none⟩)] W fun e W' => (∃ v, e = .returned v) ∧ ((∃ ys, ys = List.range (cutL [] t).length ∧ J ys W') ∨ (∃ pre, pre <+: List.range (cutL [] t).length ∧ Jx pre W')) := by
  have HC1 := hid fun (l : List Nat) (w : World) (hy : ∀ x ∈ l, x < 256) (hl : l.length ≤ 1048576) => (show Calls Tryz.prog 31 #[.string (sb l), .string ⟨#[10]⟩] w fun e w' => e = .returned (.tuple #[.string (sb (l.take (ix 10 l))), .string (sb (l.drop (ix 10 l + 1))), .bool (decide (ix 10 l < l.length))]) ∧ ∃ nq, w' = w.drewN nq from cut_ 10 l w (by decide) hy (by unfold maxLen; omega))
  have HYY := hid hY
  have HA := hid fun pre W' nq (h : J pre W') => hA pre W' (W'.drewN nq) none h (grown_drewN W' nq none) (fun r e => by cases e)
  have HT0 : Hid (cutL [] t = t.take (ix 10 t) :: (if ix 10 t < t.length then cutL [] (t.drop (ix 10 t + 1)) else [])) := cutL_ix t []
  have HBY := hid hy
  have HLE := hid hl
  have k0 := HC1.out t W hy hl
  have hmany := cutL_many t []
  obtain ⟨ls, HLS⟩ : ∃ z, Hid (cutL [] t = z) := ⟨_, rfl⟩
  rw [HLS.out] at HYY HT0 hmany ⊢
  clear hY hA hy
  refine callsIn_of_wp Tryz.func30 rfl trivial ?_ rfl
  simp only [Tryz.ntmps30, List.size_toArray, List.length_cons, List.length_nil, Nat.reduceAdd, Nat.reduceSub, Array.replicate_succ, Array.replicate_zero, List.push_toArray, List.append_toArray, List.nil_append, List.cons_append]
  gi_wp2_with (refine ⟨trivial, ?_⟩; gi_at_call 31; refine (callsIn_wide.2 k0).mono ?_; rintro e w3 ⟨rfl, nq, rfl⟩)
  have HJ0 := hid (HA.out [] W nq h0)
  clear k0 h0 hct
  generalize W.drewN nq = w1 at *
  gi_loopw [3, 4, 5, 6] (fun ln rs mo no wr => ∃ (k : Nat) (rl : List Nat) (mb : Bool), no = .int .i64 ((k + 1 : Nat) : Int) ∧ k < ls.length ∧ ln = .string (sb (ls.getD k [])) ∧ rs = .string (sb rl) ∧ mo = .bool mb ∧ Hid (ls.drop (k + 1) = if mb then cutL [] rl else []) ∧ Hid (∀ x ∈ rl, x < 256) ∧ rl.length ≤ 1048576 ∧ Hid (J (List.range k) wr)) (fun ln rs mo no _ => (ls.length + 1 - (intOf no).toNat))
  case atStart =>
    refine ⟨0, t.drop (ix 10 t + 1), decide (ix 10 t < t.length), by first | rfl | simp, by rw [HT0.out]; simp, by rw [HT0.out]; rfl, rfl, rfl, ?_, fun x hx => HBY.out x (List.mem_of_mem_drop hx), by rw [List.length_drop]; omega, HJ0.out⟩
    show _ = _
    rw [HT0.out]
    by_cases h : ix 10 t < t.length <;> simp [h]
  case round =>
    clear HJ0 HT0
    obtain ⟨k, rl, mb, rfl, hk, rfl, rfl, rfl, HD, HB, hrl, HJ⟩ := hrel
    obtain ⟨fn, tmps, assign, body, hy, hR⟩ := HYY.out (List.range k) k wr HJ.out (by rw [List.length_range]; exact hk)
    have HSU : Hid (List.range k ++ [k] = List.range (k + 1)) := List.range_succ.symm
    have HHR := hid hR
    clear hR
    obtain ⟨X, HX⟩ : ∃ z, Hid (sb (ls.getD k []) = z) := ⟨_, rfl⟩
    rw [HX.out] at hy ⊢
    obtain ⟨N, HN⟩ : ∃ z, Hid (((k + 1 : Nat) : Int) = z) := ⟨_, rfl⟩
    rw [HN.out] at hy ⊢
    have HN2 : Hid (N = (k : Int) + 1) := by show _ = _; rw [← HN.out]; omega
    have hN2 : 0 ≤ N := by have := HN2.out; omega
    have hN3 : N ≤ 2000000 := by have := HN2.out; omega
    cases mb with
    | true =>
      have HDR : Hid (ls.drop (k + 1) = rl.take (ix 10 rl) :: (if ix 10 rl < rl.length then cutL [] (rl.drop (ix 10 rl + 1)) else [])) := by
        show _ = _
        rw [HD.out, if_pos rfl, cutL_ix]
        rfl
      have hk2 : k + 1 < ls.length := by
        have : (ls.drop (k + 1)).length ≠ 0 := by rw [HDR.out]; simp
        rw [List.length_drop] at this
        omega
      have HG : Hid (ls.getD (k + 1) [] = rl.take (ix 10 rl)) := by
        show _ = _
        have : (ls.drop (k + 1)).getD 0 [] = ls.getD (k + 1) [] := by simp [List.getD]
        rw [← this, HDR.out]
        rfl
      have HD2 : Hid (ls.drop (k + 1 + 1) = if decide (ix 10 rl < rl.length) then cutL [] (rl.drop (ix 10 rl + 1)) else []) := by
        show _ = _
        have : (ls.drop (k + 1)).drop 1 = ls.drop (k + 1 + 1) := by rw [List.drop_drop]
        rw [← this, HDR.out]
        by_cases h : ix 10 rl < rl.length <;> simp [h]
      have HB2 : Hid (∀ x ∈ rl.drop (ix 10 rl + 1), x < 256) := fun x hx => HB.out x (List.mem_of_mem_drop hx)
      have hl2 : (rl.drop (ix 10 rl + 1)).length ≤ 1048576 := by rw [List.length_drop]; omega
      clear HD HDR
      gi_wp2
      refine HHR.out.mono ?_
      rintro e w4 (⟨rfl, hJ3, -⟩ | ⟨rfl, hJx3⟩)
      · have k2 := HC1.out rl w4 HB.out hrl
        have HJ4 := hid hJ3
        rw [HSU.out] at HJ4
        clear hJ3 hy HHR
        gi_wp2_with (refine ⟨trivial, ?_⟩; gi_at_call 31; refine (callsIn_wide.2 k2).mono ?_; rintro e w5 ⟨rfl, nq2, rfl⟩)
        go_roundw
        case rel => exact ⟨k + 1, rl.drop (ix 10 rl + 1), decide (ix 10 rl < rl.length), by have := HN2.out; congr 1; omega, hk2, by rw [HG.out], rfl, rfl, HD2.out, HB2.out, hl2, HA.out _ _ _ HJ4.out⟩
        case measure => have := HN2.out; simp [intOf]; omega
      · have HJ4 := hid hJx3
        clear hJx3 hy HHR
        gi_wp2
        go_end0
        rw [HSU.out] at HJ4
        exact ⟨⟨_, rfl⟩, .inr ⟨_, ⟨List.drop (k + 1) (List.range ls.length), by
          have := List.take_append_drop (k + 1) (List.range ls.length)
          rwa [List.take_range, Nat.min_eq_left (by omega)] at this⟩, HJ4.out⟩⟩
    | false =>
      have hk3 : k + 1 = ls.length := by
        have := HD.out
        rw [if_neg (by simp), List.drop_eq_nil_iff] at this
        omega
      clear HD HB
      gi_wp2
      refine HHR.out.mono ?_
      rintro e w4 (⟨rfl, hJ3, -⟩ | ⟨rfl, hJx3⟩)
      · have HJ4 := hid hJ3
        rw [HSU.out, hk3] at HJ4
        clear hJ3 hy HHR
        gi_wp2
        go_end0
        first
          | exact ⟨⟨_, rfl⟩, .inl ⟨_, rfl, HJ4.out⟩⟩
          | exact ⟨⟨_, rfl⟩, .inl HJ4.out⟩
      · have HJ4 := hid hJx3
        rw [HSU.out, hk3] at HJ4
        clear hJx3 hy HHR
        gi_wp2
        go_end0
        exact ⟨⟨_, rfl⟩, .inr ⟨_, ⟨[], by rw [List.append_nil]⟩, HJ4.out⟩⟩
theorem lines_ (S : ByteArray) (w : World) : Calls Tryz.prog 21 #[.string S] w fun e w' => e = .returned (.func (.func 30) #[] #[.pointer (some ⟨w.heap.size, 0, none⟩)]) ∧ w' = w.alloc (.cells #[.string S] 9) := by
  have hmf : ∀ fn first cap w, (Instr.makeFunc fn first cap).run Tryz.prog w = .ok (.func fn first cap) w := fun _ _ _ _ => rfl
  go_enter Tryz.func21, Tryz.ntmps21
  go_wp2_with fail
  go_ret
  exact ⟨rfl, rfl⟩
end Go.Proofs.YtkeogggeefnoeaaGreatDoor
