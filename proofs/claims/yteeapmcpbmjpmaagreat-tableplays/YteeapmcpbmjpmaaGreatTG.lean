import Derived.Test.YteeapmcpbmjpmaaGreatTF
namespace Go.Proofs.YteeapmcpbmjpmaaGreat
set_option maxRecDepth 100000
open Go.RowKit Go.Maps
set_option linter.unusedVariables false

def lkey : List Int → List Sx → List Int
  | last, [] => last
  | _, s :: l => lkey s.k l
theorem lkey_snoc : ∀ (l : List Sx) (last : List Int) (s : Sx), lkey last (l ++ [s]) = s.k
  | [], _, _ => rfl
  | x :: l, _, s => lkey_snoc l x.k s
theorem okFrom_snoc : ∀ (l : List Sx) (last : List Int) (s : Sx), okFrom last (l ++ [s]) = (okFrom last l && (mayS s && lx (lkey last l) s.k))
  | [], last, s => by simp [okFrom, lkey]
  | x :: l, last, s => by
    rw [List.cons_append, okFrom, okFrom_snoc l x.k s, okFrom, lkey]
    simp [Bool.and_assoc]
theorem okFrom_pre : ∀ (l m : List Sx) (last : List Int), okFrom last (l ++ m) = true → okFrom last l = true
  | [], _, _, _ => rfl
  | x :: l, m, last, h => by
    rw [List.cons_append, okFrom, Bool.and_eq_true, Bool.and_eq_true] at h
    rw [okFrom, h.1.1, h.1.2, okFrom_pre l m _ h.2]
    rfl
theorem take_snoc {l : List Sx} {k : Nat} (hk : k < l.length) : l.take (k + 1) = l.take k ++ [l.getD k default] := by
  rw [List.take_succ_eq_append_getElem hk]
  simp [List.getD, hk]
theorem okS_no {l : List Sx} {k : Nat} (hk : k < l.length) (h : (mayS (l.getD k default) && lx (lkey [] (l.take k)) (l.getD k default).k) = false) : okS l = false := by
  cases e : okS l with
  | false => rfl
  | true =>
    have : okFrom [] (l.take (k + 1)) = true := okFrom_pre (l.take (k + 1)) (l.drop (k + 1)) [] (by rw [List.take_append_drop]; exact e)
    rw [take_snoc hk, okFrom_snoc, h] at this
    simp at this
theorem okS_yes {l : List Sx} {k : Nat} (hk : k < l.length) (h0 : okFrom [] (l.take k) = true) (h : (mayS (l.getD k default) && lx (lkey [] (l.take k)) (l.getD k default).k) = true) : okFrom [] (l.take (k + 1)) = true := by
  rw [take_snoc hk, okFrom_snoc, h0, h]
  rfl
theorem enc_le : ∀ (l : List Sx), (∀ s ∈ l, mayS s = true) → (enc l).length ≤ l.length * 524
  | [], _ => by simp [enc]
  | s :: l, h => by
    have e : enc (s :: l) = enc1 s ++ enc l := by simp [enc]
    have h1 := mayS_key (h s (by simp))
    have h2 := mayS_val (h s (by simp))
    have h3 := enc_le l (fun x hx => h x (by simp [hx]))
    rw [e, List.length_append, enc1_len]
    simp only [List.length_cons]
    omega
theorem may_of {l : List Sx} {last : List Int} (h : okFrom last l = true) : ∀ s ∈ l, mayS s = true := List.all_eq_true.1 (okFrom_may h)
/-- append of bytes that came in, nil or not, to a row of one's own. -/
theorem wpList_appT {w : World} {ops : Array Oper} {rest : List Oper} {o : Oper} {act : Act} {Q : Exit → Act → World → Prop} (hgd : o.guard = none) (s x : Operand)
    (ho : o.op = .call { callee := .builtin .append, args := #[s, x], argTypes := #[35, 35] })
    (base : Nat) (v : Value) (n : Nat) (X : List Int) (hs : act.eval s = v) (hown : w.ownsRow base 5 1 v n (cells X))
    (a : Option Addr) (m c : Nat) (zs : List Int) (hx : act.eval x = .slice a m c) (hb : Bs w a m zs) (hnm : n + m ≤ 140737488355328) (hbase : base ≤ w.heap.size)
    (h : ∀ v' w', w'.ownsRow base 5 1 v' (n + m) (cells (X ++ zs)) → w.grownBy w' v.ownBlock → wpList Tryz.prog ops Q rest (act.put o.dst v') w') : wpList Tryz.prog ops Q (o :: rest) act w := by
  obtain ⟨i5, hi, hz0, hz1, hz2⟩ := info_parts info5
  have hb1 := hb.1
  cases a with
  | some ad =>
    refine wpList_append_own _ hgd s x 35 ho base 5 i5 (.int .u8 0) 1 1 Tryz.underlying35 hi hz0 hz1 hz2 rfl (by decide) v n _ hs hown ad m c (cells zs) hx (by rw [cells_length, Nat.mul_one, hb1]) (fun j u hj => ?_) (cells_one zs) (by unfold maxLen; omega) (by omega) hbase (fun v' w' h1 h2 h3 => h v' w' (by rw [cells_append]; exact h1) h2)
    have hj' : j < zs.length := by
      have := (List.getElem?_eq_some_iff.1 hj).1
      rwa [cells_length] at this
    rcases hb.2.2 with h0 | ⟨b, off, e, hc⟩
    · omega
    · obtain rfl := Option.some.inj e
      rw [Addr.add_lit, hc j (by omega), ← hj]
      simp [cells, List.getD, hj']
  | none =>
    have hm0 : m = 0 := by
      rcases hb.2.2 with h0 | ⟨b, off, e, _⟩
      · exact h0
      · cases e
    subst hm0
    have hz : zs = [] := List.eq_nil_of_length_eq_zero hb1
    subst hz
    refine wpList_plain hgd fun _ hK => ?_
    rcases hown.2 with ⟨rfl, rfl⟩ | ⟨g, cap, cur, rfl, hr⟩
    · have hr : (Builtin.append_ #[35, 35] o.type #[.slice none 0 0, .slice none 0 c]).run Tryz.prog w = .ok (.slice none 0 0) w := by
        simp [Builtin.append_, run_underlying Tryz.underlying35, sizeOf, typeInfo, hi, Builtin.lenOf, Builtin.firstCells]
      unfold Oper.wp execOp
      simp only [ho, resolve, invoke, builtin, Sem.run_bind, Sem.run_pure, Result.andThen_ok, List.map_toArray, List.map_cons, List.map_nil, hs, hx, hr]
      refine hK _ _ (h _ _ (by rw [List.append_nil]; exact hown) ⟨rfl, rfl, rfl, Nat.le_refl _, fun _ _ _ => rfl⟩)
    · have hnc := hr.2.2.1
      have hr : (Builtin.append_ #[35, 35] o.type #[.slice (some ⟨g, 0, none⟩) n cap, .slice none 0 c]).run Tryz.prog w = .ok (.slice (some ⟨g, 0, none⟩) n cap) w := by
        simp [Builtin.append_, run_underlying Tryz.underlying35, sizeOf, typeInfo, hi, Builtin.lenOf, Builtin.firstCells, hnc, storeCells]
      unfold Oper.wp execOp
      simp only [ho, resolve, invoke, builtin, Sem.run_bind, Sem.run_pure, Result.andThen_ok, List.map_toArray, List.map_cons, List.map_nil, hs, hx, hr]
      refine hK _ _ (h _ _ (by rw [List.append_nil]; exact hown) ⟨rfl, rfl, rfl, Nat.le_refl _, fun _ _ _ => rfl⟩)
theorem apn {w wx wy : World} {v : Value} {n : Nat} {xs : List Value} (B : Below w.heap.size w wx) (hown : wx.ownsRow w.heap.size 5 1 v n xs) (g : wx.grownBy wy v.ownBlock) : Below w.heap.size w wy := B.grown g B.size (fun q hq => (hown.lt q hq).1)
theorem apq {wx wy : World} {v : Value} {n q base T e sz : Nat} {xs : List Value} {cs : Array Value} {fz : Nat × Nat} (hown : wx.ownsRow base e sz v n xs) (hq : wx.heap[q]? = some (.cells cs T fz)) (hT : T ≠ e) (g : wx.grownBy wy v.ownBlock) : wy.heap[q]? = some (.cells cs T fz) := by
  refine (g.block q (Array.getElem?_eq_some_iff.1 hq).1 ?_).trans hq
  intro f
  rcases hown.2 with ⟨rfl, _⟩ | ⟨g', cap, cur, rfl, _, hg, _⟩
  · simp [Value.ownBlock] at f
  · obtain rfl : q = g' := by simpa [Value.ownBlock] using f
    rw [hg] at hq
    simp at hq
    exact hT hq.2.1.symm
theorem own_bel {wx wy : World} {v : Value} {n base e sz : Nat} {xs : List Value} (hown : wx.ownsRow base e sz v n xs) (g : Below wx.heap.size wx wy) : wy.ownsRow base e sz v n xs := hown.kept (grown_of_below g) (by cases v.ownBlock <;> simp)
def setCs (ka va : Option Addr) (kn kc vn vc : Nat) (g : Bool) : Array Value := #[.slice ka kn kc, .slice va vn vc, .bool g]
theorem set_c {w : World} {q : Nat} {ka va : Option Addr} {kn kc vn vc : Nat} {g : Bool} {T : TypeId} {fz : Nat × Nat} (h : w.heap[q]? = some (.cells (setCs ka va kn kc vn vc g) T fz)) : w.cell? ⟨q, 0, none⟩ = some (.slice ka kn kc) ∧ w.cell? ⟨q, 1, none⟩ = some (.slice va vn vc) ∧ w.cell? ⟨q, 2, none⟩ = some (.bool g) := by
  refine ⟨?_, ?_, ?_⟩
  · rw [cell_of_row w q 0 _ T fz h]; rfl
  · rw [cell_of_row w q 1 _ T fz h]; rfl
  · rw [cell_of_row w q 2 _ T fz h]; rfl
set_option maxHeartbeats 1000000 in
theorem putSets_ (U : Nat → Prop) (a : Option Addr) (n c : Nat) (l : List Sx) (w : World) (hl : Sl w U a n l) (hn : n ≤ 1000000000) :
    Calls Tryz.prog 22 #[.slice a n c] w fun e w' => (okS l = true ∧ ∃ v, e = .returned (.tuple #[v, .int .i64 0]) ∧ w'.ownsRow w.heap.size 5 1 v (enc l).length (cells (enc l)) ∧ Below w.heap.size w w') ∨ (okS l = false ∧ e = .returned (.tuple #[.slice none 0 0, .int .i64 114]) ∧ Below w.heap.size w w') := by
  have HL := hid hl
  have HLN : Hid (l.length = n) := hl.len
  clear hl
  go_enter Tryz.func22, Tryz.ntmps22
  go_wp2_with fail
  go_loopw [4, 5, 10] (fun v u i wr => ∃ (k : Nat) (la : Option Addr) (ln lc : Nat), k ≤ n ∧ i = .int .i64 k ∧ u = .slice la ln lc ∧ Hid (okFrom [] (l.take k) = true) ∧ Hid (Bs w la ln (lkey [] (l.take k))) ∧ wr.ownsRow w.heap.size 5 1 v (enc (l.take k)).length (cells (enc (l.take k))) ∧ Below w.heap.size w wr) (fun _ _ i _ => n - (intOf i).toNat)
  case atStart => exact ⟨0, none, 0, 0, by omega, rfl, rfl, rfl, ⟨rfl, by simp [lkey], .inl rfl⟩, World.ownsRow_nil _ _ _ _, Below.refl _ _⟩
  case round =>
    obtain ⟨k, la, ln, lc, hk, rfl, rfl, HO, HLK, hown, hB⟩ := hrel
    by_cases hlt : k < n
    · have hI : (k : Int) < n := by omega
      obtain ⟨bl, off, ka, kc, va, vc, kn, vn, rfl, hkn, hvn, c0, c1, c2, v1, v2⟩ := HL.out.at hlt
      have c0 := (hB.cell (World.block_lt_of_cell? w _ c0)).trans c0
      have c1 := (hB.cell (World.block_lt_of_cell? w _ c1)).trans c1
      have c2 := (hB.cell (World.block_lt_of_cell? w _ c2)).trans c2
      obtain ⟨s, HS⟩ : ∃ s, Hid (l.getD k default = s) := ⟨_, rfl⟩
      rw [HS.out] at hkn hvn c2 v1 v2
      have hm := fun wx => mayBe_ ka va kc vc s wx (by rw [← hkn]; exact Nat.le_trans v1.nc v1.cm) (by rw [← hvn]; exact Nat.le_trans v2.nc v2.cm)
      rw [← hkn, ← hvn] at hm
      have hh := fun (h : mayS s = true) wx => head_ ka va kc vc kn vn s wx hkn hvn h
      obtain ⟨g, HG⟩ : ∃ g, Hid (s.g = g) := ⟨_, rfl⟩
      rw [HG.out] at c2 hm hh
      have V1 := hid v1
      have V2 := hid v2
      have HTS : Hid (l.take (k + 1) = l.take k ++ [s]) := by rw [← HS.out]; exact take_snoc (by rw [HLN.out]; exact hlt)
      have HEL : Hid ((enc (l.take k)).length ≤ 524000000000) := by
        have h1 := enc_le (l.take k) (may_of HO.out)
        rw [List.length_take, HLN.out] at h1
        show _ ≤ _
        omega
      have HYE : Hid ((mayS s && lx (lkey [] (l.take k)) s.k) = true → okFrom [] (l.take (k + 1)) = true) := fun h => okS_yes (by rw [HLN.out]; exact hlt) HO.out (by rw [HS.out]; exact h)
      have HNO : Hid ((mayS s && lx (lkey [] (l.take k)) s.k) = false → okS l = false) := fun h => okS_no (k := k) (by rw [HLN.out]; exact hlt) (by rw [HS.out]; exact h)
      have HOWN := hid hown
      have HB := hid hB
      have HLI : Hid (∀ wx, Below w.heap.size w wx → Bs wx la ln (lkey [] (l.take k))) := fun wx h => HLK.out.below h
      generalize hLk : lkey [] (l.take k) = lk at *
      generalize hEk : enc (l.take k) = E at *
      have HEK := hid hEk
      have B2 : Below w.heap.size w (wr.alloc (.cells (setCs ka va kn kc vn vc g) 44)) := hB.alloc hB.size _
      have HQ := hid (heap_alloc_new wr (.cells (setCs ka va kn kc vn vc g) 44))
      have HO2 := hid (hown.alloc (.cells (setCs ka va kn kc vn vc g) 44))
      have HB2 := hid B2
      clear v1 v2 hlt hB hkn hvn hown HLK hLk hEk B2
      unfold setCs at HQ HO2 HB2
      go_wp2_with fail
      refine (hm _).mono ?_
      rintro e w1 ⟨rfl, g1⟩
      have HB3 := hid (bel_bel HB2.out HB2.out.size g1)
      have HQ3 := hid ((g1.block wr.heap.size (by simp)).trans HQ.out)
      have HO3 := hid (own_bel HO2.out g1)
      have c3 := (set_c HQ3.out).1
      clear hm g1 c0 c1 c2 HQ HO2 HB2
      cases hmay : mayS s with
      | false =>
        have HN := hid (HNO.out (by rw [hmay]; rfl))
        clear hmay
        go_wp2_with fail
        go_ret2
        exact .inr ⟨HN.out, rfl, HB3.out⟩
      | true =>
        have HM := hid hmay
        have hh := hh hmay
        rw [hmay] at HNO HYE
        clear hmay
        have kc1 := bcmp_ ka la kn kc ln lc s.k lk w1 (V1.out.bs.below HB3.out) (HLI.out w1 HB3.out)
        cases hlx : lx lk s.k with
        | false =>
          have HN := hid (HNO.out (by rw [hlx]; rfl))
          have hle : (cmpB s.k lk) ≤ 0 := (cmpB_le _ _).2 hlx
          generalize cmpB s.k lk = q at *
          clear hlx
          go_wp2_with fail
          refine kc1.mono ?_
          rintro e w2 ⟨rfl, hw⟩
          obtain rfl := hw.symm
          clear hw kc1
          go_wp2_with fail
          go_ret2
          exact .inr ⟨HN.out, rfl, HB3.out⟩
        | true =>
          have HY := hid (HYE.out (by rw [hlx]; rfl))
          have hle : ¬ (cmpB s.k lk) ≤ 0 := fun h => by rw [(cmpB_le _ _).1 h] at hlx; cases hlx
          generalize cmpB s.k lk = q at *
          clear hlx HNO HYE
          have HVK := hid (mayS_key HM.out)
          have HVV := hid (mayS_val HM.out)
          go_wp2_with fail
          refine kc1.mono ?_
          rintro e w2 ⟨rfl, hw⟩
          obtain rfl := hw.symm
          clear hw kc1
          have c4 := (set_c HQ3.out).2.1
          have c5 := (set_c HQ3.out).2.2
          go_wp2_with fail
          refine (hh _).mono ?_
          rintro e w3 ⟨gh, rfl, r3, hg3, g3⟩
          have HB4 := hid (bel_bel HB3.out HB3.out.size g3)
          have HQ4 := hid ((g3.block wr.heap.size (Array.getElem?_eq_some_iff.1 HQ3.out).1).trans HQ3.out)
          have HO4 := hid (own_bel HO3.out g3)
          have HR4 := hid ((r3.bs (hd_byte s)).len (hd_length s))
          clear c3 c4 c5 g3 r3 hg3 hh HQ3 HO3 HB3
          go_wp2_with (first
            | (at_builtin; refine wpList_appT rfl _ _ rfl w.heap.size _ E.length E rfl HO4.out _ 4 4 (hd s) rfl HR4.out (by have := HEL.out; omega) HB4.out.size ?_; intro v5 w5 o5 g5; have HB5 := hid (apn HB4.out HO4.out g5); have HQ5 := hid (apq HO4.out HQ4.out (by decide) g5); have HO5 := hid o5; have y0 := (set_c HQ5.out).1; have HK5 := hid (V1.out.bs.below HB5.out); clear g5 o5 HQ4 HO4 HB4 HR4)
            | (at_builtin; refine wpList_appT rfl _ _ rfl w.heap.size _ (E.length + 4) (E ++ hd s) rfl HO5.out _ kn kc s.k rfl HK5.out (by have := HEL.out; have := HVK.out; have := V1.out.bs.1; omega) HB5.out.size ?_; intro v6 w6 o6 g6; have HB6 := hid (apn HB5.out HO5.out g6); have HQ6 := hid (apq HO5.out HQ5.out (by decide) g6); have HO6 := hid o6; have z1 := (set_c HQ6.out).2.1; have HK6 := hid (V2.out.bs.below HB6.out); clear g6 o6 HQ5 HO5 HB5 HK5 y0)
            | (at_builtin; refine wpList_appT rfl _ _ rfl w.heap.size _ (E.length + 4 + kn) (E ++ hd s ++ s.k) rfl HO6.out _ vn vc s.v rfl HK6.out (by have := HEL.out; have := HVK.out; have := HVV.out; have := V1.out.bs.1; have := V2.out.bs.1; omega) HB6.out.size ?_; intro v7 w7 o7 g7; have HB7 := hid (apn HB6.out HO6.out g7); have HQ7 := hid (apq HO6.out HQ6.out (by decide) g7); have HO7 := hid o7; have x1 := (set_c HQ7.out).1; clear g7 o7 HQ6 HO6 HB6 HK6 z1)
            | fail)
          go_roundw
          case rel =>
            refine ⟨k + 1, ka, kn, kc, by omega, by go_num, rfl, HY, ?_, ?_, HB7.out⟩
            · rw [HTS.out, lkey_snoc]
              exact V1.out.bs
            · have e : enc (l.take (k + 1)) = E ++ hd s ++ s.k ++ s.v := by rw [HTS.out, enc_snoc, HEK.out, enc1_hd]; simp
              rw [e]
              have e2 : (E ++ hd s ++ s.k ++ s.v).length = E.length + 4 + kn + vn := by
                simp only [List.length_append, hd_length]
                have := V1.out.bs.1
                have := V2.out.bs.1
                omega
              rw [e2]
              exact HO7.out
          case measure => simp [intOf]; omega
    · have hI : ¬ (k : Int) < n := by omega
      obtain rfl : k = n := by omega
      have HTE : Hid (l.take k = l) := List.take_of_length_le (by rw [HLN.out]; exact Nat.le_refl _)
      rw [HTE.out] at HO hown
      have HOW := hid hown
      have HB := hid hB
      clear hown hB HLK
      go_wp2_with fail
      go_ret2
      exact .inl ⟨HO.out, _, rfl, HOW.out, HB.out⟩
end Go.Proofs.YteeapmcpbmjpmaaGreat
