import Derived.Test.YtjajcbjodokfnaaGreatDoorXQ
namespace Go.Proofs.YtjajcbjodokfnaaGreatDoor
set_option maxRecDepth 100000
open Go.RowKit Go.Shelf
set_option linter.unusedVariables false
set_option linter.unusedSimpArgs false

/-- What readState answers. -/
def tkPost (B : Nat) (w' : World) (en : Ending) (r : Except Int (Option (List Int))) : Prop :=
  match r with
  | .error E => en = .returned (.tuple #[.slice none 0 0, .bool false, .int .i64 E])
  | .ok none => ∃ v, en = .returned (.tuple #[v, .bool false, .int .i64 0])
  | .ok (some l) => ∃ v, en = .returned (.tuple #[v, .bool true, .int .i64 0]) ∧ w'.ownsRow B 5 1 v l.length (cells l) ∧ By l
theorem ckP_rd (N : Nat) (x : Sp) (m i : Nat) (l : List Int) (s : St) : (ckP N x (m + 1) i l).run s = if opE s = 0 then (match rx (gs (layA s.S s.P (sct N x.e i))) t2 x.e x.s i with
    | some body => if body.length = min 480 (x.L - 480 * i) then (ckP N x m (i + 1) (l ++ body)).run (opS s) else (.ok none, opS s)
    | none => (.ok none, opS s)) else (.error (opE s), opS s) := by
  conv => lhs; unfold ckP Rp.run
  by_cases h0 : opE s = 0
  · rw [if_pos h0, if_pos h0]
    cases hr : rx (gs (layA s.S s.P (sct N x.e i))) t2 x.e x.s i with
    | none => simp only [hr, Rp.run]
    | some body =>
      by_cases hb : body.length = min 480 (x.L - 480 * i)
      · simp only [hr, if_pos hb]
      · simp only [hr, if_neg hb, Rp.run]
  · rw [if_neg h0, if_neg h0]
theorem rx_some {zs : List Int} {T : ByteArray} {e q p : Nat} {l : List Int} (h : rx (gs zs) T e q p = some l) : gs zs = some ⟨T, e, q, p, l⟩ := rt_some (T := T) (e := e) (q := q) (p := p) h
theorem tkP_run (N : Nat) (x : Sp) (s : St) : (tkP N x).run s = match (ckP N x x.K 0 []).run s with
    | (.ok (some l), s') => (.ok (if updc 0 l = x.m then some l else none), s')
    | (.ok none, s') => (.ok none, s')
    | (.error E, s') => (.error E, s') := by
  unfold tkP
  rw [Rp.run_bind]
  generalize (ckP N x x.K 0 []).run s = r
  obtain ⟨r1, s'⟩ := r
  cases r1 with
  | error E => rfl
  | ok o =>
    cases o with
    | none => rfl
    | some l => rfl
set_option maxHeartbeats 8000000 in
theorem readState_ (x : Sp) (hx : x.K = pcN x.L ∧ x.K ≤ 4095 ∧ mq x.e ∧ mq x.s ∧ x.m < 4294967296) (d : Nat) (s : St) (Q : Nat → Prop) (w : World) (h : Dev w d s Q) (hT : Tab w) (h0 : ¬ Q 0) (hK : x.K ≤ roo s.n) (hsc : s.c ≤ 50000) (hP : s.P.length ≤ 90000) :
    Calls Tryz.prog 127 #[.agg #[.int .i64 x.e, .int .i64 x.s, .int .i64 x.L, .int .u32 x.m], .pointer (some ⟨d, 0, none⟩)] w fun en w' => tkPost w.heap.size w' en ((tkP s.n x).run s).1 ∧ Dev w' d ((tkP s.n x).run s).2 Q ∧ Fr Q w w' ∧ ((tkP s.n x).run s).2.c ≤ s.c + x.K := by
  obtain ⟨i5, hi5, hz0, hz1, hz2⟩ := info_parts info5
  obtain ⟨hKL, hK4, he, hs, hm⟩ := hx
  have hN := h.n
  have hR : roo s.n ≤ 4095 := by unfold roo; omega
  have B0 := unew w x.e x.s x.L x.m
  have u0 := Um.new w x.e x.s x.L x.m
  have HD0 := hid (h.below B0)
  have HT := hid hT
  have H0 := hid h0
  have hlt := hid h.lt
  have HTK := hid (tkP_run s.n x s)
  have hby : Hid (∀ i, i < s.n → Sc5 (layA s.S s.P i)) := fun i hi => h.cur i hi
  have kP := fun w => pieces0_ (x.L : Int) w (by have := hKL; unfold pcN at this; omega)
  simp only [Int.toNat_natCast] at kP
  rw [← hKL] at kP
  have hL : x.L ≤ 480 * x.K := by rw [hKL]; exact pcN_ge (Nat.le_refl _)
  have hLk : ∀ j, j < x.K → 480 * j < x.L := fun j hj => pcN_lt (by rw [← hKL]; exact hj)
  obtain ⟨N, HN⟩ : ∃ N, Hid (s.n = N) := ⟨_, rfl⟩
  rw [HN.out] at hN hR hK hby HTK ⊢
  have hsct : ∀ j, j < x.K → sct N x.e j < N := fun j hj => sct_lt' (by omega) hN.1
  have HU0 := hid u0
  have HB0 := hid B0
  have c2 := u0.c2
  have HKL := hid hKL
  have hxL : x.L ≤ 2000000 := by have := hKL; unfold pcN at this; omega
  clear h hT h0 B0 u0 hKL
  obtain ⟨xe, xs, xK, xL, xm⟩ := x
  simp only at *
  generalize hr2 : (tkP N ⟨xe, xs, xK, xL, xm⟩).run s = r2 at *
  clear hr2
  go_enter Tryz.func127, Tryz.ntmps127
  go_wp2_with fail
  refine (kP _).mono ?_
  rintro en w1 ⟨rfl, hw⟩
  obtain rfl := hw.symm
  clear hw
  obtain ⟨W, HW⟩ : ∃ W, Hid (w.alloc (.cells #[.int .i64 xe, .int .i64 xs, .int .i64 xL, .int .u32 xm] 118) = W) := ⟨_, rfl⟩
  rw [HW.out] at HD0 HU0 HB0 c2 ⊢
  go_wp2_with fail
  go_loopw [7, 8, 9, 10, 11, 12, 16] (fun o _ _ _ _ _ i wr => ∃ j a n c st sj, j ≤ xK ∧ i = .int .i64 (j : Nat) ∧ o = .slice a n c ∧ n = min (480 * j) xL ∧ wr.ownsRow w.heap.size 5 1 (.slice a n c) n (cells st) ∧ st.length = n ∧ By st ∧ Hid ((ckP N ⟨xe, xs, xK, xL, xm⟩ (xK - j) j st).run sj = (ckP N ⟨xe, xs, xK, xL, xm⟩ xK 0 []).run s) ∧ Hid (sj.S = s.S ∧ sj.P = s.P ∧ sj.n = N ∧ sj.c ≤ s.c + j) ∧ Um wr w.heap.size xe xs xL xm ∧ Dev wr d sj Q ∧ Fr Q w wr ∧ Tab wr) (fun _ _ _ _ _ _ i _ => xK - (intOf i).toNat)
  case atStart => exact ⟨0, none, 0, 0, [], s, by omega, rfl, rfl, by omega, World.ownsRow_nil _ _ _ _, rfl, fun z hz => (by cases hz), rfl, ⟨rfl, rfl, HN.out, by omega⟩, HU0.out, HD0.out, Fr.ofB HB0.out, HT.out.bel HB0.out⟩
  case round =>
    obtain ⟨j, a, n, c, st, sj, hj, rfl, rfl, hn, O1, hst, hyst, HCK, HS, U1, D1, F1, T1⟩ := hrel
    obtain ⟨sS, sP, sn, sc⟩ := HS.out
    have Hn := hid hn
    have Hst := hid hst
    have hn6 : n ≤ 2000000 := by omega
    clear hn hst
    have HO1 := hid O1
    have HU1 := hid U1
    have HD1 := hid D1
    have HF1 := hid F1
    have HT1 := hid T1
    have k0 := U1.c0
    have k1 := U1.c1
    have k2 := U1.c2
    have k3 := U1.c3
    have s1 := F1.size
    by_cases hlt2 : j < xK
    · have hjI : (j : Int) < (xK : Int) := by omega
      have hLj := hLk j hlt2
      have Hn' : Hid (n = 480 * j) := by show _ = _; have := Hn.out; omega
      have hjs := hsct j hlt2
      have kr := wregion_ D1 xe (by have := he.2; omega)
      rw [sn] at kr
      have hrg := rg_le N xe hN.2
      have HCR := hid (ckP_rd N ⟨xe, xs, xK, xL, xm⟩ (xK - (j + 1)) j st sj)
      rw [show xK - (j + 1) + 1 = xK - j from by omega, sS, sP] at HCR
      simp only [sct_rg'] at HCR hjs
      obtain ⟨G, HG⟩ : ∃ G, Hid (rg N xe = G) := ⟨_, rfl⟩
      rw [HG.out] at kr hrg HCR hjs
      obtain ⟨i, Hi⟩ : ∃ i, Hid (G + j = i) := ⟨_, rfl⟩
      rw [Hi.out] at HCR hjs
      have hi : (G : Int) + (j : Int) = (i : Int) := by have := Hi.out; omega
      have krd := wread_ d i sj Q wr D1 (by rw [sn]; exact hjs) (by omega) (by rw [sP]; omega)
      rw [sS, sP] at krd
      have hsec := hby.out i hjs
      obtain ⟨zs, Hzs⟩ : ∃ zs, Hid (layA s.S s.P i = zs) := ⟨_, rfl⟩
      rw [Hzs.out] at krd HCR hsec
      obtain ⟨E, HE⟩ : ∃ E, Hid (opE sj = E) := ⟨_, rfl⟩
      rw [HE.out] at krd HCR
      have HEQ := hid (HCR.out.symm.trans HCK.out)
      have o1 := opS_c sj
      have o2 := opS_n sj
      have HS2 : Hid ((opS sj).S = s.S ∧ (opS sj).P = s.P ∧ (opS sj).n = N ∧ (opS sj).c ≤ s.c + (j + 1)) := ⟨(opS_S' sj).trans sS, (opS_P' sj).trans sP, o2.trans sn, by omega⟩
      clear U1 D1 F1 T1 O1 HCR HCK o1 o2 hsct hLk
      go_wp2_with fail
      refine kr.mono ?_
      rintro en w2 ⟨rfl, hw⟩
      obtain rfl := hw.symm
      clear hw kr
      go_wp2_with fail
      refine krd.mono ?_
      rintro en w2 ⟨ab, nb, cb, rfl, hnc, hcm, hbs, _, D2, F2⟩
      have nq : ∀ b, w.heap.size ≤ b → ¬ Q b := fun b hb q => by have := hlt.out b q; omega
      have O2 := own_at' HO1.out (w' := w2) (fun g e => F2.same g (HO1.out.lt g e).2 (nq g (HO1.out.lt g e).1))
      have U2 := HU1.out.at (w' := w2) (F2.same _ HU1.out.lt (nq _ (Nat.le_refl _)))
      have T2 := HT1.out.fr F2 H0.out
      have F3 := HF1.out.trans F2
      have s2 := F2.size
      have HO2 := hid O2
      have HU2 := hid U2
      have HT2 := hid T2
      have HF3 := hid F3
      have HD2 := hid D2
      clear krd O2 U2 T2 F3 D2 F2 HO1 HU1 HT1 HF1 HD1 k0 k1 k2 k3
      by_cases hE : E = 0
      · subst hE
        rw [if_pos rfl] at HEQ
        obtain ⟨b2, rfl⟩ := hbs rfl
        have k0 := HU2.out.c0
        have k1 := HU2.out.c1
        have k2 := HU2.out.c2
        have HB2 := hid b2
        clear hbs b2
        have hbyz : Hid (By zs) := hsec.2
        clear hsec
        cases hrx : rx (gs zs) t2 xe xs j with
        | none =>
          rw [hrx] at HEQ
          simp only at HEQ
          rw [← HEQ.out] at HTK
          simp only at HTK
          have kR := right_n t2 xe xs j ab 512 cb zs w2 HT2.out HB2.out hnc hcm hrx
          clear hrx
          go_wp2_with fail
          refine kR.mono ?_
          rintro en w3 ⟨rfl, B3⟩
          have HD4 := hid (HD2.out.below B3)
          have HF4 := hid (HF3.out.below B3)
          clear kR B3
          go_wp2_with fail
          go_ret3
          rw [HTK.out]
          exact ⟨⟨_, rfl⟩, HD4.out, HF4.out, by have := HS2.out; show (opS sj).c ≤ _; omega⟩
        | some body =>
          have hgz := rx_some hrx
          rw [hrx] at HEQ
          simp only at HEQ
          have hbl480 : body.length ≤ 480 := (gs_some hgz).2.1.2.2.2.2
          have hbby : Hid (By body) := by
            show By body
            have h1 := (gs_some hgz).2.2.2
            have h2 : body = (rs zs).l := by rw [← h1]
            rw [h2]
            exact sl_by hbyz.out _ _
          have kR := right_y t2 xe xs j body ab 512 cb zs w2 HT2.out HB2.out hnc hcm hgz
          obtain ⟨bl, Hbl⟩ : ∃ bl, Hid (body.length = bl) := ⟨_, rfl⟩
          rw [Hbl.out] at kR hbl480 HEQ
          obtain ⟨mn, Hmn⟩ : ∃ mn, Hid (min 480 (xL - 480 * j) = mn) := ⟨_, rfl⟩
          rw [Hmn.out] at HEQ
          obtain ⟨D, HD⟩ : ∃ D : Nat, Hid (xL - n = D) := ⟨_, rfl⟩
          have hD : (xL : Int) - (n : Int) = (D : Int) := by have := HD.out; have := Hn'.out; omega
          have hmn : min (D : Int) 480 = (mn : Int) := by have := HD.out; have := Hmn.out; have := Hn'.out; omega
          clear hrx hgz
          go_wp2_with fail
          refine kR.mono ?_
          rintro en w3 ⟨g', rfl, hg', r3, B3⟩
          have HD4 := hid (HD2.out.below B3)
          have HF4 := hid (HF3.out.below B3)
          have HU4 := hid (HU2.out.below B3)
          have HT4 := hid (HT2.out.bel B3)
          have HO4 := hid (own_bel12 HO2.out B3)
          have k2 := HU4.out.c2
          have hs3 := B3.size
          have Hr3 := hid r3
          clear kR B3 r3 HO2 HU2 HT2
          by_cases hbm : bl = mn
          · rw [if_pos hbm] at HEQ
            have hbI : ((bl : Int) != (mn : Int)) = false := by simp; omega
            have hc1 : Hid (∀ k u, (cells body)[k]? = some u → w3.cell? ((⟨g', 0, none⟩ : Addr).add k) = some u) := by
              intro k u hk
              rw [Addr.add_lit, Nat.zero_add]
              have hkl : k < body.length := by have := (List.getElem?_eq_some_iff.1 hk).1; rwa [cells_length] at this
              rw [Hr3.out.cell k hkl]
              unfold cells at hk
              rw [List.getElem?_map, List.getElem?_eq_getElem hkl] at hk
              simp only [Option.map] at hk
              rw [← hk]
              simp [List.getD, hkl]
            have hst2 : Hid ((st ++ body).length = n + bl) := by show _ = _; rw [List.length_append, Hst.out, Hbl.out]
            have hn2 : Hid (n + bl = min (480 * (j + 1)) xL) := by show _ = _; have := Hmn.out; have := Hn'.out; omega
            have hyst2 : Hid (By (st ++ body)) := By.app hyst hbby.out
            clear hbm
            go_wp2_with (at_builtin; (refine wpList_append_own _ rfl _ _ 33 rfl w.heap.size 5 i5 (.int .u8 0) 1 1 Tryz.underlying33 hi5 hz0 hz1 hz2 rfl (by decide) (.slice a n c) n (cells st) rfl (by exact HO4.out) ⟨g', 0, none⟩ bl bl (cells body) rfl (by rw [cells_length, Hbl.out, Nat.mul_one]) (by exact hc1.out) (cells_one body) (by unfold maxLen; omega) (by omega) (by omega) ?_); intro v' w6 hown hg hv)
            obtain ⟨a7, c7, rfl, _, _, _⟩ := own_slice hown
            have hob := fun g e => (HO4.out.lt g e).1
            have hne := fun g e => (HO4.out.lt g e).1
            have HF6 := hid (fr_own HF4.out hg hob)
            have HD6 := hid (dev_own HD4.out hlt.out hg hob)
            have hwu : Hid (∀ g, (Value.slice a n c).ownBlock = some g → g ≠ w.heap.size) := fun g e q => by
              obtain ⟨cur, hcur⟩ := own_ty HO4.out e
              rw [q, HU4.out] at hcur
              simp at hcur
            have HU6 := hid (HU4.out.at (hg.block _ HU4.out.lt (fun e => hwu.out _ e.symm rfl)))
            have HT6 : Hid (Tab w6) := ⟨Nat.lt_of_lt_of_le HT4.out.1 hg.size, fun i hi => hg.cell (HT4.out.2 i hi) (fun e => by have := hob 0 e.symm; have := HT.out.1; omega)⟩
            have HO6 : Hid (w6.ownsRow w.heap.size 5 1 (.slice a7 (n + bl) c7) (n + bl) (cells (st ++ body))) := by
              have e1 : cells (st ++ body) = cells st ++ cells body := by simp [cells]
              show w6.ownsRow _ _ _ _ _ _
              rw [e1]
              exact hown
            clear hg hown hv hob hne HO4
            go_wp2_with fail
            go_roundw
            case rel => exact ⟨j + 1, a7, n + bl, c7, st ++ body, opS sj, by omega, by go_num, rfl, hn2.out, HO6.out, hst2.out, hyst2.out, HEQ.out, HS2.out, HU6.out, HD6.out, HF6.out, HT6.out⟩
            case measure => simp [intOf]; omega
          · rw [if_neg hbm] at HEQ
            rw [← HEQ.out] at HTK
            simp only at HTK
            have hbI : ((bl : Int) != (mn : Int)) = true := by rw [bne_iff_ne]; omega
            clear hbm
            go_wp2_with fail
            go_ret3
            rw [HTK.out]
            exact ⟨⟨_, rfl⟩, HD4.out, HF4.out, by have := HS2.out; show (opS sj).c ≤ _; omega⟩
      · have hEb : (E != 0) = true := by rw [bne_iff_ne]; exact hE
        rw [if_neg hE] at HEQ
        rw [← HEQ.out] at HTK
        simp only at HTK
        clear hbs hE
        go_wp2_with fail
        go_ret3
        rw [HTK.out]
        exact ⟨rfl, HD2.out, HF3.out, by have := HS2.out; show (opS sj).c ≤ _; omega⟩
    · obtain rfl : j = xK := by omega
      have hjI : ¬ (j : Int) < (j : Int) := by omega
      rw [Nat.sub_self] at HCK
      have HCK2 : Hid ((ckP N ⟨xe, xs, j, xL, xm⟩ j 0 []).run s = (.ok (some st), sj)) := HCK.out.symm
      rw [HCK2.out] at HTK
      simp only at HTK
      obtain ⟨a', c', e', bs1, hnc, hcm, _⟩ := own_form O1 hyst
      obtain ⟨rfl, -, rfl⟩ : a = a' ∧ True ∧ c = c' := by simpa using e'
      clear e'
      have ks := fun k => sum_ a n c st (wr.drewN k) (T1.drawn (drawnN wr k)) (bs1.below (drawnN wr k).below) (by unfold maxLen; omega)
      have hsu := updc_lt (by omega : (0 : Nat) < 4294967296) hyst
      obtain ⟨S, HSu⟩ : ∃ S, Hid (updc 0 st = S) := ⟨_, rfl⟩
      simp only [HSu.out] at ks
      rw [HSu.out] at hsu HTK
      have HD9 := hid (D1.below (drawnN wr 1).below)
      clear U1 D1 F1 T1 O1 bs1 HCK HCK2
      by_cases hS : S = xm
      · rw [if_pos hS] at HTK
        have hSb : ((S : Int) == (xm : Int)) = true := by simp; omega
        clear hS
        go_wp2_with fail
        go_quiet ((go_at_call 123; exact Calls.quiet_of_same (ks _)))
        go_wp2_with fail
        go_ret3
        rw [HTK.out]
        exact ⟨⟨_, rfl, by rw [Hst.out]; exact own_at' HO1.out (fun g e => rfl), hyst⟩, HD1.out.below (drawnN wr _).below, HF1.out.below (drawnN wr _).below, by show sj.c ≤ _; omega⟩
      · rw [if_neg hS] at HTK
        have hSb : ((S : Int) == (xm : Int)) = false := by simp; omega
        clear hS
        go_wp2_with fail
        go_quiet ((go_at_call 123; exact Calls.quiet_of_same (ks _)))
        go_wp2_with fail
        go_ret3
        rw [HTK.out]
        exact ⟨⟨_, rfl⟩, HD1.out.below (drawnN wr _).below, HF1.out.below (drawnN wr _).below, by show sj.c ≤ _; omega⟩
end Go.Proofs.YtjajcbjodokfnaaGreatDoor
