import Derived.Test.YtblcpdffiafgnaaGreatDoorXP
namespace Go.Proofs.YtblcpdffiafgnaaGreatDoor
set_option linter.unusedSimpArgs false
set_option maxRecDepth 100000
open Go.RowKit Go.Shelf
set_option linter.unusedVariables false

def opSn : Nat → St → St
  | 0, s => s
  | k + 1, s => opS (opSn k s)
theorem opSn_is (s : St) : ∀ k, (opSn k s).S = s.S ∧ (opSn k s).P = s.P ∧ (opSn k s).n = s.n ∧ (opSn k s).k = s.k ∧ (opSn k s).c ≤ s.c + k
  | 0 => ⟨rfl, rfl, rfl, rfl, Nat.le_refl _⟩
  | k + 1 => by
    obtain ⟨h1, h2, h3, h4, h5⟩ := opSn_is s k
    have := opS_c (opSn k s)
    exact ⟨(opS_S' _).trans h1, (opS_P' _).trans h2, (opS_n _).trans h3, (opS_k _).trans h4, by show (opS (opSn k s)).c ≤ _; omega⟩
def rsA (s : St) (N : Nat) : Nat → List Sp
  | 0 => []
  | j + 1 => rsA s N j ++ (cnX (gs (layA s.S s.P j)) N j).toList
theorem rsP_err (s : St) (N j : Nat) (hj : j < 2) (h0 : ∀ i, i < j → opE (opSn i s) = 0) (hE : opE (opSn j s) ≠ 0) : (rsP N).run s = (.error (opE (opSn j s)), opS (opSn j s)) := by
  unfold rsP Rp.run
  match j, hj, h0, hE with
  | 0, _, _, hE =>
    have hE' : opE s ≠ 0 := hE
    rw [if_neg hE']
    rfl
  | 1, _, h0, hE =>
    have e0 : opE s = 0 := h0 0 (by omega)
    have hE' : opE (opS s) ≠ 0 := hE
    rw [if_pos e0]
    unfold Rp.run
    rw [if_neg hE']
    rfl
theorem rsP_ok (s : St) (N : Nat) (h0 : ∀ i, i < 2 → opE (opSn i s) = 0) : (rsP N).run s = (.ok (two12 (cnX (gs (layA s.S s.P 0)) N 0) (cnX (gs (layA s.S s.P 1)) N 1)), opSn 2 s) := by
  have e0 : opE s = 0 := h0 0 (by omega)
  have e1 : opE (opS s) = 0 := h0 1 (by omega)
  unfold rsP Rp.run
  rw [if_pos e0]
  unfold Rp.run
  rw [if_pos e1]
  simp only [Rp.run]
  rw [opS_S', opS_P']
  rfl
theorem Us.grow {w w' : World} {g m : Nat} {us : List U4} {r : Option Nat} (h : Us w (some ⟨g, 0, none⟩) m us) (hg : w.grownBy w' r) (hr : some g ≠ r) : Us w' (some ⟨g, 0, none⟩) m us := h.fr (R := fun b => some b = r) ⟨hg.os, hg.tape, hg.output, hg.size, fun b hb hn => hg.block b hb hn⟩ (fun ad ha _ q => by
  obtain rfl := Option.some.inj ha
  exact hr q)
theorem fr_own {Q : Nat → Prop} {w W w' : World} {r : Option Nat} (h : Fr Q w W) (hg : W.grownBy w' r) (hr : ∀ g, r = some g → w.heap.size ≤ g) : Fr Q w w' :=
  ⟨hg.os.trans h.os, hg.tape.trans h.tape, hg.output.trans h.output, Nat.le_trans h.size hg.size, fun b hb hn => (hg.block b (Nat.lt_of_lt_of_le hb h.size) (fun e => by have := hr b e.symm; omega)).trans (h.same b hb hn)⟩
theorem dev_own {W w' : World} {d B : Nat} {s : St} {Q : Nat → Prop} {r : Option Nat} (h : Dev W d s Q) (hq : ∀ b, Q b → b < B) (hg : W.grownBy w' r) (hr : ∀ g, r = some g → B ≤ g) : Dev w' d s Q :=
  h.fr (R := fun b => r = some b) ⟨hg.os, hg.tape, hg.output, hg.size, fun b hb hn => hg.block b hb (fun e => hn e.symm)⟩ (fun b hb e => by have := hq b hb; have := hr b e; omega)
set_option maxHeartbeats 4000000 in
theorem readSupers_ (d : Nat) (s : St) (Q : Nat → Prop) (w : World) (h : Dev w d s Q) (hT : Tab w) (h0 : ¬ Q 0) (hsc : s.c ≤ 90000) (hP : s.P.length ≤ 90000) :
    Calls Tryz.prog 75 #[.pointer (some ⟨d, 0, none⟩)] w fun en w' => rsPost w w' en ((rsP s.n).run s).1 ∧ Dev w' d ((rsP s.n).run s).2 Q ∧ Fr Q w w' := by
  obtain ⟨iu, hiu, hz0, hz1, hz2⟩ := info_parts infoU
  have hN := h.n
  have HD := hid h
  have HT := hid hT
  have H0 := hid h0
  have hlt := hid h.lt
  have hR : roo s.n ≤ 4095 := by unfold roo; omega
  have hby : Hid (∀ i, i < s.n → By (layA s.S s.P i)) := fun i hi => (h.cur i hi).2
  obtain ⟨N, HN⟩ : ∃ N, Hid (s.n = N) := ⟨_, rfl⟩
  rw [HN.out] at hN hR hby ⊢
  clear h hT h0
  go_enter Tryz.func75, Tryz.ntmps75
  go_wp2_with fail
  go_loopw [4, 5, 6, 7, 8, 9, 10] (fun o _ _ _ _ _ i wr => ∃ j a c, j ≤ 2 ∧ i = .int .i64 (j : Nat) ∧ o = .slice a (rsA s N j).length c ∧ wr.ownsRow w.heap.size 88 4 (.slice a (rsA s N j).length c) (rsA s N j).length (ucs ((rsA s N j).map spv)) ∧ Hid (∀ k, k < j → opE (opSn k s) = 0) ∧ Dev wr d (opSn j s) Q ∧ Fr Q w wr) (fun _ _ _ _ _ _ i _ => 2 - (intOf i).toNat)
  case atStart => exact ⟨0, none, 0, by omega, rfl, rfl, World.ownsRow_nil _ _ _ _, fun k hk => by omega, HD.out, .refl _ _⟩
  case round =>
    obtain ⟨j, a, c, hj, rfl, rfl, O1, HE0, D1, F1⟩ := hrel
    obtain ⟨sS, sP, sn, sk, sc⟩ := opSn_is s j
    have hlen : (rsA s N j).length ≤ j := by
      match j, hj with
      | 0, _ => exact Nat.le_refl _
      | 1, _ =>
        show ([] ++ _ : List Sp).length ≤ 1
        cases cnX (gs (layA s.S s.P 0)) N 0 <;> simp
      | 2, _ =>
        show (([] ++ _) ++ _ : List Sp).length ≤ 2
        cases cnX (gs (layA s.S s.P 0)) N 0 <;> cases cnX (gs (layA s.S s.P 1)) N 1 <;> simp
    by_cases hlt2 : j < 2
    · have hjI : (j : Int) < 2 := by omega
      have hRN : Hid (rsA s N (j + 1) = rsA s N j ++ (cnX (gs (layA s.S s.P j)) N j).toList) := rfl
      have kr := wread_ d j (opSn j s) Q wr D1 (by rw [sn, HN.out]; omega) (by omega) (by rw [sP]; omega)
      rw [sS, sP] at kr
      obtain ⟨E, HE⟩ : ∃ E, Hid (opE (opSn j s) = E) := ⟨_, rfl⟩
      rw [HE.out] at kr
      have HPE : Hid (E ≠ 0 → (rsP N).run s = (.error E, opSn (j + 1) s)) := fun hE => by
        have := rsP_err s N j hlt2 HE0.out (by rw [HE.out]; exact hE)
        rw [HE.out] at this
        exact this
      have HO1 := hid O1
      have HF1 := hid F1
      have hsn2 : Hid ((opSn (j + 1) s).n = N) := (opSn_is s (j + 1)).2.2.1.trans HN.out
      have HSn : Hid (opS (opSn j s) = opSn (j + 1) s) := rfl
      rw [HSn.out] at kr
      clear D1 F1 O1
      obtain ⟨acc, Hacc⟩ : ∃ acc, Hid (rsA s N j = acc) := ⟨_, rfl⟩
      rw [Hacc.out] at HO1 hRN hlen ⊢
      obtain ⟨m, hm⟩ : ∃ m, Hid (acc.length = m) := ⟨_, rfl⟩
      rw [hm.out] at HO1 hlen ⊢
      go_wp2_with fail
      refine kr.mono ?_
      rintro en w2 ⟨ab, nb, cb, rfl, hnc, hcm, hbs, _, D2, F2⟩
      have HF2 := hid (HF1.out.trans F2)
      have HD2 := hid D2
      have s1 := HF1.out.size
      have O2 := own_at' HO1.out (w' := w2) (fun g e => F2.same g (HO1.out.lt g e).2 (fun q => by have := hlt.out g q; have := (HO1.out.lt g e).1; omega))
      have HO2 := hid O2
      clear kr D2 O2
      by_cases hE : E = 0
      · subst hE
        obtain ⟨b2, rfl⟩ := hbs rfl
        have HE1 : Hid (∀ k, k < j + 1 → opE (opSn k s) = 0) := fun k hk => by
          by_cases q : k = j
          · rw [q]; exact HE.out
          · exact HE0.out k (by omega)
        have T2 := HT.out.fr HF2.out H0.out
        have kg := getSuper_ (n := 512) (c := cb) j HD2.out T2 b2 hnc hcm
        rw [hsn2.out] at kg
        have hcs : Hid (∀ x, cnX (gs (layA s.S s.P j)) N j = some x → True) := fun _ _ => trivial
        generalize cnX (gs (layA s.S s.P j)) N j = cx at *
        have s2 := F2.size
        clear hbs b2 T2 F2 HPE
        go_wp2_with fail
        refine kg.mono ?_
        rintro en w3 ⟨e', q', l', m', rfl, hx, B3⟩
        have B4 := B3.alloc B3.size (.cells #[.int .i64 e', .int .i64 q', .int .i64 l', .int .u32 m'] 88)
        have U4' := Um.new w3 e' q' l' m'
        have HD4 := hid (HD2.out.below B4)
        have HF4 := hid (HF2.out.below B4)
        have O4 := own_bel12 HO2.out B4
        have HB4 := hid B4
        have hs3 := B3.size
        clear kg B3
        cases cx with
        | none =>
          have HO4 := hid O4
          clear O4 U4' B4
          go_wp2_with fail
          go_roundw
          case rel => exact ⟨j + 1, a, c, by omega, by go_num, by rw [hRN.out]; simp [hm.out], by rw [hRN.out]; simpa [hm.out] using HO4.out, HE1.out, HD4.out, HF4.out⟩
          case measure => simp [intOf]; omega
        | some x =>
          obtain ⟨rfl, rfl, rfl, rfl⟩ := hx x rfl
          obtain ⟨xe, xs, xK, xL, xm⟩ := x
          simp only at *
          have u0 := U4'.c0
          have u1 := U4'.c1
          have u2 := U4'.c2
          have u3 := U4'.c3
          have hsz : w.heap.size ≤ (w3.alloc (.cells #[.int .i64 xe, .int .i64 xs, .int .i64 xL, .int .u32 xm] 88)).heap.size := by rw [World.size_alloc]; omega
          have BB := unew (w3.alloc (.cells #[.int .i64 xe, .int .i64 xs, .int .i64 xL, .int .u32 xm] 88)) xe xs xL xm
          have U5 := Um.new (w3.alloc (.cells #[.int .i64 xe, .int .i64 xs, .int .i64 xL, .int .u32 xm] 88)) xe xs xL xm
          rw [World.size_alloc] at U5
          have O5 := own_bel12 O4 BB
          have HD5 := hid (HD4.out.below BB)
          have HF5 := hid (HF4.out.below BB)
          have hsz5 := Nat.le_trans hsz BB.size
          have HO5 := hid O5
          have HU5 := hid U5
          have HS5 := hid hsz5
          clear O4 O5 U4' U5 BB B4 hsz hsz5
          have Hc1 : Hid (∀ k u, [Value.int .i64 xe, .int .i64 xs, .int .i64 xL, .int .u32 xm][k]? = some u → ((w3.alloc (.cells #[.int .i64 xe, .int .i64 xs, .int .i64 xL, .int .u32 xm] 88)).alloc (.cells #[.int .i64 xe, .int .i64 xs, .int .i64 xL, .int .u32 xm] 88)).cell? ((⟨w3.heap.size + 1, 0, none⟩ : Addr).add k) = some u) := by
            intro k u hk
            rw [Addr.add_lit, Nat.zero_add]
            match k, hk with
            | 0, hk => simp at hk; subst hk; exact HU5.out.c0
            | 1, hk => simp at hk; subst hk; exact HU5.out.c1
            | 2, hk => simp at hk; subst hk; exact HU5.out.c2
            | 3, hk => simp at hk; subst hk; exact HU5.out.c3
            | k + 4, hk => simp at hk
          have Hc2 : Hid (∀ u ∈ [Value.int .i64 xe, .int .i64 xs, .int .i64 xL, .int .u32 xm], u.oneCell' = true) := by
            intro u hu
            simp at hu
            rcases hu with rfl | rfl | rfl | rfl <;> rfl
          go_wp2_with (at_builtin; (refine wpList_append_own _ rfl _ _ 116 rfl w.heap.size 88 iu _ 4 32 Tryz.underlying116 hiu hz0 hz1 hz2 rfl (by decide) (.slice a m c) m (ucs (acc.map spv)) rfl (by exact HO5.out) ⟨w3.heap.size + 1, 0, none⟩ 1 1 [.int .i64 xe, .int .i64 xs, .int .i64 xL, .int .u32 xm] rfl rfl (by exact Hc1.out) (by exact Hc2.out) (by unfold maxLen; omega) (by omega) (by exact HS5.out) ?_); intro v' w6 hown hg hv)
          obtain ⟨a7, c7, rfl, _, _, _⟩ := own_slice hown
          have hob := fun g e => (HO5.out.lt g e).1
          have HF6 := hid (fr_own HF5.out hg hob)
          have HD6 := hid (dev_own HD5.out hlt.out hg hob)
          have HO6 := hid hown
          clear hg hown hv hob HO5 HU5
          go_wp2_with fail
          go_roundw
          case rel => exact ⟨j + 1, a7, c7, by omega, by go_num, by rw [hRN.out]; simp [hm.out], by rw [hRN.out]; simpa [hm.out, ucs_app, ucs, encU, spv] using HO6.out, HE1.out, HD6.out, HF6.out⟩
          case measure => simp [intOf]; omega
      · have hEb : (E != 0) = true := by rw [bne_iff_ne]; exact hE
        have hfin := HPE.out hE
        have HFIN := hid hfin
        clear hfin hE hbs F2
        go_wp2_with fail
        go_ret2
        rw [HFIN.out]
        exact ⟨rfl, HD2.out, HF2.out⟩
    · obtain rfl : j = 2 := by omega
      have hjI : ¬ ((2 : Nat) : Int) < 2 := by omega
      have HOK := hid (rsP_ok s N HE0.out)
      have HA : Hid (rsA s N 2 = (cnX (gs (layA s.S s.P 0)) N 0).toList ++ (cnX (gs (layA s.S s.P 1)) N 1).toList) := rfl
      have ha : Hid (∀ x, cnX (gs (layA s.S s.P 0)) N 0 = some x → x.K = pcN x.L ∧ x.K + 11 ≤ roo N ∧ mq x.e ∧ mq x.s ∧ x.m < 4294967296 ∧ x.e % 2 = 0) := fun x hx => by
        obtain ⟨k1, k2, k3, k4, k5, k6, _⟩ := cnX_some (hby.out 0 (by omega)) hx
        exact ⟨k1, k2, k3, k4, k5, k6⟩
      have hb : Hid (∀ x, cnX (gs (layA s.S s.P 1)) N 1 = some x → x.K = pcN x.L ∧ x.K + 11 ≤ roo N ∧ mq x.e ∧ mq x.s ∧ x.m < 4294967296 ∧ x.e % 2 = 1) := fun x hx => by
        obtain ⟨k1, k2, k3, k4, k5, k6, _⟩ := cnX_some (hby.out 1 (by omega)) hx
        exact ⟨k1, k2, k3, k4, k5, k6⟩
      generalize cnX (gs (layA s.S s.P 0)) N 0 = ca at *
      generalize cnX (gs (layA s.S s.P 1)) N 1 = cb at *
      rw [HA.out] at O1 hlen ⊢
      have HM : Hid (∀ x ∈ two12 ca cb, x.K = pcN x.L ∧ x.K ≤ 4095 ∧ mq x.e ∧ mq x.s ∧ x.m < 4294967296) := fun x hx => by
        have : ca = some x ∨ cb = some x := by
          unfold two12 at hx
          cases ca with
          | none => cases cb with
            | none => simp at hx
            | some y => simp at hx; exact .inr (by rw [hx])
          | some y => cases cb with
            | none => simp at hx; exact .inl (by rw [hx])
            | some z =>
              simp only at hx
              split at hx
              · simp at hx
                rcases hx with rfl | rfl
                · exact .inr rfl
                · exact .inl rfl
              · simp at hx
                rcases hx with rfl | rfl
                · exact .inl rfl
                · exact .inr rfl
        rcases this with e | e
        · obtain ⟨k1, k2, k3, k4, k5, _⟩ := ha.out x e
          exact ⟨k1, by omega, k3, k4, k5⟩
        · obtain ⟨k1, k2, k3, k4, k5, _⟩ := hb.out x e
          exact ⟨k1, by omega, k3, k4, k5⟩
      have HTL : Hid ((two12 ca cb).length = (ca.toList ++ cb.toList).length) := by
        show _ = _
        unfold two12
        cases ca <;> cases cb <;> simp
        split <;> rfl
      have HSRT := hid (fun ys => sorted_two (a := ca) (b := cb) (ys := ys) (fun x hx => (ha.out x hx).2.2.2.2.2) (fun x hx => (hb.out x hx).2.2.2.2.2))
      obtain ⟨us, HUS⟩ : ∃ us, Hid (ca.toList ++ cb.toList = us) := ⟨_, rfl⟩
      rw [HUS.out] at O1 hlen HTL HSRT ⊢
      obtain ⟨m, Hm⟩ : ∃ m, Hid (us.length = m) := ⟨_, rfl⟩
      rw [Hm.out] at O1 hlen HTL ⊢
      obtain ⟨hnc, hcm, hnew⟩ : m ≤ c ∧ c ≤ maxLen ∧ (∀ ad, a = some ad → w.heap.size ≤ ad.block) := by
        obtain ⟨a', c', e', q1, q2, q3⟩ := own_slice O1
        obtain ⟨rfl, -, rfl⟩ : a = a' ∧ True ∧ c = c' := by simpa using e'
        exact ⟨q1, q2, fun ad ha => (q3 ad ha).2⟩
      have fin : ∀ w2 ys, Hid (ys.Perm (us.map spv) → ys.Pairwise (fun p q => q.1 ≤ p.1) → Us w2 a m ys → rsPost w w2 (.returned (.tuple #[.slice a m c, .int .i64 0])) ((rsP N).run s).1) := fun w2 ys hp hs hu => by
        have e1 := HSRT.out ys hp hs
        rw [HOK.out]
        refine ⟨a, c, by rw [HTL.out], by rw [HTL.out, ← e1]; exact hu, by rw [HTL.out]; exact hnc, hcm, hnew, HM.out⟩
      have HU := hid (Us.ofOwn O1 (by rw [List.length_map]; exact Hm.out))
      have HR2 : Hid (((rsP N).run s).2 = opSn 2 s) := by show _ = _; rw [HOK.out]
      by_cases hm0 : m = 0
      · subst hm0
        have hus : Hid (us = []) := List.eq_nil_of_length_eq_zero Hm.out
        have ks := sortU_none a c wr
        have HD1 := hid D1
        have HF1 := hid F1
        clear D1 F1 O1
        go_wp2_with fail
        refine ks.mono ?_
        rintro en w2 ⟨rfl, hw⟩
        obtain rfl := hw.symm
        clear hw ks
        go_wp2_with fail
        go_ret2
        refine ⟨(fin wr [] ).out ?_ List.Pairwise.nil ?_, by rw [HR2.out]; exact HD1.out, HF1.out⟩
        · rw [hus.out]; exact List.Perm.refl _
        · have := HU.out
          rw [hus.out] at this
          exact this
      · obtain ⟨g, rfl⟩ : ∃ g, a = some ⟨g, 0, none⟩ := by
          obtain ⟨o1, o2⟩ := O1
          rcases o2 with ⟨_, o2⟩ | ⟨g, cap, cur, e, _⟩
          · exact absurd o2 hm0
          · exact ⟨g, by simpa using (Value.slice.inj e).1⟩
        obtain ⟨cur, hcur⟩ := own_ty O1 (g := g) rfl
        have ks := sortU_ g m c (us.map spv) cur wr hcur HU.out (by omega)
        have hgw := hnew _ rfl
        simp only at hgw
        have HD1 := hid D1
        have HF1 := hid F1
        clear D1 F1 O1 hcur
        go_wp2_with fail
        refine ks.mono ?_
        rintro en w2 ⟨rfl, ys, y1, y2, y3, y4⟩
        have hgg : ∀ k, some g = some k → w.heap.size ≤ k := fun k e => by cases e; exact hgw
        have HF6 := hid (fr_own HF1.out y4 hgg)
        have HD6 := hid (dev_own HD1.out hlt.out y4 hgg)
        have HY := hid ((fin w2 ys).out y1 y2 y3)
        clear ks y1 y2 y3 y4
        go_wp2_with fail
        go_ret2
        exact ⟨HY.out, by rw [HR2.out]; exact HD6.out, HF6.out⟩
end Go.Proofs.YtblcpdffiafgnaaGreatDoor
namespace Go.Proofs.YtblcpdffiafgnaaGreatDoor
set_option linter.unusedSimpArgs false
set_option maxRecDepth 100000
open Go.RowKit Go.Shelf
set_option linter.unusedVariables false

/-- What readState answers. -/
def tkPost (B : Nat) (w' : World) (en : Ending) (r : Except Int (Option (List Int))) : Prop :=
  match r with
  | .error E => en = .returned (.tuple #[.slice none 0 0, .bool false, .int .i64 E])
  | .ok none => ∃ v, en = .returned (.tuple #[v, .bool false, .int .i64 0])
  | .ok (some l) => ∃ v, en = .returned (.tuple #[v, .bool true, .int .i64 0]) ∧ w'.ownsRow B 5 1 v l.length (cells l) ∧ By l
theorem ckP_rd (N : Nat) (x : Sp) (m i : Nat) (l : List Int) (s : St) : (ckP N x (m + 1) i l).run s = if opE s = 0 then (match rx (gs (layA s.S s.P (sct N x.e i))) t2 x.e x.s i with
    | some body => if body.length = min 480 (x.L - 480 * i) then (ckP N x m (i + 1) (l ++ body)).run (opS s) else (.ok none, opS s)
    | none => (.ok none, opS s)) else (.error (opE s), opS s) := by
  conv => lhs; unfold ckP Rp.run
  by_cases h0 : opE s = 0
  · rw [if_pos h0, if_pos h0]
    cases hr : rx (gs (layA s.S s.P (sct N x.e i))) t2 x.e x.s i with
    | none => simp only [hr, Rp.run]
    | some body =>
      by_cases hb : body.length = min 480 (x.L - 480 * i)
      · simp only [hr, if_pos hb]
      · simp only [hr, if_neg hb, Rp.run]
  · rw [if_neg h0, if_neg h0]
theorem rx_some {zs : List Int} {T : ByteArray} {e q p : Nat} {l : List Int} (h : rx (gs zs) T e q p = some l) : gs zs = some ⟨T, e, q, p, l⟩ := rt_some (T := T) (e := e) (q := q) (p := p) h
theorem tkP_run (N : Nat) (x : Sp) (s : St) : (tkP N x).run s = match (ckP N x x.K 0 []).run s with
    | (.ok (some l), s') => (.ok (if updc 0 l = x.m then some l else none), s')
    | (.ok none, s') => (.ok none, s')
    | (.error E, s') => (.error E, s') := by
  unfold tkP
  rw [Rp.run_bind]
  generalize (ckP N x x.K 0 []).run s = r
  obtain ⟨r1, s'⟩ := r
  cases r1 with
  | error E => rfl
  | ok o =>
    cases o with
    | none => rfl
    | some l => rfl
set_option maxHeartbeats 8000000 in
theorem readState_ (x : Sp) (hx : x.K = pcN x.L ∧ x.K ≤ 4095 ∧ mq x.e ∧ mq x.s ∧ x.m < 4294967296) (d : Nat) (s : St) (Q : Nat → Prop) (w : World) (h : Dev w d s Q) (hT : Tab w) (h0 : ¬ Q 0) (hK : x.K ≤ roo s.n) (hsc : s.c ≤ 50000) (hP : s.P.length ≤ 90000) :
    Calls Tryz.prog 76 #[.agg #[.int .i64 x.e, .int .i64 x.s, .int .i64 x.L, .int .u32 x.m], .pointer (some ⟨d, 0, none⟩)] w fun en w' => tkPost w.heap.size w' en ((tkP s.n x).run s).1 ∧ Dev w' d ((tkP s.n x).run s).2 Q ∧ Fr Q w w' ∧ ((tkP s.n x).run s).2.c ≤ s.c + x.K := by
  obtain ⟨i5, hi5, hz0, hz1, hz2⟩ := info_parts info5
  obtain ⟨hKL, hK4, he, hs, hm⟩ := hx
  have hN := h.n
  have hR : roo s.n ≤ 4095 := by unfold roo; omega
  have B0 := unew w x.e x.s x.L x.m
  have u0 := Um.new w x.e x.s x.L x.m
  have HD0 := hid (h.below B0)
  have HT := hid hT
  have H0 := hid h0
  have hlt := hid h.lt
  have HTK := hid (tkP_run s.n x s)
  have hby : Hid (∀ i, i < s.n → Sc5 (layA s.S s.P i)) := fun i hi => h.cur i hi
  have kP := fun w => pieces0_ (x.L : Int) w (by have := hKL; unfold pcN at this; omega)
  simp only [Int.toNat_natCast] at kP
  rw [← hKL] at kP
  have hL : x.L ≤ 480 * x.K := by rw [hKL]; exact pcN_ge (Nat.le_refl _)
  have hLk : ∀ j, j < x.K → 480 * j < x.L := fun j hj => pcN_lt (by rw [← hKL]; exact hj)
  obtain ⟨N, HN⟩ : ∃ N, Hid (s.n = N) := ⟨_, rfl⟩
  rw [HN.out] at hN hR hK hby HTK ⊢
  have hsct : ∀ j, j < x.K → sct N x.e j < N := fun j hj => sct_lt' (by omega) hN.1
  have HU0 := hid u0
  have HB0 := hid B0
  have c2 := u0.c2
  have HKL := hid hKL
  have hxL : x.L ≤ 2000000 := by have := hKL; unfold pcN at this; omega
  clear h hT h0 B0 u0 hKL
  obtain ⟨xe, xs, xK, xL, xm⟩ := x
  simp only at *
  generalize hr2 : (tkP N ⟨xe, xs, xK, xL, xm⟩).run s = r2 at *
  clear hr2
  go_enter Tryz.func76, Tryz.ntmps76
  go_wp2_with fail
  refine (kP _).mono ?_
  rintro en w1 ⟨rfl, hw⟩
  obtain rfl := hw.symm
  clear hw
  obtain ⟨W, HW⟩ : ∃ W, Hid (w.alloc (.cells #[.int .i64 xe, .int .i64 xs, .int .i64 xL, .int .u32 xm] 88) = W) := ⟨_, rfl⟩
  rw [HW.out] at HD0 HU0 HB0 c2 ⊢
  go_wp2_with fail
  go_loopw [7, 8, 9, 10, 11, 12, 16] (fun o _ _ _ _ _ i wr => ∃ j a n c st sj, j ≤ xK ∧ i = .int .i64 (j : Nat) ∧ o = .slice a n c ∧ n = min (480 * j) xL ∧ wr.ownsRow w.heap.size 5 1 (.slice a n c) n (cells st) ∧ st.length = n ∧ By st ∧ Hid ((ckP N ⟨xe, xs, xK, xL, xm⟩ (xK - j) j st).run sj = (ckP N ⟨xe, xs, xK, xL, xm⟩ xK 0 []).run s) ∧ Hid (sj.S = s.S ∧ sj.P = s.P ∧ sj.n = N ∧ sj.c ≤ s.c + j) ∧ Um wr w.heap.size xe xs xL xm ∧ Dev wr d sj Q ∧ Fr Q w wr ∧ Tab wr) (fun _ _ _ _ _ _ i _ => xK - (intOf i).toNat)
  case atStart => exact ⟨0, none, 0, 0, [], s, by omega, rfl, rfl, by omega, World.ownsRow_nil _ _ _ _, rfl, fun z hz => (by cases hz), rfl, ⟨rfl, rfl, HN.out, by omega⟩, HU0.out, HD0.out, Fr.ofB HB0.out, HT.out.bel HB0.out⟩
  case round =>
    obtain ⟨j, a, n, c, st, sj, hj, rfl, rfl, hn, O1, hst, hyst, HCK, HS, U1, D1, F1, T1⟩ := hrel
    obtain ⟨sS, sP, sn, sc⟩ := HS.out
    have Hn := hid hn
    have Hst := hid hst
    have hn6 : n ≤ 2000000 := by omega
    clear hn hst
    have HO1 := hid O1
    have HU1 := hid U1
    have HD1 := hid D1
    have HF1 := hid F1
    have HT1 := hid T1
    have k0 := U1.c0
    have k1 := U1.c1
    have k2 := U1.c2
    have k3 := U1.c3
    have s1 := F1.size
    by_cases hlt2 : j < xK
    · have hjI : (j : Int) < (xK : Int) := by omega
      have hLj := hLk j hlt2
      have Hn' : Hid (n = 480 * j) := by show _ = _; have := Hn.out; omega
      have hjs := hsct j hlt2
      have kr := wregion_ D1 xe (by have := he.2; omega)
      rw [sn] at kr
      have hrg := rg_le N xe hN.2
      have HCR := hid (ckP_rd N ⟨xe, xs, xK, xL, xm⟩ (xK - (j + 1)) j st sj)
      rw [show xK - (j + 1) + 1 = xK - j from by omega, sS, sP] at HCR
      simp only [sct_rg'] at HCR hjs
      obtain ⟨G, HG⟩ : ∃ G, Hid (rg N xe = G) := ⟨_, rfl⟩
      rw [HG.out] at kr hrg HCR hjs
      obtain ⟨i, Hi⟩ : ∃ i, Hid (G + j = i) := ⟨_, rfl⟩
      rw [Hi.out] at HCR hjs
      have hi : (G : Int) + (j : Int) = (i : Int) := by have := Hi.out; omega
      have krd := wread_ d i sj Q wr D1 (by rw [sn]; exact hjs) (by omega) (by rw [sP]; omega)
      rw [sS, sP] at krd
      have hsec := hby.out i hjs
      obtain ⟨zs, Hzs⟩ : ∃ zs, Hid (layA s.S s.P i = zs) := ⟨_, rfl⟩
      rw [Hzs.out] at krd HCR hsec
      obtain ⟨E, HE⟩ : ∃ E, Hid (opE sj = E) := ⟨_, rfl⟩
      rw [HE.out] at krd HCR
      have HEQ := hid (HCR.out.symm.trans HCK.out)
      have o1 := opS_c sj
      have o2 := opS_n sj
      have HS2 : Hid ((opS sj).S = s.S ∧ (opS sj).P = s.P ∧ (opS sj).n = N ∧ (opS sj).c ≤ s.c + (j + 1)) := ⟨(opS_S' sj).trans sS, (opS_P' sj).trans sP, o2.trans sn, by omega⟩
      clear U1 D1 F1 T1 O1 HCR HCK o1 o2 hsct hLk
      go_wp2_with fail
      refine kr.mono ?_
      rintro en w2 ⟨rfl, hw⟩
      obtain rfl := hw.symm
      clear hw kr
      go_wp2_with fail
      refine krd.mono ?_
      rintro en w2 ⟨ab, nb, cb, rfl, hnc, hcm, hbs, _, D2, F2⟩
      have nq : ∀ b, w.heap.size ≤ b → ¬ Q b := fun b hb q => by have := hlt.out b q; omega
      have O2 := own_at' HO1.out (w' := w2) (fun g e => F2.same g (HO1.out.lt g e).2 (nq g (HO1.out.lt g e).1))
      have U2 := HU1.out.at (w' := w2) (F2.same _ HU1.out.lt (nq _ (Nat.le_refl _)))
      have T2 := HT1.out.fr F2 H0.out
      have F3 := HF1.out.trans F2
      have s2 := F2.size
      have HO2 := hid O2
      have HU2 := hid U2
      have HT2 := hid T2
      have HF3 := hid F3
      have HD2 := hid D2
      clear krd O2 U2 T2 F3 D2 F2 HO1 HU1 HT1 HF1 HD1 k0 k1 k2 k3
      by_cases hE : E = 0
      · subst hE
        rw [if_pos rfl] at HEQ
        obtain ⟨b2, rfl⟩ := hbs rfl
        have k0 := HU2.out.c0
        have k1 := HU2.out.c1
        have k2 := HU2.out.c2
        have HB2 := hid b2
        clear hbs b2
        have hbyz : Hid (By zs) := hsec.2
        clear hsec
        cases hrx : rx (gs zs) t2 xe xs j with
        | none =>
          rw [hrx] at HEQ
          simp only at HEQ
          rw [← HEQ.out] at HTK
          simp only at HTK
          have kR := right_n t2 xe xs j ab 512 cb zs w2 HT2.out HB2.out hnc hcm hrx
          clear hrx
          go_wp2_with fail
          refine kR.mono ?_
          rintro en w3 ⟨rfl, B3⟩
          have HD4 := hid (HD2.out.below B3)
          have HF4 := hid (HF3.out.below B3)
          clear kR B3
          go_wp2_with fail
          go_ret3
          rw [HTK.out]
          exact ⟨⟨_, rfl⟩, HD4.out, HF4.out, by have := HS2.out; show (opS sj).c ≤ _; omega⟩
        | some body =>
          have hgz := rx_some hrx
          rw [hrx] at HEQ
          simp only at HEQ
          have hbl480 : body.length ≤ 480 := (gs_some hgz).2.1.2.2.2.2
          have hbby : Hid (By body) := by
            show By body
            have h1 := (gs_some hgz).2.2.2
            have h2 : body = (rs zs).l := by rw [← h1]
            rw [h2]
            exact sl_by hbyz.out _ _
          have kR := right_y t2 xe xs j body ab 512 cb zs w2 HT2.out HB2.out hnc hcm hgz
          obtain ⟨bl, Hbl⟩ : ∃ bl, Hid (body.length = bl) := ⟨_, rfl⟩
          rw [Hbl.out] at kR hbl480 HEQ
          obtain ⟨mn, Hmn⟩ : ∃ mn, Hid (min 480 (xL - 480 * j) = mn) := ⟨_, rfl⟩
          rw [Hmn.out] at HEQ
          obtain ⟨D, HD⟩ : ∃ D : Nat, Hid (xL - n = D) := ⟨_, rfl⟩
          have hD : (xL : Int) - (n : Int) = (D : Int) := by have := HD.out; have := Hn'.out; omega
          have hmn : min (D : Int) 480 = (mn : Int) := by have := HD.out; have := Hmn.out; have := Hn'.out; omega
          clear hrx hgz
          go_wp2_with fail
          refine kR.mono ?_
          rintro en w3 ⟨g', rfl, hg', r3, B3⟩
          have HD4 := hid (HD2.out.below B3)
          have HF4 := hid (HF3.out.below B3)
          have HU4 := hid (HU2.out.below B3)
          have HT4 := hid (HT2.out.bel B3)
          have HO4 := hid (own_bel12 HO2.out B3)
          have k2 := HU4.out.c2
          have hs3 := B3.size
          have Hr3 := hid r3
          clear kR B3 r3 HO2 HU2 HT2
          by_cases hbm : bl = mn
          · rw [if_pos hbm] at HEQ
            have hbI : ((bl : Int) != (mn : Int)) = false := by simp; omega
            have hc1 : Hid (∀ k u, (cells body)[k]? = some u → w3.cell? ((⟨g', 0, none⟩ : Addr).add k) = some u) := by
              intro k u hk
              rw [Addr.add_lit, Nat.zero_add]
              have hkl : k < body.length := by have := (List.getElem?_eq_some_iff.1 hk).1; rwa [cells_length] at this
              rw [Hr3.out.cell k hkl]
              unfold cells at hk
              rw [List.getElem?_map, List.getElem?_eq_getElem hkl] at hk
              simp only [Option.map] at hk
              rw [← hk]
              simp [List.getD, hkl]
            have hst2 : Hid ((st ++ body).length = n + bl) := by show _ = _; rw [List.length_append, Hst.out, Hbl.out]
            have hn2 : Hid (n + bl = min (480 * (j + 1)) xL) := by show _ = _; have := Hmn.out; have := Hn'.out; omega
            have hyst2 : Hid (By (st ++ body)) := By.app hyst hbby.out
            clear hbm
            go_wp2_with (at_builtin; (refine wpList_append_own _ rfl _ _ 27 rfl w.heap.size 5 i5 (.int .u8 0) 1 1 Tryz.underlying27 hi5 hz0 hz1 hz2 rfl (by decide) (.slice a n c) n (cells st) rfl (by exact HO4.out) ⟨g', 0, none⟩ bl bl (cells body) rfl (by rw [cells_length, Hbl.out, Nat.mul_one]) (by exact hc1.out) (cells_one body) (by unfold maxLen; omega) (by omega) (by omega) ?_); intro v' w6 hown hg hv)
            obtain ⟨a7, c7, rfl, _, _, _⟩ := own_slice hown
            have hob := fun g e => (HO4.out.lt g e).1
            have hne := fun g e => (HO4.out.lt g e).1
            have HF6 := hid (fr_own HF4.out hg hob)
            have HD6 := hid (dev_own HD4.out hlt.out hg hob)
            have hwu : Hid (∀ g, (Value.slice a n c).ownBlock = some g → g ≠ w.heap.size) := fun g e q => by
              obtain ⟨cur, hcur⟩ := own_ty HO4.out e
              rw [q, HU4.out] at hcur
              simp at hcur
            have HU6 := hid (HU4.out.at (hg.block _ HU4.out.lt (fun e => hwu.out _ e.symm rfl)))
            have HT6 : Hid (Tab w6) := ⟨Nat.lt_of_lt_of_le HT4.out.1 hg.size, fun i hi => hg.cell (HT4.out.2 i hi) (fun e => by have := hob 0 e.symm; have := HT.out.1; omega)⟩
            have HO6 : Hid (w6.ownsRow w.heap.size 5 1 (.slice a7 (n + bl) c7) (n + bl) (cells (st ++ body))) := by
              have e1 : cells (st ++ body) = cells st ++ cells body := by simp [cells]
              show w6.ownsRow _ _ _ _ _ _
              rw [e1]
              exact hown
            clear hg hown hv hob hne HO4
            go_wp2_with fail
            go_roundw
            case rel => exact ⟨j + 1, a7, n + bl, c7, st ++ body, opS sj, by omega, by go_num, rfl, hn2.out, HO6.out, hst2.out, hyst2.out, HEQ.out, HS2.out, HU6.out, HD6.out, HF6.out, HT6.out⟩
            case measure => simp [intOf]; omega
          · rw [if_neg hbm] at HEQ
            rw [← HEQ.out] at HTK
            simp only at HTK
            have hbI : ((bl : Int) != (mn : Int)) = true := by rw [bne_iff_ne]; omega
            clear hbm
            go_wp2_with fail
            go_ret3
            rw [HTK.out]
            exact ⟨⟨_, rfl⟩, HD4.out, HF4.out, by have := HS2.out; show (opS sj).c ≤ _; omega⟩
      · have hEb : (E != 0) = true := by rw [bne_iff_ne]; exact hE
        rw [if_neg hE] at HEQ
        rw [← HEQ.out] at HTK
        simp only at HTK
        clear hbs hE
        go_wp2_with fail
        go_ret3
        rw [HTK.out]
        exact ⟨rfl, HD2.out, HF3.out, by have := HS2.out; show (opS sj).c ≤ _; omega⟩
    · obtain rfl : j = xK := by omega
      have hjI : ¬ (j : Int) < (j : Int) := by omega
      rw [Nat.sub_self] at HCK
      have HCK2 : Hid ((ckP N ⟨xe, xs, j, xL, xm⟩ j 0 []).run s = (.ok (some st), sj)) := HCK.out.symm
      rw [HCK2.out] at HTK
      simp only at HTK
      obtain ⟨a', c', e', bs1, hnc, hcm, _⟩ := own_form O1 hyst
      obtain ⟨rfl, -, rfl⟩ : a = a' ∧ True ∧ c = c' := by simpa using e'
      clear e'
      have ks := fun k => sum_ a n c st (wr.drewN k) (T1.drawn (drawnN wr k)) (bs1.below (drawnN wr k).below) (by unfold maxLen; omega)
      have hsu := updc_lt (by omega : (0 : Nat) < 4294967296) hyst
      obtain ⟨S, HSu⟩ : ∃ S, Hid (updc 0 st = S) := ⟨_, rfl⟩
      simp only [HSu.out] at ks
      rw [HSu.out] at hsu HTK
      have HD9 := hid (D1.below (drawnN wr 1).below)
      clear U1 D1 F1 T1 O1 bs1 HCK HCK2
      by_cases hS : S = xm
      · rw [if_pos hS] at HTK
        have hSb : ((S : Int) == (xm : Int)) = true := by simp; omega
        clear hS
        go_wp2_with fail
        go_quiet ((go_at_call 71; exact Calls.quiet_of_same (ks _)))
        go_wp2_with fail
        go_ret3
        rw [HTK.out]
        exact ⟨⟨_, rfl, by rw [Hst.out]; exact own_at' HO1.out (fun g e => rfl), hyst⟩, HD1.out.below (drawnN wr _).below, HF1.out.below (drawnN wr _).below, by show sj.c ≤ _; omega⟩
      · rw [if_neg hS] at HTK
        have hSb : ((S : Int) == (xm : Int)) = false := by simp; omega
        clear hS
        go_wp2_with fail
        go_quiet ((go_at_call 71; exact Calls.quiet_of_same (ks _)))
        go_wp2_with fail
        go_ret3
        rw [HTK.out]
        exact ⟨⟨_, rfl⟩, HD1.out.below (drawnN wr _).below, HF1.out.below (drawnN wr _).below, by show sj.c ≤ _; omega⟩
end Go.Proofs.YtblcpdffiafgnaaGreatDoor
