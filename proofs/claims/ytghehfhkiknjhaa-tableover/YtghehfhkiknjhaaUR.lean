import Derived.Test.YtghehfhkiknjhaaUP
namespace Go.Proofs.Ytghehfhkiknjhaa
set_option maxRecDepth 100000
open Go.RowKit Go.Shelf Go.Maps
set_option linter.unusedVariables false

theorem doAll_app (M : Tab) (l m : List Sx) : doAll M (l ++ m) = doAll (doAll M l) m := by unfold doAll; rw [List.foldl_append]
theorem chg_says {W I : Tab} {s : Sx} (h : s ∈ chg W I) : (s.g = true → (look W s.k).isSome = true) ∧ (s.g = false → look W s.k ≠ some s.v) := by
  unfold chg at h
  obtain ⟨p, _, hp⟩ := List.mem_filterMap.1 h
  have hk := chg1_key hp
  rw [hk]
  unfold chg1 at hp
  split at hp
  · rename_i e1 e2
    obtain rfl := Option.some.inj hp
    exact ⟨(fun e => by cases e), fun _ => by rw [e1]; simp⟩
  · rename_i v' v e1 e2
    split at hp
    · cases hp
    · rename_i hne
      obtain rfl := Option.some.inj hp
      exact ⟨(fun e => by cases e), fun _ => by rw [e1]; simpa using hne⟩
  · rename_i v' e1 e2
    obtain rfl := Option.some.inj hp
    exact ⟨fun _ => by rw [e1]; rfl, fun e => by cases e⟩
  · cases hp
theorem chg_at {W I : Tab} {k : Nat} (hk : k < (chg W I).length) : (chg W I).getD k default ∈ chg W I := by
  have e : (chg W I).getD k default = (chg W I)[k] := by simp [List.getD, hk]
  rw [e]
  exact List.getElem_mem hk
theorem chg_lx {W I : Tab} (h : Srt W) {k : Nat} (hk : k + 1 < (chg W I).length) : lx ((chg W I).getD k default).k ((chg W I).getD (k + 1) default).k = true := by
  have e1 : (chg W I).getD k default = (chg W I)[k] := by simp [List.getD, show k < (chg W I).length by omega]
  have e2 : (chg W I).getD (k + 1) default = (chg W I)[k + 1] := by simp [List.getD, hk]
  rw [e1, e2]
  exact (List.pairwise_iff_getElem.1 (chg_rises (I := I) h)) k (k + 1) (by omega) hk (by omega)
theorem uni_len : ∀ (I : Tab) {W : Tab}, Srt W → (uni W I).length ≤ W.length + I.length
  | [], W, _ => by simp [uni]
  | p :: I, W, h => by
    have h1 := len_ins p.1 p.2 W h
    have h2 := uni_len I (srt_ins p.1 p.2 W h)
    show (uni (ins p.1 p.2 W) I).length ≤ _
    rw [List.length_cons]
    split at h1 <;> omega
theorem chg_len {W I : Tab} (h : Srt W) : (chg W I).length ≤ W.length + I.length := by
  unfold chg
  exact Nat.le_trans (List.length_filterMap_le _ _) (uni_len I h)
theorem s_len {w : World} {t b : Nat} {V : Nat → Prop} {M : Tab} (h : Tw w t b V M) : Calls Try.prog 27 #[.pointer (some ⟨t, 0, none⟩)] w fun e w' => e = .returned (.int .i64 M.length) ∧ w' = w := len_ t b V M w h
set_option maxHeartbeats 8000000 in
theorem tableOver_ (U1 U2 U3 : Nat → Prop) (a1 a2 a3 : Option Addr) (n1 c1 n2 c2 n3 c3 : Nat) (l1 l2 l3 : List Sx) (w : World) (s1 : Sl w U1 a1 n1 l1) (s2 : Sl w U2 a2 n2 l2) (s3 : Sl w U3 a3 n3 l3) (hU1 : ∀ x, U1 x → x < w.heap.size) (hU2 : ∀ x, U2 x → x < w.heap.size) (hU3 : ∀ x, U3 x → x < w.heap.size) (hn1 : n1 ≤ maxLen) (hn2 : n2 ≤ maxLen) (hn3 : n3 ≤ maxLen) :
    Calls Try.prog 7 #[.slice a1 n1 c1, .slice a2 n2 c2, .slice a3 n3 c3] w fun e w' => e = .returned (.bool true) ∧ Below w.heap.size w w' := by
  have k1 := first_ w
  have kn := fun x wx => num_ x wx
  have S1 := hid s1
  have S2 := hid s2
  have S3 := hid s3
  have HU1 := hid hU1
  have HU2 := hid hU2
  have HU3 := hid hU3
  clear s1 s2 s3 hU1 hU2 hU3
  obtain ⟨L1, HL1⟩ : ∃ L, Hid (fitL l1 1000 = L) := ⟨_, rfl⟩
  obtain ⟨L2, HL2⟩ : ∃ L, Hid (fitL l2 1000 = L) := ⟨_, rfl⟩
  obtain ⟨L3, HL3⟩ : ∃ L, Hid (fitL l3 1000 = L) := ⟨_, rfl⟩
  have M1 : Hid (allMay L1 = true) := by rw [← HL1.out]; exact fitL_may _ _
  have M2 : Hid (allMay L2 = true) := by rw [← HL2.out]; exact fitL_may _ _
  have M3 : Hid (allMay L3 = true) := by rw [← HL3.out]; exact fitL_may _ _
  have N1 : Hid (L1.length ≤ 1000) := by rw [← HL1.out]; exact fitL_len _ _
  have N2 : Hid (L2.length ≤ 1000) := by rw [← HL2.out]; exact fitL_len _ _
  have N3 : Hid (L3.length ≤ 1000) := by rw [← HL3.out]; exact fitL_len _ _
  go_enter Try.func7, Try.ntmps7
  go_wp2_with fail
  refine k1.mono ?_
  rintro e w1 ⟨rfl, g⟩
  have G := hid g
  have S1 := hid (S1.out.below g)
  have S2 := hid (S2.out.below g)
  have S3 := hid (S3.out.below g)
  clear g k1
  go_wp2_with fail
  refine (s_fit U1 a1 n1 c1 1000 l1 G.out S1.out HU1.out hn1 (by omega)).mono ?_
  rintro e w2 ⟨b1, d1, rfl, s1, g, bb⟩
  rw [HL1.out] at s1
  rw [HL1.out]
  obtain ⟨m1, Hm1⟩ : ∃ m, Hid (L1.length = m) := ⟨_, rfl⟩
  rw [Hm1.out] at s1 N1
  rw [Hm1.out]
  have G := hid g
  have S1 := hid s1
  have S2 := hid (S2.out.below bb)
  have S3 := hid (S3.out.below bb)
  clear g bb s1
  go_wp2_with fail
  refine (s_fit U2 a2 n2 c2 1000 l2 G.out S2.out HU2.out hn2 (by omega)).mono ?_
  rintro e w3 ⟨b2, d2, rfl, s1, g, bb⟩
  rw [HL2.out] at s1
  rw [HL2.out]
  obtain ⟨m2, Hm2⟩ : ∃ m, Hid (L2.length = m) := ⟨_, rfl⟩
  rw [Hm2.out] at s1 N2
  rw [Hm2.out]
  have G := hid g
  have S1 := hid (S1.out.below bb)
  have S2 := hid s1
  have S3 := hid (S3.out.below bb)
  clear g bb s1
  go_wp2_with fail
  refine (s_built _ b1 m1 d1 L1 G.out S1.out (by have := N1.out; omega) M1.out).mono ?_
  rintro e w4 ⟨t, tb, rfl, t1, h1, h2, g, bb⟩
  have HTB : Hid (w.heap.size ≤ tb) := Nat.le_trans G.out.size h1
  have G := hid g
  have T := hid t1
  have S1 := hid (S1.out.below bb)
  have S2 := hid (S2.out.below bb)
  have S3 := hid (S3.out.below bb)
  clear g bb t1 h1 h2
  go_wp2_with fail
  refine (s_built _ b1 m1 d1 L1 G.out S1.out (by have := N1.out; omega) M1.out).mono ?_
  rintro e w5 ⟨u, ub, rfl, t1, h1, h2, g, bb⟩
  have HTU : Hid (tb ≠ ub) := by have := T.out.mp.lt; show _ ≠ _; omega
  have HUB : Hid (w.heap.size ≤ ub) := Nat.le_trans G.out.size h1
  have G := hid g
  have T := hid (T.out.below bb)
  have T2 := hid t1
  have S1 := hid (S1.out.below bb)
  have S2 := hid (S2.out.below bb)
  have S3 := hid (S3.out.below bb)
  clear g bb t1 h1 h2
  obtain ⟨A, HA⟩ : ∃ A, Hid (doAll [] L1 = A) := ⟨_, rfl⟩
  have KA : Hid (A.length ≤ 1000) := by have h := len_doAll [] List.Pairwise.nil L1; rw [HA.out, Hm1.out] at h; have := N1.out; show _ ≤ _; simp only [List.length_nil] at h; omega
  rw [HA.out] at T T2
  have OA := hid T.out.tok
  obtain ⟨P, HP⟩ : ∃ P, Hid (enc (asS A) = P) := ⟨_, rfl⟩
  obtain ⟨p, Hp⟩ : ∃ p, Hid (P.length = p) := ⟨_, rfl⟩
  have LP : Hid (p ≤ 1048000) := by have h := enc_len_of _ (asS_may OA.out); rw [HP.out, asS_len, Hp.out] at h; have := KA.out; show _ ≤ _; omega
  go_wp2_with fail
  refine (s_bytes P p G.out T.out (by have := KA.out; omega) HP.out Hp.out).mono ?_
  rintro e w6 ⟨pa, pc, rfl, v, g, bb⟩
  have G := hid g
  have T := hid (T.out.below bb)
  have T2 := hid (T2.out.below bb)
  have S1 := hid (S1.out.below bb)
  have S2 := hid (S2.out.below bb)
  have S3 := hid (S3.out.below bb)
  have VP := hid v
  clear g bb v
  go_wp2_with fail
  refine (s_over G.out T.out).mono ?_
  rintro e w7 ⟨o, ob, oc, rfl, o1, hb1, hb2, hb3, hb4, g, bb⟩
  have HOB := hid hb1
  have HNE : Hid (tb ≠ ob ∧ tb ≠ oc ∧ ub ≠ ob ∧ ub ≠ oc) := by have := T.out.mp.lt; have := T2.out.mp.lt; refine ⟨?_, ?_, ?_, ?_⟩ <;> omega
  have G := hid g
  have O := hid o1
  have T := hid (T.out.below bb)
  have T2 := hid (T2.out.below bb)
  have S1 := hid (S1.out.below bb)
  have S2 := hid (S2.out.below bb)
  have S3 := hid (S3.out.below bb)
  have VP := hid (VP.out.lift bb (fun _ _ h => h))
  clear g bb o1 hb1 hb2 hb3 hb4
  go_wp2_with fail
  refine (s_fit U3 a3 n3 c3 1000 l3 G.out S3.out HU3.out hn3 (by omega)).mono ?_
  rintro e w8 ⟨b3, d3, rfl, s1, g, bb⟩
  rw [HL3.out] at s1
  rw [HL3.out]
  obtain ⟨m3, Hm3⟩ : ∃ m, Hid (L3.length = m) := ⟨_, rfl⟩
  rw [Hm3.out] at s1 N3
  rw [Hm3.out]
  have G := hid g
  have O := hid (O.out.below bb)
  have T := hid (T.out.below bb)
  have T2 := hid (T2.out.below bb)
  have S1 := hid (S1.out.below bb)
  have S2 := hid (S2.out.below bb)
  have VP := hid (VP.out.lift bb (fun _ _ h => h))
  have S3 := hid s1
  clear g bb s1
  obtain ⟨C, HC⟩ : ∃ C, Hid (doAll A L3 = C) := ⟨_, rfl⟩
  have KC : Hid (C.length ≤ 2000) := by have h := len_doAll A OA.out.srt L3; rw [HC.out, Hm3.out] at h; have := N3.out; have := KA.out; show _ ≤ _; omega
  have HMT := hid T.out.mp.isMap
  go_wp2_with fail
  refine (s_apply b3 m3 d3 L3 G.out HTB.out T.out S3.out (by have := N3.out; omega) (by have := KA.out; omega) M3.out HC.out).mono ?_
  rintro e w9 ⟨rfl, t9, g, gr⟩
  have G := hid g
  have T := hid t9
  have O := hid (O.out.other gr HMT.out HNE.out.1.symm HNE.out.2.1.symm)
  have T2 := hid (T2.out.other gr HMT.out HTU.out.symm)
  have S1 := hid (S1.out.other gr HMT.out)
  have S2 := hid (S2.out.other gr HMT.out)
  have VP := hid (VP.out.other gr HMT.out)
  clear g gr t9 S3 HMT
  have OC := hid T.out.tok
  obtain ⟨Q, HQ⟩ : ∃ P, Hid (enc (asS C) = P) := ⟨_, rfl⟩
  obtain ⟨q, Hq⟩ : ∃ p, Hid (Q.length = p) := ⟨_, rfl⟩
  have LQ : Hid (q ≤ 1048000) := by have h := enc_len_of _ (asS_may OC.out); rw [HQ.out, asS_len, Hq.out] at h; have := KC.out; show _ ≤ _; omega
  go_wp2_with fail
  refine (s_bytes Q q G.out T.out (by have := KC.out; omega) HQ.out Hq.out).mono ?_
  rintro e w10 ⟨na, nc, rfl, v, g, bb⟩
  have G := hid g
  have O := hid (O.out.below bb)
  have T := hid (T.out.below bb)
  have T2 := hid (T2.out.below bb)
  have S1 := hid (S1.out.below bb)
  have S2 := hid (S2.out.below bb)
  have VP := hid (VP.out.lift bb (fun _ _ h => h))
  have VN := hid v
  clear g bb v
  have HMO := hid O.out.is.isMap
  go_wp2_with fail
  refine (done_ _ o ob oc A A b2 m2 d2 L2 w10 G.out HOB.out O.out S2.out (by have := N2.out; omega) (by have := KA.out; omega) M2.out).mono ?_
  rintro e w11 ⟨rfl, dn⟩
  have hfull : L2.take m2 = L2 := List.take_of_length_le (by rw [Hm2.out]; exact Nat.le_refl _)
  obtain ⟨ov, g, gr⟩ := dn
  rw [hfull] at ov
  obtain ⟨I, HI⟩ : ∃ I, Hid (doAll A L2 = I) := ⟨_, rfl⟩
  rw [HI.out] at ov
  have KI : Hid (I.length ≤ 2000) := by have h := len_doAll A OA.out.srt L2; rw [HI.out, Hm2.out] at h; have := N2.out; have := KA.out; show _ ≤ _; omega
  have G := hid g
  have O := hid ov
  have T := hid (T.out.other gr HMO.out HNE.out.1)
  have T2 := hid (T2.out.other gr HMO.out HNE.out.2.2.1)
  have S1 := hid (S1.out.other gr HMO.out)
  have S2 := hid (S2.out.other gr HMO.out)
  have VP := hid (VP.out.other gr HMO.out)
  have VN := hid (VN.out.other gr HMO.out)
  clear g gr ov HMO hfull
  have OI := hid O.out.tokI
  go_wp2_with fail
  refine (s_bytes Q q G.out T.out (by have := KC.out; omega) HQ.out Hq.out).mono ?_
  rintro e w12 ⟨ia, ic, rfl, v, g, bb⟩
  have G := hid g
  have O := hid (O.out.below bb)
  have T2 := hid (T2.out.below bb)
  have S1 := hid (S1.out.below bb)
  have S2 := hid (S2.out.below bb)
  have VP := hid (VP.out.lift bb (fun _ _ h => h))
  have VN := hid (VN.out.lift bb (fun _ _ h => h))
  have VI := hid v
  clear g bb v T
  go_wp2_with fail
  refine (kn _ _).mono ?_
  rintro e wy ⟨rfl, hw⟩
  rw [hw]
  clear hw wy
  go_wp2_with fail
  refine (s_sameB nc ic true G.out VN.out.bs VI.out.bs (by have := LQ.out; omega) (by have := LQ.out; omega) (by simp)).mono ?_
  rintro e w13 ⟨rfl, g, bb⟩
  have G := hid g
  have O := hid (O.out.below bb)
  have T2 := hid (T2.out.below bb)
  have S1 := hid (S1.out.below bb)
  have S2 := hid (S2.out.below bb)
  have VP := hid (VP.out.lift bb (fun _ _ h => h))
  clear g bb VN VI
  obtain ⟨D, HD⟩ : ∃ D, Hid (chg A I = D) := ⟨_, rfl⟩
  obtain ⟨z, HZ⟩ : ∃ z, Hid (D.length = z) := ⟨_, rfl⟩
  go_wp2_with fail
  refine (s_sets z D G.out O.out (by have := KI.out; omega) (by have := KA.out; omega) HD.out HZ.out).mono ?_
  rintro e w14 ⟨sa, sc, rfl, sl, g, bb⟩
  have G := hid g
  have O := hid (O.out.below bb)
  have T2 := hid (T2.out.below bb)
  have S1 := hid (S1.out.below bb)
  have S2 := hid (S2.out.below bb)
  have SD' := hid sl
  have VP := hid (VP.out.lift bb (fun _ _ h => h))
  clear g bb sl
  have LD : Hid (z ≤ 5000) := by
    have h := chg_len (W := A) (I := I) OA.out.srt
    rw [HD.out, HZ.out] at h
    have := KA.out; have := KI.out
    show _ ≤ _
    omega
  go_wp2_with fail
  refine (s_bytes P p G.out T2.out (by have := KA.out; omega) HP.out Hp.out).mono ?_
  rintro e w15 ⟨ba, bc, rfl, v, g, bb⟩
  have G := hid g
  have O := hid (O.out.below bb)
  have T2 := hid (T2.out.below bb)
  have S1 := hid (S1.out.below bb)
  have S2 := hid (S2.out.below bb)
  have SD' := hid (SD'.out.below bb)
  have VP := hid (VP.out.lift bb (fun _ _ h => h))
  have VB := hid v
  clear g bb v
  go_wp2_with fail
  go_loopw [19] (fun i wr => ∃ j : Nat, j ≤ z ∧ i = .int .i64 j ∧ Hid (Below w15.heap.size w15 wr)) (fun i _ => z - (intOf i).toNat)
  case atStart => exact ⟨0, Nat.zero_le _, rfl, Below.refl _ _⟩
  case round =>
    obtain ⟨j, hj, rfl, HB⟩ := hrel
    by_cases hlt : j < z
    · have hI : (j : Int) < z := by omega
      have hjn : ¬ (j : Int) < 0 := by omega
      have hz2 := LD.out
      obtain ⟨bl, off, ka, kc, va, vc, kn', vn, rfl, hkn, hvn, c0, c1, c2, v1, v2⟩ := (SD'.out.below HB.out).at hlt
      have hjD : j < (chg A I).length := by rw [HD.out, HZ.out]; exact hlt
      have hmem := chg_at hjD
      have hsay := chg_says hmem
      have hmay := (List.all_eq_true.1 (chg_may OA.out OI.out)) _ hmem
      have hmk := mayS_key hmay
      have hmv := mayS_val hmay
      rw [HD.out] at hsay hmk hmv
      rw [← hkn] at hmk
      rw [← hvn] at hmv
      obtain ⟨sx, HS⟩ : ∃ s, Hid (D.getD j default = s) := ⟨_, rfl⟩
      rw [HS.out] at c2 v1 v2 hsay
      obtain ⟨K, X, g⟩ := sx
      simp only at c2 v1 v2 hsay
      obtain ⟨q', HQ'⟩ : ∃ q, Hid ((look A K).isSome = q) := ⟨_, rfl⟩
      obtain ⟨Y, HY⟩ : ∃ Y, Hid ((look A K).getD [] = Y) := ⟨_, rfl⟩
      obtain ⟨yn, HYN⟩ : ∃ yn, Hid (Y.length = yn) := ⟨_, rfl⟩
      obtain ⟨r, HR⟩ : ∃ r, Hid (decide (Y = X) = r) := ⟨_, rfl⟩
      have HS1 : Hid (g = true → q' = true) := fun e => by rw [← HQ'.out]; exact hsay.1 e
      have HS2 : Hid (g = false → q' = true → r = false) := fun e eq => by
        rw [← HR.out]
        refine decide_eq_false fun f => hsay.2 e ?_
        obtain ⟨v, hv⟩ := Option.isSome_iff_exists.1 (HQ'.out.trans eq)
        rw [hv] at HY
        rw [hv, ← f, ← HY.out]
        rfl
      have hyn : yn ≤ 480 := by
        rw [← HYN.out, ← HY.out]
        cases h : look A K with
        | none => simp
        | some v => exact (OA.out.val _ (look_mem h)).2
      have HG := hid (bel_bel G.out G.out.size HB.out)
      have HT := hid (T2.out.below HB.out)
      have ct := HT.out.tbl.cell
      have HC1 := hid c1
      have HC2 := hid c2
      have HV1 := hid v1
      have HV2 := hid v2
      have kg := fun wx (hb : Below wr.heap.size wr wx) => s_get (w0 := w) ka kn' kc yn K Y q' (bel_bel HG.out HG.out.size hb) (HT.out.below hb).mp OA.out (HV1.out.lift hb (fun _ _ h => h)).bs (by omega) HY.out HQ'.out HYN.out
      have HDR := hid (below_drew wr)
      clear hkn hvn v1 v2 c1 c2 hsay hmem hmay hlt hjD
      go_wp2_with fail
      go_region_held (fun wx => wx.cell? ⟨u, 0, none⟩ = some (.map (some ub)) ∧ wx.cell? ⟨bl, off + j * 3, none⟩ = some (.slice ka kn' kc)) (go_keep) (first | (go_at_call 29; refine (kg _ (by exact HDR.out)).mono ?_; rintro e w16 ⟨ag, cg, rfl, vg, g16, bb⟩; have HVG := hid vg; have HG := hid g16; have HBB : Hid (Below wr.heap.size wr w16) := HDR.out.trans bb; have y0 := (HBB.out.cell (World.block_lt_of_cell? _ _ c0)).trans c0; have y1 := (HBB.out.cell (World.block_lt_of_cell? _ _ ct)).trans ct; clear vg g16 bb))
      have y2 := (HBB.out.cell (World.block_lt_of_cell? _ _ HC1.out)).trans HC1.out
      have HC2 := hid ((HBB.out.cell (World.block_lt_of_cell? _ _ HC2.out)).trans HC2.out)
      have HV1 := hid (HV1.out.lift HBB.out (fun _ _ h => h))
      have HV2 := hid (HV2.out.lift HBB.out (fun _ _ h => h))
      have HB1 := hid (bel_bel HB.out HB.out.size HBB.out)
      clear kg y1 HT HDR HBB c0 ct HC1
      go_wp2_with fail
      refine (s_sameB cg vc r HG.out HVG.out.bs HV2.out.bs (by omega) (by omega) HR.out).mono ?_
      rintro e w17 ⟨rfl, g17, bb⟩
      have HG := hid g17
      have y0 := (bb.cell (World.block_lt_of_cell? _ _ y0)).trans y0
      have HC2 := hid ((bb.cell (World.block_lt_of_cell? _ _ HC2.out)).trans HC2.out)
      have HV1 := hid (HV1.out.lift bb (fun _ _ h => h))
      have HB1 := hid (bel_bel HB1.out HB1.out.size bb)
      clear g17 bb y2 HVG HV2
      by_cases hj0 : j = 0
      · subst hj0
        go_wp2_with fail
        go_region
        have HB2 := hid (bel_bel HB1.out HB1.out.size (below_drew w17))
        have c2 := ((below_drew w17).cell (World.block_lt_of_cell? _ _ HC2.out)).trans HC2.out
        clear y0
        have y2 := c2
        clear c2
        cases g with
        | true =>
          obtain rfl : q' = true := HS1.out rfl
          go_wp2_with fail
          go_roundw
          case rel => exact ⟨1, by omega, by go_num, HB2⟩
          case measure => simp [intOf]; omega
        | false =>
          cases q' with
          | false =>
            go_wp2_with fail
            go_roundw
            case rel => exact ⟨1, by omega, by go_num, HB2⟩
            case measure => simp [intOf]; omega
          | true =>
            obtain rfl : r = false := HS2.out rfl rfl
            go_wp2_with fail
            go_roundw
            case rel => exact ⟨1, by omega, by go_num, HB2⟩
            case measure => simp [intOf]; omega
      · obtain ⟨i, rfl⟩ : ∃ i, j = i + 1 := ⟨j - 1, by omega⟩
        have hgt : ((i + 1 : Nat) : Int) > 0 := by omega
        have hz0 : ((i : Int) + 1 == 0) = false := beq_eq_false_iff_ne.2 (by omega)
        have hm2 : (i : Int) + 1 - 1 = i := by omega
        have hin : ¬ (i : Int) < 0 := by omega
        have hwr : IntKind.i64.wrap (i : Int) = i := by simp [IntKind.wrap, IntKind.bits, IntKind.signed]; omega
        have hilt : i < z := by omega
        have hiI : (i : Int) < z := by omega
        obtain ⟨bl', off', kb, lc, vb, uc, ln, un, eb, hln, hun, z0, z1, z2, p1, p2⟩ := (SD'.out.below HB1.out).at hilt
        obtain ⟨rfl, rfl⟩ : bl = bl' ∧ off = off' := by simpa using eb
        have hmem := chg_at (W := A) (I := I) (show i < (chg A I).length by rw [HD.out, HZ.out]; exact hilt)
        have hmay := (List.all_eq_true.1 (chg_may OA.out OI.out)) _ hmem
        have hmk' := mayS_key hmay
        have HLX := hid (chg_lx (I := I) OA.out.srt (k := i) (by rw [HD.out, HZ.out]; omega))
        rw [HD.out, HS.out] at HLX
        rw [HD.out, ← hln] at hmk'
        have kle := fun wx (hb : Below w17.heap.size w17 wx) => s_less (w0 := w) lc kc true (bel_bel HG.out HG.out.size hb) (p1.bs.below hb) ((HV1.out.lift hb (fun _ _ h => h)).bs) (by omega) (by omega) (by omega) (by omega) HLX.out
        have HDR := hid (below_drew w17)
        clear hln hun z1 z2 p1 p2 hmem hmay eb
        go_wp2_with fail
        go_region_held (fun wx => wx.cell? ⟨bl, off + i * 3, none⟩ = some (.slice kb ln lc) ∧ wx.cell? ⟨bl, off + (i + 1) * 3, none⟩ = some (.slice ka kn' kc)) (go_keep) (first | (go_at_call 30; refine (kle _ (by exact HDR.out)).mono ?_; rintro e w18 ⟨rfl, g18, bb⟩; have HBB : Hid (Below w17.heap.size w17 w18) := HDR.out.trans bb; have q0 := (HBB.out.cell (World.block_lt_of_cell? _ _ y0)).trans y0; have q1 := (HBB.out.cell (World.block_lt_of_cell? _ _ z0)).trans z0; clear g18 bb))
        have HB2 := hid (bel_bel HB1.out HB1.out.size HBB.out)
        have c2 := (HBB.out.cell (World.block_lt_of_cell? _ _ HC2.out)).trans HC2.out
        clear q0 q1 kle y0 z0
        have y2 := c2
        clear c2
        cases g with
        | true =>
          obtain rfl : q' = true := HS1.out rfl
          go_wp2_with fail
          go_roundw
          case rel => exact ⟨i + 1 + 1, by omega, by go_num, HB2⟩
          case measure => simp [intOf]; omega
        | false =>
          cases q' with
          | false =>
            go_wp2_with fail
            go_roundw
            case rel => exact ⟨i + 1 + 1, by omega, by go_num, HB2⟩
            case measure => simp [intOf]; omega
          | true =>
            obtain rfl : r = false := HS2.out rfl rfl
            go_wp2_with fail
            go_roundw
            case rel => exact ⟨i + 1 + 1, by omega, by go_num, HB2⟩
            case measure => simp [intOf]; omega
    · have hI : ¬ (j : Int) < z := by omega
      have G := hid (bel_bel G.out G.out.size HB.out)
      have O := hid (O.out.below HB.out)
      have T2 := hid (T2.out.below HB.out)
      have S1 := hid (S1.out.below HB.out)
      have S2 := hid (S2.out.below HB.out)
      have SD' := hid (SD'.out.below HB.out)
      have VP := hid (VP.out.lift HB.out (fun _ _ h => h))
      have VB := hid (VB.out.lift HB.out (fun _ _ h => h))
      obtain ⟨wa, HWA⟩ : ∃ wa, Hid (wa = wr) := ⟨_, rfl⟩
      rw [← HWA.out] at G O T2 S1 S2 SD' VP VB ⊢
      have HMD : Hid (allMay D = true) := by rw [← HD.out]; exact chg_may OA.out OI.out
      have HDC : Hid (doAll A D = I) := by rw [← HD.out]; exact doAll_chg OA.out.srt OI.out.srt
      have HMU := hid T2.out.mp.isMap
      clear HWA HB hlt
      go_wp2_with fail
      refine (s_apply sa z sc D G.out HUB.out T2.out SD'.out (by have := LD.out; omega) (by have := KA.out; omega) HMD.out HDC.out).mono ?_
      rintro e wb ⟨rfl, tb', g, gr⟩
      have G := hid g
      have T2 := hid tb'
      have O := hid (O.out.other gr HMU.out HNE.out.2.2.1.symm HNE.out.2.2.2.symm)
      have S1 := hid (S1.out.other gr HMU.out)
      have S2 := hid (S2.out.other gr HMU.out)
      have VP := hid (VP.out.other gr HMU.out)
      have VB := hid (VB.out.other gr HMU.out)
      clear g gr tb' SD' HMU
      go_wp2_with fail
      refine (kn _ _).mono ?_
      rintro e wy ⟨rfl, hw⟩
      rw [hw]
      clear hw wy
      go_wp2_with fail
      refine (s_sameB pc bc true G.out VP.out.bs VB.out.bs (by have := LP.out; omega) (by have := LP.out; omega) (by simp)).mono ?_
      rintro e wc ⟨rfl, g, bb⟩
      have G := hid g
      have O := hid (O.out.below bb)
      have T2 := hid (T2.out.below bb)
      have S1 := hid ((S1.out.below bb).wide (V' := fun x => x < wc.heap.size) (fun x hx _ => hx))
      have S2 := hid ((S2.out.below bb).wide (V' := fun x => x < wc.heap.size) (fun x hx _ => hx))
      clear g bb VP VB
      have HA0 : Hid (Below wc.heap.size wc (wc.alloc (.cells #[] 37))) := (Below.refl _ wc).alloc (Nat.le_refl _) _
      have HOE : Hid ((wc.alloc (.cells #[] 37)).ownsRow wc.heap.size 37 3 (.slice (some ⟨wc.heap.size, 0, none⟩) 0 0) 0 (sds [])) := own_empty (Nat.le_refl _)
      have S1' := hid (S1.out.below HA0.out)
      go_wp2_with (at_builtin; refine wpList_appSets rfl _ _ rfl wc.heap.size wc.heap.size 0 [] rfl (by exact HOE.out) b1 m1 d1 L1 rfl (by exact S1'.out) (by simp) (by have := N1.out; omega) (by exact HA0.out.size) ?_; intro g1 cap1 wd es1 he1 hv1 ho1 hg1; have HE1 := hid he1; have HO1 : Hid (wd.ownsRow wc.heap.size 37 3 (.slice (some ⟨g1, 0, none⟩) es1.length cap1) es1.length (sds es1)) := ho1; have HBD : Hid (Below wc.heap.size wc wd) := HA0.out.grown hg1 HA0.out.size (fun x e => by obtain rfl := Option.some.inj e; exact Nat.le_refl _); have HVE1 : Hid (∀ d ∈ es1, SV wd (fun x => x < wc.heap.size) d) := fun d hd => (hv1 d hd).step fun x hx hx' _ => hg1.block x hx (fun e => by obtain rfl := Option.some.inj e; exact Nat.lt_irrefl _ hx'); have S2' := hid (S2.out.below HBD.out); clear he1 ho1 hv1 hg1 HOE S1'; refine Hid.out ?_)
      refine hid ?_
      go_wp2_with (at_builtin; refine wpList_appSets rfl _ _ rfl wc.heap.size g1 cap1 es1 rfl (by exact HO1.out) b2 m2 d2 L2 rfl (by exact S2'.out) (by have h := congrArg List.length HE1.out; rw [List.length_map, Hm1.out] at h; have := N1.out; omega) (by have := N2.out; omega) (by exact HBD.out.size) ?_; intro g2 cap2 we es2 he2 hv2 ho2 hg2; have HE2 := hid he2; have HO2 := hid ho2; have hgg1 : ∀ x, some x = (some g1 : Option Nat) → wc.heap.size ≤ x := (fun x e => (HO1.out.lt x e.symm).1); have HBE : Hid (Below wc.heap.size wc we) := HBD.out.grown hg2 HBD.out.size (fun x e => hgg1 x e.symm); have HVE : Hid (∀ d ∈ es1 ++ es2, SV we (fun x => x < wc.heap.size) d) := (fun d hd => by have hd' : SV wd (fun x => x < wc.heap.size) d := (by rcases List.mem_append.1 hd with h | h; exact HVE1.out d h; exact hv2 d h); exact hd'.step fun x hx hx' _ => hg2.block x hx (fun e => Nat.lt_irrefl _ (Nat.lt_of_lt_of_le hx' (hgg1 x e)))); clear he2 ho2 hv2 hg2; refine Hid.out ?_)
      refine hid ?_
      obtain ⟨eb, ecap, hev, hesl, _, _, _⟩ := Sl.ofOwn (V := fun _ => True) HO2.out (fun d hd => (HVE.out d hd).wide (fun x _ _ => trivial)) (fun x hx => trivial)
      have hln : (es1 ++ es2).length = m1 + m2 := by
        have h1 := congrArg List.length HE1.out
        have h2 := congrArg List.length HE2.out
        rw [List.length_map, Hm1.out] at h1
        rw [List.length_map, Hm2.out] at h2
        rw [List.length_append]
        omega
      rw [List.map_append, HE1.out, HE2.out, hln] at hesl
      obtain ⟨m, Hm⟩ : ∃ m, Hid (m1 + m2 = m) := ⟨_, rfl⟩
      have hm2 : m ≤ 2000 := by have := Hm.out; have := N1.out; have := N2.out; omega
      rw [Hm.out] at hesl hln
      rw [hln] at hev
      have hlnS : es1.length + es2.length = m := by rw [← List.length_append]; exact hln
      rw [hlnS]
      obtain ⟨hev1, hev2⟩ : eb = some ⟨g2, 0, none⟩ ∧ ecap = cap2 := by simp at hev; exact ⟨hev.1.symm, hev.2.symm⟩
      rw [hev1] at hesl
      have SE := hid hesl
      have G := hid (bel_bel G.out G.out.size HBE.out)
      have O := hid (O.out.below HBE.out)
      have T2 := hid (T2.out.below HBE.out)
      have HME : Hid (allMay (L1 ++ L2) = true) := by
        show allMay _ = true
        unfold allMay
        rw [List.all_append]
        simp only [Bool.and_eq_true]
        exact ⟨M1.out, M2.out⟩
      have HDE : Hid (doAll [] (L1 ++ L2) = I) := by show _ = _; rw [doAll_app, HA.out, HI.out]
      have HLE : Hid ((L1 ++ L2).length = m) := hesl.len
      clear hev hev1 hev2 hesl hln hlnS HO1 HO2 HE1 HE2 HVE1 HVE HBD HBE S1 S2 S2' HA0 hgg1
      go_wp2_with fail
      refine (s_built _ (some ⟨g2, 0, none⟩) m cap2 (L1 ++ L2) G.out SE.out (by omega) HME.out).mono ?_
      rintro e wf ⟨x, xb, rfl, t1, h1, h2, g, bb⟩
      rw [HDE.out] at t1
      have G := hid g
      have T3 := hid t1
      have T2 := hid (T2.out.below bb)
      have O := hid (O.out.below bb)
      have SE := hid (SE.out.below bb)
      clear g bb t1 h1 h2
      obtain ⟨R, HR⟩ : ∃ P, Hid (enc (asS I) = P) := ⟨_, rfl⟩
      obtain ⟨r, Hr⟩ : ∃ p, Hid (R.length = p) := ⟨_, rfl⟩
      have LR : Hid (r ≤ 1048000) := by have h := enc_len_of _ (asS_may OI.out); rw [HR.out, asS_len, Hr.out] at h; have := KI.out; show _ ≤ _; omega
      go_wp2_with fail
      refine (s_bytes R r G.out T2.out (by have := KI.out; omega) HR.out Hr.out).mono ?_
      rintro e wg ⟨xa, xc, rfl, vx, g, bb⟩
      have G := hid g
      have T3 := hid (T3.out.below bb)
      have O := hid (O.out.below bb)
      have SE := hid (SE.out.below bb)
      have VX := hid vx
      clear g bb vx T2
      go_wp2_with fail
      refine (s_bytes R r G.out T3.out (by have := KI.out; omega) HR.out Hr.out).mono ?_
      rintro e wh ⟨ya, yc, rfl, vy, g, bb⟩
      have G := hid g
      have T3 := hid (T3.out.below bb)
      have O := hid (O.out.below bb)
      have SE := hid (SE.out.below bb)
      have VX := hid (VX.out.lift bb (fun _ _ h => h))
      have VY := hid vy
      clear g bb vy
      go_wp2_with fail
      go_loopw [29] (fun i wr => ∃ j : Nat, j ≤ m ∧ i = .int .i64 j ∧ Hid (Below wh.heap.size wh wr)) (fun i _ => m - (intOf i).toNat)
      case atStart => exact ⟨0, Nat.zero_le _, rfl, Below.refl _ _⟩
      case round =>
        obtain ⟨j, hj, rfl, HB⟩ := hrel
        by_cases hlt : j < m
        · have hI : (j : Int) < m := by omega
          have hjn : ¬ (j : Int) < 0 := by omega
          obtain ⟨bl, off, ka, kc, va, vc, kn', vn, eb, hkn, hvn, c0, c1, c2, v1, v2⟩ := (SE.out.below HB.out).at hlt
          obtain ⟨hbl, hoff⟩ : bl = g2 ∧ off = 0 := by simp at eb; exact ⟨eb.1.symm, eb.2.symm⟩
          subst hoff
          rw [hbl, Nat.zero_add] at c0
          have hmk := (mayS_key (may_at1 HME.out (show j < (L1 ++ L2).length by rw [HLE.out]; exact hlt))).2
          rw [← hkn] at hmk
          obtain ⟨K, HK⟩ : ∃ K, Hid (((L1 ++ L2).getD j default).k = K) := ⟨_, rfl⟩
          rw [HK.out] at v1
          obtain ⟨q', HQ'⟩ : ∃ q, Hid ((look I K).isSome = q) := ⟨_, rfl⟩
          obtain ⟨Y, HY⟩ : ∃ Y, Hid ((look I K).getD [] = Y) := ⟨_, rfl⟩
          obtain ⟨yn, HYN⟩ : ∃ yn, Hid (Y.length = yn) := ⟨_, rfl⟩
          have hyn : yn ≤ 480 := by
            rw [← HYN.out, ← HY.out]
            cases h : look I K with
            | none => simp
            | some v => exact (OI.out.val _ (look_mem h)).2
          have HG := hid (bel_bel G.out G.out.size HB.out)
          have HO := hid (O.out.below HB.out)
          have HT := hid (T3.out.below HB.out)
          have ct := HO.out.c0
          have HV1 := hid v1
          have kg := fun wx (hb : Below wr.heap.size wr wx) => s_get (w0 := w) ka kn' kc yn K Y q' (bel_bel HG.out HG.out.size hb) (HO.out.below hb).is OI.out (HV1.out.lift hb (fun _ _ h => h)).bs (by omega) HY.out HQ'.out HYN.out
          have HDR := hid (below_drew wr)
          clear hkn hvn v1 v2 c1 c2 hlt eb hbl
          go_wp2_with fail
          go_region_held (fun wx => wx.cell? ⟨o, 0, none⟩ = some (.map (some ob)) ∧ wx.cell? ⟨g2, j * 3, none⟩ = some (.slice ka kn' kc)) (go_keep) (first | (go_at_call 29; refine (kg _ (by exact HDR.out)).mono ?_; rintro e wi ⟨ag, cg, rfl, vg, g16, bb⟩; have HVG := hid vg; have HG := hid g16; have HBB : Hid (Below wr.heap.size wr wi) := HDR.out.trans bb; have y0 := (HBB.out.cell (World.block_lt_of_cell? _ _ c0)).trans c0; have y1 := (HBB.out.cell (World.block_lt_of_cell? _ _ ct)).trans ct; clear vg g16 bb))
          have HT := hid (HT.out.below HBB.out)
          have ct2 := HT.out.tbl.cell
          have HV1 := hid (HV1.out.lift HBB.out (fun _ _ h => h))
          have HB1 := hid (bel_bel HB.out HB.out.size HBB.out)
          have kg2 := fun wx (hb : Below wi.heap.size wi wx) => s_get (w0 := w) ka kn' kc yn K Y q' (bel_bel HG.out HG.out.size hb) (HT.out.below hb).mp OI.out (HV1.out.lift hb (fun _ _ h => h)).bs (by omega) HY.out HQ'.out HYN.out
          have HDR2 := hid (below_drew wi)
          clear kg y1 c0 ct HDR HBB
          go_wp2_with fail
          go_region_held (fun wx => wx.cell? ⟨x, 0, none⟩ = some (.map (some xb)) ∧ wx.cell? ⟨g2, j * 3, none⟩ = some (.slice ka kn' kc)) (go_keep) (first | (go_at_call 29; refine (kg2 _ (by exact HDR2.out)).mono ?_; rintro e wj ⟨ah, ch, rfl, vh, g16, bb⟩; have HVH := hid vh; have HG := hid g16; have HBB2 : Hid (Below wi.heap.size wi wj) := HDR2.out.trans bb; have z0 := (HBB2.out.cell (World.block_lt_of_cell? _ _ y0)).trans y0; have z1 := (HBB2.out.cell (World.block_lt_of_cell? _ _ ct2)).trans ct2; clear vh g16 bb))
          have HVG := hid (HVG.out.lift HBB2.out (fun _ _ h => h))
          have HB1 := hid (bel_bel HB1.out HB1.out.size HBB2.out)
          clear kg2 y0 ct2 z0 z1 HDR2 HBB2
          go_wp2_with fail
          refine (s_sameB cg ch true HG.out HVG.out.bs HVH.out.bs (by omega) (by omega) (by simp)).mono ?_
          rintro e wk ⟨rfl, g17, bb⟩
          have HB1 := hid (bel_bel HB1.out HB1.out.size bb)
          clear g17 bb HVG HVH
          go_wp2_with fail
          go_roundw
          case rel => exact ⟨j + 1, by omega, by go_num, HB1⟩
          case measure => simp [intOf]; omega
        · have hI : ¬ (j : Int) < m := by omega
          have G := hid (bel_bel G.out G.out.size HB.out)
          have VX := hid (VX.out.lift HB.out (fun _ _ h => h))
          have VY := hid (VY.out.lift HB.out (fun _ _ h => h))
          clear HB hlt SE T3 O
          go_wp2_with fail
          refine (s_sameB xc yc true G.out VX.out.bs VY.out.bs (by have := LR.out; omega) (by have := LR.out; omega) (by simp)).mono ?_
          rintro e wk ⟨rfl, g, bb⟩
          have G := hid g
          clear g bb VX VY
          go_wp2_with fail
          go_ret
          exact ⟨rfl, G.out⟩
end Go.Proofs.Ytghehfhkiknjhaa
