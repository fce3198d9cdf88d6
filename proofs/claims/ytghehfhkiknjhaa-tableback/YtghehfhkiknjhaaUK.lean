import Derived.Test.YtghehfhkiknjhaaUJ
namespace Go.Proofs.Ytghehfhkiknjhaa
set_option maxRecDepth 100000
open Go.RowKit Go.Shelf Go.Maps
set_option linter.unusedVariables false

theorem fb_enc {M : Tab} (h : Tok M) : fb (enc (asS M)) = some M := by
  unfold fb
  rw [gs_enc (asS_ok h)]
  simp only
  rw [if_pos (by simp [asS]), asT_asS]
theorem same_enc {M N : Tab} (h : Tok M) (h' : Tok N) : decide (enc (asS M) = enc (asS N)) = sameT M N := by
  unfold sameT
  refine decide_eq_decide.2 ⟨fun e => ?_, fun e => by rw [e]⟩
  have := enc_inj (asS_ok h) (asS_ok h') e
  rw [← asT_asS M, this, asT_asS]
theorem sameT_self (M : Tab) : sameT M M = true := by simp [sameT]
set_option maxHeartbeats 4000000 in
theorem tableBack_ (U1 U2 U3 : Nat → Prop) (a1 a2 a3 : Option Addr) (n1 c1 n2 c2 n3 c3 : Nat) (l1 l2 : List Sx) (zs : List Int) (w : World) (s1 : Sl w U1 a1 n1 l1) (s2 : Sl w U2 a2 n2 l2) (v3 : Vs w U3 a3 n3 c3 zs) (hU1 : ∀ x, U1 x → x < w.heap.size) (hU2 : ∀ x, U2 x → x < w.heap.size) (hn1 : n1 ≤ maxLen) (hn2 : n2 ≤ maxLen) :
    Calls Try.prog 6 #[.slice a1 n1 c1, .slice a2 n2 c2, .slice a3 n3 c3] w fun e w' => e = .returned (.bool true) ∧ Below w.heap.size w w' := by
  have k1 := first_ w
  have kn := fun x wx => num_ x wx
  have S1 := hid s1
  have S2 := hid s2
  have V3 := hid v3
  have HU1 := hid hU1
  have HU2 := hid hU2
  clear s1 s2 hU1 hU2
  by_cases hb : 65536 < n3
  · have hI : (n3 : Int) > 65536 := by omega
    have hx := v3.nc
    have hy := v3.cm
    unfold maxLen at hy
    clear v3
    go_enter Try.func6, Try.ntmps6
    go_wp2_with fail
    refine k1.mono ?_
    rintro e w1 ⟨rfl, g1⟩
    go_wp2_with fail
    go_ret
    exact ⟨rfl, g1⟩
  have hI : ¬ (n3 : Int) > 65536 := by omega
  have hb' : n3 ≤ 65536 := by omega
  clear v3 hb
  obtain ⟨L1, HL1⟩ : ∃ L, Hid (fitL l1 2000 = L) := ⟨_, rfl⟩
  obtain ⟨L2, HL2⟩ : ∃ L, Hid (fitL l2 2000 = L) := ⟨_, rfl⟩
  have M1 : Hid (allMay L1 = true) := by rw [← HL1.out]; exact fitL_may _ _
  have M2 : Hid (allMay L2 = true) := by rw [← HL2.out]; exact fitL_may _ _
  have N1 : Hid (L1.length ≤ 2000) := by rw [← HL1.out]; exact fitL_len _ _
  have N2 : Hid (L2.length ≤ 2000) := by rw [← HL2.out]; exact fitL_len _ _
  go_enter Try.func6, Try.ntmps6
  go_wp2_with fail
  refine k1.mono ?_
  rintro e w1 ⟨rfl, g⟩
  have G := hid g
  have S1 := hid (S1.out.below g)
  have S2 := hid (S2.out.below g)
  have V3 := hid (V3.out.lift g (fun _ _ h => h))
  clear g k1
  go_wp2_with fail
  refine (s_fit U1 a1 n1 c1 2000 l1 G.out S1.out HU1.out hn1 (by omega)).mono ?_
  rintro e w2 ⟨b1, d1, rfl, s1, g, bb⟩
  rw [HL1.out] at s1
  rw [HL1.out]
  obtain ⟨m1, HM1⟩ : ∃ m, Hid (L1.length = m) := ⟨_, rfl⟩
  rw [HM1.out] at s1
  rw [HM1.out]
  have G := hid g
  have S1 := hid s1
  have S2 := hid (S2.out.below bb)
  have V3 := hid (V3.out.lift bb (fun _ _ h => h))
  clear g bb s1
  go_wp2_with fail
  refine (s_built _ b1 m1 d1 L1 G.out S1.out (by have := HM1.out; have := N1.out; omega) M1.out).mono ?_
  rintro e w3 ⟨t, tb, rfl, t1, h1, h2, g, bb⟩
  have G := hid g
  have T := hid t1
  have S2 := hid (S2.out.below bb)
  have V3 := hid (V3.out.lift bb (fun _ _ h => h))
  clear g bb t1 S1 h1 h2
  go_wp2_with fail
  refine (s_fit U2 a2 n2 c2 2000 l2 G.out S2.out HU2.out hn2 (by omega)).mono ?_
  rintro e w4 ⟨b2, d2, rfl, s1, g, bb⟩
  rw [HL2.out] at s1
  rw [HL2.out]
  obtain ⟨m2, HM2⟩ : ∃ m, Hid (L2.length = m) := ⟨_, rfl⟩
  rw [HM2.out] at s1
  rw [HM2.out]
  have G := hid g
  have S1 := hid s1
  have T := hid (T.out.below bb)
  have V3 := hid (V3.out.lift bb (fun _ _ h => h))
  clear g bb s1 S2
  go_wp2_with fail
  refine (s_built _ b2 m2 d2 L2 G.out S1.out (by have := HM2.out; have := N2.out; omega) M2.out).mono ?_
  rintro e w5 ⟨u, ub, rfl, t1, h1, h2, g, bb⟩
  have G := hid g
  have T := hid (T.out.below bb)
  have T2 := hid t1
  have V3 := hid (V3.out.lift bb (fun _ _ h => h))
  have K1 : Hid ((doAll [] L1).length ≤ 2000) := by have h := len_doAll [] List.Pairwise.nil L1; have := N1.out; show _ ≤ _; simp at h; omega
  have K2 : Hid ((doAll [] L2).length ≤ 2000) := by have h := len_doAll [] List.Pairwise.nil L2; have := N2.out; show _ ≤ _; simp at h; omega
  clear g bb t1 h1 h2 M1 M2 N1 N2 HL1 HL2 HM1 HM2 S1 HU1 HU2
  obtain ⟨A, HA⟩ : ∃ A, Hid (doAll [] L1 = A) := ⟨_, rfl⟩
  obtain ⟨B, HB⟩ : ∃ A, Hid (doAll [] L2 = A) := ⟨_, rfl⟩
  rw [HA.out] at T K1
  rw [HB.out] at T2 K2
  clear HA HB
  have OA := hid T.out.tok
  have OB := hid T2.out.tok
  obtain ⟨P, HP⟩ : ∃ P, Hid (enc (asS A) = P) := ⟨_, rfl⟩
  obtain ⟨Q, HQ⟩ : ∃ P, Hid (enc (asS B) = P) := ⟨_, rfl⟩
  obtain ⟨p, Hp⟩ : ∃ p, Hid (P.length = p) := ⟨_, rfl⟩
  obtain ⟨q, Hq⟩ : ∃ p, Hid (Q.length = p) := ⟨_, rfl⟩
  have LP : Hid (p ≤ 1048000) := by have h := enc_len_of _ (asS_may OA.out); rw [HP.out, asS_len, Hp.out] at h; have := K1.out; show _ ≤ _; omega
  have LQ : Hid (q ≤ 1048000) := by have h := enc_len_of _ (asS_may OB.out); rw [HQ.out, asS_len, Hq.out] at h; have := K2.out; show _ ≤ _; omega
  go_wp2_with fail
  refine (s_bytes P p G.out T.out (by have := K1.out; omega) HP.out Hp.out).mono ?_
  rintro e w6 ⟨pa, pc, rfl, v, g, bb⟩
  have G := hid g
  have T := hid (T.out.below bb)
  have T2 := hid (T2.out.below bb)
  have V3 := hid (V3.out.lift bb (fun _ _ h => h))
  have VP := hid v
  clear g bb v
  go_wp2_with fail
  refine (s_bytes Q q G.out T2.out (by have := K2.out; omega) HQ.out Hq.out).mono ?_
  rintro e w7 ⟨qa, qc, rfl, v, g, bb⟩
  have G := hid g
  have T := hid (T.out.below bb)
  have T2 := hid (T2.out.below bb)
  have V3 := hid (V3.out.lift bb (fun _ _ h => h))
  have VP := hid (VP.out.lift bb (fun _ _ h => h))
  have VQ := hid v
  clear g bb v
  go_wp2_with fail
  refine (s_from (M := A) G.out VP.out (by have := LP.out; omega) (by rw [← HP.out]; exact fb_enc OA.out)).mono ?_
  rintro e w8 ⟨tw, twb, rfl, t1, h1, g, bb⟩
  have G := hid g
  have T := hid (T.out.below bb)
  have T2 := hid (T2.out.below bb)
  have T3 := hid t1
  have V3 := hid (V3.out.lift bb (fun _ _ h => h))
  have VP := hid (VP.out.lift bb (fun _ _ h => h))
  have VQ := hid (VQ.out.lift bb (fun _ _ h => h))
  clear g bb t1 h1
  go_wp2_with fail
  refine (kn _ _).mono ?_
  rintro e wy ⟨rfl, hw⟩
  rw [hw]
  clear hw wy
  obtain ⟨x, HX⟩ : ∃ x, Hid (A.length = x) := ⟨_, rfl⟩
  obtain ⟨y, HY⟩ : ∃ x, Hid (B.length = x) := ⟨_, rfl⟩
  have kl := fun wx (h : Tw wx t tb (Up w) A) => len_ t tb _ _ wx h
  have kl2 := fun wx (h : Tw wx u ub (Up w) B) => len_ u ub _ _ wx h
  have kl3 := fun wx (h : Tw wx tw twb (Up w) A) => len_ tw twb _ _ wx h
  rw [HX.out] at kl kl3 K1
  rw [HY.out] at kl2 K2
  go_wp2_with fail
  refine (kl _ T.out).mono ?_
  rintro e wy ⟨rfl, hw⟩
  rw [hw]
  clear hw wy
  go_wp2_with fail
  refine (s_rows x x G.out T.out HX.out (by have := K1.out; omega) (by omega)).mono ?_
  rintro e w9 ⟨ra, rc, rfl, r, g, bb⟩
  have G := hid g
  have RA := hid r
  have T2 := hid (T2.out.below bb)
  have T3 := hid (T3.out.below bb)
  have V3 := hid (V3.out.lift bb (fun _ _ h => h))
  have VP := hid (VP.out.lift bb (fun _ _ h => h))
  have VQ := hid (VQ.out.lift bb (fun _ _ h => h))
  clear g bb r T kl
  go_wp2_with fail
  refine (kl3 _ T3.out).mono ?_
  rintro e wy ⟨rfl, hw⟩
  rw [hw]
  clear hw wy
  go_wp2_with fail
  refine (s_rows x x G.out T3.out HX.out (by have := K1.out; omega) (by omega)).mono ?_
  rintro e w10 ⟨ba, bc, rfl, r, g, bb⟩
  have G := hid g
  have RA := hid (RA.out.below bb)
  have RB := hid r
  have T2 := hid (T2.out.below bb)
  have V3 := hid (V3.out.lift bb (fun _ _ h => h))
  have VP := hid (VP.out.lift bb (fun _ _ h => h))
  have VQ := hid (VQ.out.lift bb (fun _ _ h => h))
  clear g bb r T3 kl3
  go_wp2_with fail
  refine (kl2 _ T2.out).mono ?_
  rintro e wy ⟨rfl, hw⟩
  rw [hw]
  clear hw wy
  go_wp2_with fail
  refine (s_rows y y G.out T2.out HY.out (by have := K2.out; omega) (by omega)).mono ?_
  rintro e w11 ⟨oa, oc, rfl, r, g, bb⟩
  have G := hid g
  have RA := hid (RA.out.below bb)
  have RB := hid (RB.out.below bb)
  have RO := hid r
  have V3 := hid (V3.out.lift bb (fun _ _ h => h))
  have VP := hid (VP.out.lift bb (fun _ _ h => h))
  have VQ := hid (VQ.out.lift bb (fun _ _ h => h))
  clear g bb r T2 kl2
  go_wp2_with fail
  refine (s_sameRows rc bc true G.out RA.out RB.out (by have := K1.out; omega) (by have := K1.out; omega) (sameT_self _)).mono ?_
  rintro e w12 ⟨rfl, g, bb⟩
  have G := hid g
  have RA := hid (RA.out.below bb)
  have RO := hid (RO.out.below bb)
  have V3 := hid (V3.out.lift bb (fun _ _ h => h))
  have VP := hid (VP.out.lift bb (fun _ _ h => h))
  have VQ := hid (VQ.out.lift bb (fun _ _ h => h))
  clear g bb RB
  obtain ⟨sm, HSM⟩ : ∃ s, Hid (sameT A B = s) := ⟨_, rfl⟩
  have HSE : Hid (decide (P = Q) = sm) := by rw [← HP.out, ← HQ.out]; exact (same_enc OA.out OB.out).trans HSM.out
  go_wp2_with fail
  refine (s_sameB pc qc sm G.out VP.out.bs VQ.out.bs (by have := LP.out; omega) (by have := LQ.out; omega) HSE.out).mono ?_
  rintro e w13 ⟨rfl, g, bb⟩
  have G := hid g
  have RA := hid (RA.out.below bb)
  have RO := hid (RO.out.below bb)
  have V3 := hid (V3.out.lift bb (fun _ _ h => h))
  have VP := hid (VP.out.lift bb (fun _ _ h => h))
  clear g bb VQ HSE
  go_wp2_with fail
  refine (s_sameRows rc oc sm G.out RA.out RO.out (by have := K1.out; omega) (by have := K2.out; omega) HSM.out).mono ?_
  rintro e w14 ⟨rfl, g, bb⟩
  have G := hid g
  have V3 := hid (V3.out.lift bb (fun _ _ h => h))
  have VP := hid (VP.out.lift bb (fun _ _ h => h))
  clear g bb RA RO
  go_wp2_with fail
  have GE : Hid (gs P = some (asS A)) := by rw [← HP.out]; exact gs_enc (asS_ok OA.out)
  refine (s_gets x G.out VP.out (by have := LP.out; omega) GE.out ((asS_len A).trans HX.out)).mono ?_
  rintro e w15 ⟨sa, sc, rfl, s1, g, bb⟩
  have G := hid g
  have S1 := hid s1
  have V3 := hid (V3.out.lift bb (fun _ _ h => h))
  have VP := hid (VP.out.lift bb (fun _ _ h => h))
  clear g bb s1
  go_wp2_with fail
  refine (kn _ _).mono ?_
  rintro e wy ⟨rfl, hw⟩
  rw [hw]
  clear hw wy
  go_wp2_with fail
  refine (s_put sa x sc p (asS A) P G.out S1.out (by have := K1.out; omega) (asS_ok OA.out) HP.out Hp.out).mono ?_
  rintro e w16 ⟨ea, ec, rfl, v, g, bb⟩
  have G := hid g
  have VE := hid v
  have V3 := hid (V3.out.lift bb (fun _ _ h => h))
  have VP := hid (VP.out.lift bb (fun _ _ h => h))
  clear g bb v S1
  go_wp2_with fail
  refine (s_sameB ec pc true G.out VE.out.bs VP.out.bs (by have := LP.out; omega) (by have := LP.out; omega) (by simp)).mono ?_
  rintro e w17 ⟨rfl, g, bb⟩
  have G := hid g
  have V3 := hid (V3.out.lift bb (fun _ _ h => h))
  clear g bb VE VP
  go_wp2_with fail
  refine (kn _ _).mono ?_
  rintro e wy ⟨rfl, hw⟩
  rw [hw]
  clear hw wy
  cases hgs : gs zs with
  | none =>
    go_wp2_with fail
    refine (s_getsNo G.out V3.out (by omega) hgs).mono ?_
    rintro e w18 ⟨rfl, g, bb⟩
    have G := hid g
    clear g bb
    go_wp2_with fail
    refine (kn _ _).mono ?_
    rintro e wy ⟨rfl, hw⟩
    rw [hw]
    clear hw wy
    go_wp2_with fail
    go_ret
    exact ⟨rfl, G.out⟩
  | some l =>
    obtain ⟨hok, henc, _⟩ := gs_some hgs
    have hll := enc_len_le l
    rw [henc, V3.out.bs.1] at hll
    obtain ⟨z, HZ⟩ : ∃ z, Hid (l.length = z) := ⟨_, rfl⟩
    rw [HZ.out] at hll
    have HOK := hid hok
    have HEN := hid henc
    have HGS := hid hgs
    clear hok henc hgs
    go_wp2_with fail
    refine (s_gets z G.out V3.out (by omega) HGS.out HZ.out).mono ?_
    rintro e w18 ⟨sa, sc, rfl, s1, g, bb⟩
    have G := hid g
    have S1 := hid s1
    have V3 := hid (V3.out.lift bb (fun _ _ h => h))
    clear g bb s1
    go_wp2_with fail
    refine (kn _ _).mono ?_
    rintro e wy ⟨rfl, hw⟩
    rw [hw]
    clear hw wy
    go_wp2_with fail
    refine (s_put sa z sc n3 l zs G.out S1.out (by omega) HOK.out HEN.out V3.out.bs.1).mono ?_
    rintro e w19 ⟨ea, ec, rfl, v, g, bb⟩
    have G := hid g
    have VE := hid v
    have V3 := hid (V3.out.lift bb (fun _ _ h => h))
    clear g bb v S1
    go_wp2_with fail
    refine (s_sameB ec c3 true G.out VE.out.bs V3.out.bs (by omega) (by omega) (by simp)).mono ?_
    rintro e w20 ⟨rfl, g, bb⟩
    have G := hid g
    clear g bb VE V3
    go_wp2_with fail
    refine (kn _ _).mono ?_
    rintro e wy ⟨rfl, hw⟩
    rw [hw]
    clear hw wy
    go_wp2_with fail
    go_ret
    exact ⟨rfl, G.out⟩
end Go.Proofs.Ytghehfhkiknjhaa
