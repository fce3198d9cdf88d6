import Derived.Test.YtnmklleoilicdaaWC
import Derived.Laws.EntriesVeiled
namespace Go.Proofs.Ytnmklleoilicdaa
set_option maxRecDepth 100000
open Go.RowKit Go.Shelf Go.Maps
set_option linter.unusedVariables false

theorem Rl.cut {w : World} {V : Nat → Prop} {a : Option Addr} {n k : Nat} {M : Tab} (h : Rl w V a n M) (hk : k ≤ n) : Rl w V a k (M.take k) := by
  refine ⟨by rw [List.length_take, h.len]; omega, ?_⟩
  rcases h.cells with h0 | ⟨b, off, e, hb, hc⟩
  · exact .inl (by omega)
  · refine .inr ⟨b, off, e, hb, fun i hi => ?_⟩
    have := hc i (by omega)
    have e : (M.take k).getD i ([], []) = M.getD i ([], []) := by simp [List.getD, hi]
    rw [e]
    exact this
theorem Gd.map {w w' : World} {V : Nat → Prop} {gl b : Nat} {a : Option Addr} {n c : Nat} {M : Tab} (h : Gd w V gl a n c M) (hg : w.grownBy w' (some b)) (hm : ∃ es cl, w.heap[b]? = some (.map es cl)) : Gd w' V gl a n c M := h.step fun x hx _ hx' => hg.block x hx (by
    obtain ⟨es, cl, e⟩ := hm
    intro f
    obtain rfl := Option.some.inj f
    exact hx' es cl e)
theorem Ev.map {W W' : World} {gw gn ga b : Nat} {wa : Option Addr} {n wc gl : Nat} (h : Ev W gw gn ga wa n wc gl) (hg : W.grownBy W' (some b)) (hm : ∃ es cl, W.heap[b]? = some (.map es cl)) : Ev W' gw gn ga wa n wc gl := by
  obtain ⟨es, cl, e⟩ := hm
  have hne : ∀ {g : Nat} {cs : Array Value} {T : TypeId}, W.heap[g]? = some (.cells cs T (0, 0)) → W'.heap[g]? = W.heap[g]? := fun {g cs T} hh => hg.block g (Array.getElem?_eq_some_iff.1 hh).1 (fun f => by obtain rfl := Option.some.inj f; rw [hh] at e; cases e)
  exact ⟨(hne h.w).trans h.w, (hne h.n).trans h.n, (hne h.a).trans h.a⟩
set_option maxHeartbeats 4000000 in
theorem tableWalks_ (U1 U2 : Nat → Prop) (a1 a2 : Option Addr) (n1 c1 n2 c2 : Nat) (l1 l2 : List Sx) (st : Int) (w : World) (s1 : Sl w U1 a1 n1 l1) (s2 : Sl w U2 a2 n2 l2) (hU1 : ∀ x, U1 x → x < w.heap.size) (hU2 : ∀ x, U2 x → x < w.heap.size) (hn1 : n1 ≤ maxLen) (hn2 : n2 ≤ maxLen) (hst : -9223372036854775808 ≤ st ∧ st ≤ 9223372036854775807) :
    Calls Try.prog 5 #[.slice a1 n1 c1, .slice a2 n2 c2, .int .i64 st] w fun e w' => e = .returned (.bool true) ∧ Below w.heap.size w w' := by
  have k1 := first_ w
  have kn := fun x wx => num_ x wx
  have S1 := hid s1
  have S2 := hid s2
  have HU1 := hid hU1
  have HU2 := hid hU2
  clear s1 s2 hU1 hU2
  obtain ⟨L1, HL1⟩ : ∃ L, Hid (fitL l1 60 = L) := ⟨_, rfl⟩
  obtain ⟨L2, HL2⟩ : ∃ L, Hid (fitL l2 60 = L) := ⟨_, rfl⟩
  have M1 : Hid (allMay L1 = true) := by rw [← HL1.out]; exact fitL_may _ _
  have M2 : Hid (allMay L2 = true) := by rw [← HL2.out]; exact fitL_may _ _
  have N1 : Hid (L1.length ≤ 60) := by rw [← HL1.out]; exact fitL_len _ _
  have N2 : Hid (L2.length ≤ 60) := by rw [← HL2.out]; exact fitL_len _ _
  obtain ⟨A, HA⟩ : ∃ A, Hid (doAll [] L1 = A) := ⟨_, rfl⟩
  obtain ⟨n, HX⟩ : ∃ n, Hid (A.length = n) := ⟨_, rfl⟩
  have hn : n ≤ 60 := by have h := len_doAll [] List.Pairwise.nil L1; have := N1.out; rw [HA.out, HX.out] at h; simp at h; omega
  obtain ⟨B, HB⟩ : ∃ B, Hid (doAll A L2 = B) := ⟨_, rfl⟩
  obtain ⟨S, K, hS, hKS⟩ : ∃ (S : Int) (K : Nat), ((decide (st < 1) = true ∧ S = n) ∨ (decide (st < 1) = false ∧ decide ((n : Int) < st) = true ∧ S = n) ∨ (decide (st < 1) = false ∧ decide ((n : Int) < st) = false ∧ S = st)) ∧ (K : Int) = S := by
    by_cases h1 : st < 1
    · exact ⟨n, n, .inl ⟨decide_eq_true h1, rfl⟩, rfl⟩
    · by_cases h2 : st > n
      · exact ⟨n, n, .inr (.inl ⟨decide_eq_false h1, decide_eq_true h2, rfl⟩), rfl⟩
      · exact ⟨st, st.toNat, .inr (.inr ⟨decide_eq_false h1, decide_eq_false h2, rfl⟩), by omega⟩
  have hS0 : n = 0 ∨ (1 ≤ S ∧ S ≤ n) := by
    rcases hS with ⟨_, e⟩ | ⟨_, _, e⟩ | ⟨e1, e2, e⟩
    · omega
    · omega
    · have := of_decide_eq_false e1; have := of_decide_eq_false e2; omega
  have HS0 := hid hS0
  clear hS0
  have HKS := hid hKS
  clear hKS
  go_enter Try.func5, Try.ntmps5
  go_wp2_with fail
  refine k1.mono ?_
  rintro e w1 ⟨rfl, g⟩
  have G := hid g
  have S1 := hid (S1.out.below g)
  have S2 := hid (S2.out.below g)
  clear g k1
  go_wp2_with fail
  refine (s_fit U1 a1 n1 c1 60 l1 G.out S1.out HU1.out hn1 (by omega)).mono ?_
  rintro e w2 ⟨b1, d1, rfl, s1, g, bb⟩
  rw [HL1.out] at s1
  rw [HL1.out]
  obtain ⟨m1, HM1⟩ : ∃ m, Hid (L1.length = m) := ⟨_, rfl⟩
  rw [HM1.out] at s1
  rw [HM1.out]
  have G := hid g
  have S1 := hid s1
  have S2 := hid (S2.out.below bb)
  clear g bb s1
  go_wp2_with fail
  refine (s_built _ b1 m1 d1 L1 G.out S1.out (by have := HM1.out; have := N1.out; omega) M1.out).mono ?_
  rintro e w3 ⟨t, tb, rfl, t1, h1, h2, g, bb⟩
  rw [HA.out] at t1
  have HTB : Hid (w.heap.size ≤ tb) := Nat.le_trans G.out.size h1
  have G := hid g
  have T := hid t1
  have S2 := hid (S2.out.below bb)
  clear g bb t1 S1 h1 h2
  have OA := hid T.out.tok
  have kl := fun wx (h : Tw wx t tb (Up w) A) => len_ t tb _ _ wx h
  rw [HX.out] at kl
  go_wp2_with fail
  refine (kl _ T.out).mono ?_
  rintro e wy ⟨rfl, hw⟩
  rw [hw]
  clear hw wy
  go_wp2_with fail
  refine (rows_ t tb _ A n w3 T.out (by rw [HX.out]; omega) (by rw [HX.out]; omega)).mono ?_
  rintro e w4 ⟨wa, n', wc, hn', rfl, rl4, hwc, hwm, -, bb⟩
  obtain rfl : n = n' := (hn'.trans HX.out).symm
  have G := hid (bel_bel G.out G.out.size bb)
  have T := hid (T.out.below bb)
  have S2 := hid (S2.out.below bb)
  have R := hid rl4
  unfold maxLen at hwm
  clear bb rl4 hn' kl
  have hs4 := G.out.size
  have HW5 : Hid (((w4.alloc (.cells #[.slice wa n wc] 51)).alloc (.cells #[.int .i64 n] 3)).heap[w4.heap.size]? = some (.cells #[.slice wa n wc] 51 (0, 0))) := (Below.heap_alloc _ _ _ (by simp)).trans (heap_alloc_new w4 _)
  have HN5 : Hid (((w4.alloc (.cells #[.slice wa n wc] 51)).alloc (.cells #[.int .i64 n] 3)).heap[w4.heap.size + 1]? = some (.cells #[.int .i64 n] 3 (0, 0))) := by
    have := heap_alloc_new (w4.alloc (.cells #[.slice wa n wc] 51)) (.cells #[.int .i64 n] 3)
    rw [World.size_alloc] at this
    exact this
  have HB5 : Hid (Below w4.heap.size w4 ((w4.alloc (.cells #[.slice wa n wc] 51)).alloc (.cells #[.int .i64 n] 3))) := ((Below.refl _ _).alloc (Nat.le_refl _) _).alloc (by simp) _
  have HZ5 : Hid (((w4.alloc (.cells #[.slice wa n wc] 51)).alloc (.cells #[.int .i64 n] 3)).heap.size = w4.heap.size + 2) := by simp [Hid]
  have cn5 := (one_cell HN5.out).1
  rcases hS with ⟨e1, rfl⟩ | ⟨e1, e2, rfl⟩ | ⟨e1, e2, rfl⟩
  all_goals
    go_wp2_with fail
    clear cn5
    generalize (w4.alloc (.cells #[.slice wa n wc] 51)).alloc (.cells #[.int .i64 n] 3) = w5 at *
    have G := hid (bel_bel G.out hs4 HB5.out)
    have T := hid (T.out.below HB5.out)
    have S2 := hid (S2.out.below HB5.out)
    have R := hid (R.out.below HB5.out)
    clear HB5
    refine (all_ t tb _ A w5 T.out (by rw [HX.out]; omega)).mono ?_
    rintro e w6 ⟨gl, a, n'', c, hn', rfl, gd6, hgl, bb⟩
    obtain rfl : n = n'' := (hn'.trans HX.out).symm
    have G := hid (bel_bel G.out G.out.size bb)
    have T := hid (T.out.below bb)
    have S2 := hid (S2.out.below bb)
    have R := hid (R.out.below bb)
    have GD := hid gd6
    have HW6 := hid ((bb.block _ (by rw [HZ5.out]; omega)).trans HW5.out)
    have HN6 := hid ((bb.block _ (by rw [HZ5.out]; omega)).trans HN5.out)
    have hz6 : w4.heap.size + 2 ≤ w6.heap.size := by have := bb.size; rw [HZ5.out] at this; exact this
    clear bb gd6 hgl hn' HW5 HN5 HZ5
    have HB7 : Hid (Below w6.heap.size w6 (w6.alloc (.cells #[allF gl] 62))) := (Below.refl _ _).alloc (Nat.le_refl _) _
    have HEV : Hid (Ev (w6.alloc (.cells #[allF gl] 62)) w4.heap.size (w4.heap.size + 1) w6.heap.size wa n wc gl) := ⟨(HB7.out.block _ (by omega)).trans HW6.out, (HB7.out.block _ (by omega)).trans HN6.out, heap_alloc_new w6 _⟩
    have ca7 := HEV.out.ca
    have hq := fun wx => run_eql_func13 wx gl
    unfold allF at ca7
    unfold allF
    go_wp2_with fail
    clear ca7
    have G := hid (bel_bel G.out G.out.size HB7.out)
    have T := hid (T.out.below HB7.out)
    have S2 := hid (S2.out.below HB7.out)
    have R := hid (R.out.below HB7.out)
    have GD := hid (GD.out.below HB7.out)
    have hEVc := HEV.out
    generalize hw7 : w6.alloc (.cells #[allF gl] 62) = w7 at *
    unfold allF at hw7
    rw [hw7]
    clear hw7 hEVc
    refine (s_fit U2 a2 n2 c2 60 l2 G.out S2.out HU2.out hn2 (by omega)).mono ?_
    rintro e w8 ⟨b2, d2, rfl, s1, g, bb⟩
    rw [HL2.out] at s1
    rw [HL2.out]
    obtain ⟨m2, HM2⟩ : ∃ m, Hid (L2.length = m) := ⟨_, rfl⟩
    rw [HM2.out] at s1
    rw [HM2.out]
    have G := hid g
    have S1 := hid s1
    have T := hid (T.out.below bb)
    have R := hid (R.out.below bb)
    have GD := hid (GD.out.below bb)
    have HEV := hid (HEV.out.below bb)
    clear g bb s1 S2
    go_wp2_with fail
    refine (s_apply (M' := B) b2 m2 d2 L2 G.out HTB.out T.out S1.out (by have := HM2.out; have := N2.out; omega) (by rw [HX.out]; omega) M2.out HB.out).mono ?_
    rintro e w9 ⟨rfl, t9, g, gb⟩
    have HMP := hid T.out.mp.isMap
    have G := hid g
    have T := hid t9
    have R := hid (R.out.map gb HMP.out)
    have GD := hid (GD.out.map gb HMP.out)
    have HEV := hid (HEV.out.map gb HMP.out)
    clear g gb t9 S1 HMP
    go_wp2_with fail
    refine (kn _ _).mono ?_
    rintro e wy ⟨rfl, hw⟩
    rw [hw]
    clear hw wy
    obtain ⟨P, HP⟩ : ∃ P, Hid (enc (asS B) = P) := ⟨_, rfl⟩
    obtain ⟨p, Hp⟩ : ∃ p, Hid (P.length = p) := ⟨_, rfl⟩
    have HBL : Hid (B.length ≤ 1000) := by have h := len_doAll A OA.out.srt L2; rw [HB.out, HX.out] at h; have := N2.out; show _ ≤ _; omega
    have LP : Hid (p ≤ 1048000) := by have h := enc_len_of _ (asS_may T.out.tok); rw [HP.out, asS_len, Hp.out] at h; have := HBL.out; show _ ≤ _; omega
    go_wp2_with fail
    refine (s_bytes P p G.out T.out (by have := HBL.out; omega) HP.out Hp.out).mono ?_
    rintro e wA ⟨pa, pc, rfl, v, g, bb⟩
    have G := hid g
    have T := hid (T.out.below bb)
    have R := hid (R.out.below bb)
    have GD := hid (GD.out.below bb)
    have HEV := hid (HEV.out.below bb)
    have VP := hid v
    clear g bb v
    go_wp2_with fail
    have HFL : Hid (A.take n = A) := List.take_of_length_le (by rw [HX.out]; exact Nat.le_refl _)
    rw [← HKS.out]
    go_loopw [15] (fun i wr => ∃ k : Nat, k ≤ 3 ∧ i = .int .i64 k ∧ Hid (Below wA.heap.size wA wr)) (fun i _ => 3 - (intOf i).toNat)
    case atStart => exact ⟨0, by omega, rfl, Below.refl _ _⟩
    case round =>
      obtain ⟨k, hk, rfl, HBR⟩ := hrel
      have G := hid (bel_bel G.out G.out.size HBR.out)
      have R := hid (R.out.below HBR.out)
      have GD := hid (GD.out.below HBR.out)
      have HEV := hid (HEV.out.below HBR.out)
      by_cases hlt : k < 3
      · have hI : (k : Int) < 3 := by omega
        have ca := HEV.out.ca
        have cn := HEV.out.cn
        unfold allF at ca
        have kw := walked_ gl a n c _ A ((n : Int) + 1) n wr GD.out OA.out HX.out.symm (by omega) (by omega) (.inl ⟨by omega, rfl⟩)
        unfold allF at kw
        go_wp2_with fail
        clear ca cn
        refine kw.mono ?_
        rintro e x1 ⟨xa, xc, rfl, r2, bb⟩
        rw [HFL.out] at r2
        have HB1 := hid (bel_bel HBR.out HBR.out.size bb)
        have G := hid (bel_bel G.out G.out.size bb)
        have R := hid (R.out.below bb)
        have GD := hid (GD.out.below bb)
        have HEV := hid (HEV.out.below bb)
        have R2 := hid r2
        clear bb r2 kw HBR
        have cw := HEV.out.cw
        go_wp2_with fail
        clear cw
        refine (s_sameRows (w0 := w) xc wc true G.out R2.out R.out (by omega) (by omega) (sameT_self' _)).mono ?_
        rintro e x2 ⟨rfl, g, bb⟩
        have HB2 := hid (bel_bel HB1.out HB1.out.size bb)
        have G := hid g
        have R := hid (R.out.below bb)
        have GD := hid (GD.out.below bb)
        have HEV := hid (HEV.out.below bb)
        clear g bb R2 HB1
        have cn := HEV.out.cn
        by_cases hn0 : n = 0
        · have hI0 : decide ((n : Int) > 0) = false := decide_eq_false (by omega)
          have hI2 : decide (0 < n) = false := decide_eq_false (by omega)
          clear hn0
          go_wp2_with fail
          go_roundw
          case rel => exact ⟨k + 1, by omega, by go_num, HB2⟩
          case measure => simp [intOf]; omega
        · have hI0 : (n : Int) > 0 := by omega
          have hI1 : 0 < n := by omega
          have hI2 : decide (0 < n) = true := decide_eq_true hI1
          have hK1 : 1 ≤ K ∧ K ≤ n := by have := HKS.out; have := HS0.out; omega
          have HK1 := hid hK1
          have ca := HEV.out.ca
          unfold allF at ca
          have kw := walked_ gl a n c _ A (K : Int) K x2 GD.out OA.out HX.out.symm (by omega) (by omega) (.inr ⟨by omega, by omega, rfl⟩)
          unfold allF at kw
          go_wp2_with fail
          clear ca cn
          refine kw.mono ?_
          rintro e x3 ⟨ya, yc, rfl, r2, bb⟩
          have HB3 := hid (bel_bel HB2.out HB2.out.size bb)
          have G := hid (bel_bel G.out G.out.size bb)
          have R := hid (R.out.below bb)
          have HEV := hid (HEV.out.below bb)
          have R2 := hid r2
          clear bb r2 kw HB2
          obtain ⟨wb, wo, HWA⟩ : ∃ wb wo, Hid (wa = some ⟨wb, wo, none⟩) := by
            rcases R.out.cells with h0 | ⟨b, o, e, _⟩
            · omega
            · exact ⟨b, o, e⟩
          have HCW := hid HEV.out.cw
          have HRK := hid (R.out.cut (k := K) (by omega))
          rw [HWA.out] at HCW HRK
          have cw := HCW.out
          have j1 : (0 : Int) ≤ (K : Int) := by omega
          have j2 : (K : Int) ≤ wc := by omega
          have j3 : ¬ wc = 0 := by omega
          go_wp2_with fail
          clear cw
          refine (s_sameRows (w0 := w) yc wc true G.out R2.out HRK.out (by omega) (by omega) (sameT_self' _)).mono ?_
          rintro e x4 ⟨rfl, g, bb⟩
          have HB4 := hid (bel_bel HB3.out HB3.out.size bb)
          clear g bb R2 HB3 HCW HRK
          go_wp2_with fail
          go_roundw
          case rel => exact ⟨k + 1, by omega, by go_num, HB4⟩
          case measure => simp [intOf]; omega
      · have hI : ¬ (k : Int) < 3 := by omega
        have T := hid (T.out.below HBR.out)
        have VP := hid (VP.out.lift HBR.out (fun _ _ h => h))
        clear hlt hk HBR
        obtain ⟨wB, HWE⟩ : ∃ x, x = wr := ⟨_, rfl⟩
        rw [← HWE] at G R GD HEV T VP ⊢
        clear HWE
        have HBC : Hid (Below wB.heap.size wB ((wB.alloc (.cells #[.bool true] 4)).alloc (.cells #[.int .i64 0] 3))) := ((Below.refl _ _).alloc (Nat.le_refl _) _).alloc (by simp) _
        have HIC : Hid (((wB.alloc (.cells #[.bool true] 4)).alloc (.cells #[.int .i64 0] 3)).heap[wB.heap.size]? = some (.cells #[.bool true] 4 (0, 0))) := (Below.heap_alloc _ _ _ (by simp)).trans (heap_alloc_new wB _)
        have HCC : Hid (((wB.alloc (.cells #[.bool true] 4)).alloc (.cells #[.int .i64 0] 3)).heap[wB.heap.size + 1]? = some (.cells #[.int .i64 0] 3 (0, 0))) := by
          have := heap_alloc_new (wB.alloc (.cells #[.bool true] 4)) (.cells #[.int .i64 0] 3)
          rw [World.size_alloc] at this
          exact this
        obtain ⟨I, HI⟩ : ∃ I : Nat → World → Prop, Hid (I = fun (j : Nat) W => Below wB.heap.size wB W ∧ W.heap[wB.heap.size + 1]? = some (.cells #[.int .i64 (j : Int)] 3 (0, 0)) ∧ W.heap[wB.heap.size]? = some (.cells #[.bool true] 4 (0, 0))) := ⟨_, rfl⟩
        have H0 : Hid (I 0 ((wB.alloc (.cells #[.bool true] 4)).alloc (.cells #[.int .i64 0] 3))) := by rw [HI.out]; exact ⟨HBC.out, HCC.out, HIC.out⟩
        have HY : Hid (Yld 29 #[.pointer (some ⟨wB.heap.size + 1, 0, none⟩), .pointer (some ⟨w6.heap.size, 0, none⟩), .pointer (some ⟨w4.heap.size + 1, 0, none⟩), .pointer (some ⟨wB.heap.size, 0, none⟩), .pointer (some ⟨w4.heap.size, 0, none⟩)] A I (fun _ _ => False)) := by
          rw [HI.out]
          rintro j y1 y2 B1 B2 kv vv hj ⟨hb1, hc1, hi1⟩ hb hBs o1 _ _ o2
          have hl1 := (Array.getElem?_eq_some_iff.1 hc1).1
          have hs12 := hb.size
          have hnew : y1.heap.size < y2.heap.size := by
            have hkl := OA.out.key _ (tab_mem hj)
            obtain ⟨gk, kc, e, yk, h1, h2, _, _⟩ := Yr.ofOwn o1 hkl.1 hkl.2.1
            omega
          refine (walks1_ wB y2 w4.heap.size (w4.heap.size + 1) w6.heap.size gl j wa n wc a c _ _ A kv vv OA.out HX.out.symm (by omega) HEV.out GD.out R.out (bel_bel hb1 hb1.size hb) ((hb.block _ hl1).trans hc1) ((hb.block _ (by omega)).trans hi1) (by rw [← HX.out]; exact hj)).mono ?_
          rintro e W' ⟨rfl, h1, h2, h3, h4⟩
          exact ⟨h4 _ hnew (by omega) (by omega), true, rfl, fun _ => ⟨h1, h2, h3⟩, fun e => by cases e⟩
        have k3 := fun wx (h0 : I 0 wx) => all1_ gl 29 #[.pointer (some ⟨wB.heap.size + 1, 0, none⟩), .pointer (some ⟨w6.heap.size, 0, none⟩), .pointer (some ⟨w4.heap.size + 1, 0, none⟩), .pointer (some ⟨wB.heap.size, 0, none⟩), .pointer (some ⟨w4.heap.size, 0, none⟩)] a n c _ A OA.out I (fun _ _ => False) HX.out.symm (by omega) (by rw [HI.out]; exact fun _ _ h => GD.out.below h.1) (by
          rw [HI.out]
          rintro j X Y ⟨h1, h2, h3⟩ hb
          exact ⟨bel_bel h1 h1.size hb, (hb.block _ (Array.getElem?_eq_some_iff.1 h2).1).trans h2, (hb.block _ (Array.getElem?_eq_some_iff.1 h3).1).trans h3⟩) HY.out (enters_of Try.func29 (by kernel_rfl) rfl) wx h0
        have ca := (HEV.out.below HBC.out).ca
        unfold allF at ca
        clear HY HIC HCC
        go_wp2_with fail
        clear ca
        refine (k3 _ H0.out).mono ?_
        rintro e wD ⟨rfl, h3⟩
        obtain ⟨hbD, hcD, hiD⟩ : Below wB.heap.size wB wD ∧ wD.heap[wB.heap.size + 1]? = some (.cells #[.int .i64 n] 3 (0, 0)) ∧ wD.heap[wB.heap.size]? = some (.cells #[.bool true] 4 (0, 0)) := by
          rw [HI.out] at h3
          rcases h3 with h | ⟨j, _, h⟩
          · exact h
          · exact h.elim
        have G := hid (bel_bel G.out G.out.size hbD)
        have T := hid (T.out.below hbD)
        have HEV := hid (HEV.out.below hbD)
        have VP := hid (VP.out.lift hbD (fun _ _ h => h))
        have HCD := hid hcD
        have HID := hid hiD
        clear k3 h3 hbD hcD hiD H0 HBC HI R GD
        go_wp2_with fail
        refine (s_bytes P p G.out T.out (by have := HBL.out; omega) HP.out Hp.out).mono ?_
        rintro e wE ⟨qa, qc, rfl, v, g, bb⟩
        have G := hid g
        have VQ := hid v
        have VP := hid (VP.out.lift bb (fun _ _ h => h))
        have ci := (one_cell ((bb.block _ (Array.getElem?_eq_some_iff.1 HID.out).1).trans HID.out)).1
        have cc := (one_cell ((bb.block _ (Array.getElem?_eq_some_iff.1 HCD.out).1).trans HCD.out)).1
        have cn := (HEV.out.below bb).cn
        clear g bb v T HEV HCD HID
        go_wp2_with fail
        clear ci cc cn
        refine (s_sameB pc qc true G.out VP.out.bs VQ.out.bs (by have := LP.out; omega) (by have := LP.out; omega) (by simp)).mono ?_
        rintro e wF ⟨rfl, g, bb⟩
        go_wp2_with fail
        go_ret
        exact ⟨rfl, g⟩
end Go.Proofs.Ytnmklleoilicdaa
