import Derived.Test.YtcbmgpmjnehjdaaGreatYD
import Derived.Test.YtcbmgpmjnehjdaaGreatYE
namespace Go.Proofs.YtcbmgpmjnehjdaaGreat
set_option maxRecDepth 100000
open Go.RowKit Go.Maps
set_option linter.unusedVariables false

theorem rlaySet2_ (V : Nat → Prop) (a ka va : Option Addr) (n c kn kc vn vc : Nat) (l : List Sx) (s : Sx) (w : World) (hl : Sl w V a n l) (hk : Vs w V ka kn kc s.k) (hv : Vs w V va vn vc s.v) (hn : n ≤ 1000000) (hkk : ∀ x ∈ l, 0 < x.k.length ∧ x.k.length ≤ 1000000000) (hks : 0 < s.k.length ∧ s.k.length ≤ 1000000000) (hV : ∀ x, w.heap.size ≤ x → V x) :
    Calls Tryz.prog 48 #[.slice a n c, .agg #[.slice ka kn kc, .slice va vn vc, .bool s.g]] w fun e w' => ∃ a' c', e = .returned (.slice a' (n + 1) c') ∧ Sl w' V a' (n + 1) (lay s l) ∧ Below w.heap.size w w' := by
  obtain rfl : s.k.length = kn := hk.bs.1
  obtain rfl : s.v.length = vn := hv.bs.1
  refine (rlaySet_ V a ka va n c kc vc l s w hl ⟨hk, hv⟩ hn hkk hks).mono ?_
  rintro e w' ⟨a', c', rfl, h1, h2⟩
  exact ⟨a', c', rfl, h1.wide fun x _ hx => hx.elim id (hV x), h2⟩
theorem st1_key {W I : Tab} (rI : Rok I) : ∀ x ∈ I.filterMap (st1 W), 0 < x.k.length ∧ x.k.length ≤ 1000000000 := by
  intro x hx
  obtain ⟨p, hp, h⟩ := List.mem_filterMap.1 hx
  unfold st1 at h
  split at h
  · cases h
  · obtain rfl := Option.some.inj h
    have := (rI p hp).1
    show 0 < p.1.length ∧ p.1.length ≤ _
    omega
theorem st2_key {W I : Tab} (rW : Rok W) : ∀ x ∈ W.filterMap (st2 I), 0 < x.k.length ∧ x.k.length ≤ 1000000000 := by
  intro x hx
  obtain ⟨p, hp, h⟩ := List.mem_filterMap.1 hx
  unfold st2 at h
  split at h
  · cases h
  · obtain rfl := Option.some.inj h
    have := (rW p hp).1
    show 0 < p.1.length ∧ p.1.length ≤ _
    omega
theorem rok_take {L : Tab} (h : Rok L) (j : Nat) : Rok (L.take j) := fun p hp => h p (List.mem_of_mem_take hp)
theorem layAll_key {m l : List Sx} (hm : ∀ x ∈ m, 0 < x.k.length ∧ x.k.length ≤ 1000000000) (hl : ∀ x ∈ l, 0 < x.k.length ∧ x.k.length ≤ 1000000000) : ∀ x ∈ layAll m l, 0 < x.k.length ∧ x.k.length ≤ 1000000000 := fun x hx => ((mem_layAll l m x).1 hx).elim (hm x) (hl x)
/-- The two loops of the document's Sets, over rows that lie in memory. -/
def d1 (W I : Tab) (j : Nat) : List Sx := layAll [] ((I.take j).filterMap (st1 W))
def d2 (W I : Tab) (j : Nat) : List Sx := layAll (layAll [] (I.filterMap (st1 W))) ((W.take j).filterMap (st2 I))
theorem d1_len (W I : Tab) (j : Nat) : (d1 W I j).length ≤ j := by
  unfold d1
  rw [layAll_len]
  have := List.length_filterMap_le (st1 W) (I.take j)
  rw [List.length_take] at this
  simp
  omega
theorem d2_len (W I : Tab) (j : Nat) : (d2 W I j).length ≤ I.length + j := by
  unfold d2
  rw [layAll_len, layAll_len]
  have := List.length_filterMap_le (st1 W) I
  have := List.length_filterMap_le (st2 I) (W.take j)
  rw [List.length_take] at this
  simp
  omega
theorem d1_key {W I : Tab} (rI : Rok I) (j : Nat) : ∀ x ∈ d1 W I j, 0 < x.k.length ∧ x.k.length ≤ 1000000000 := layAll_key (by simp) (st1_key (rok_take rI j))
theorem d2_key {W I : Tab} (rW : Rok W) (rI : Rok I) (j : Nat) : ∀ x ∈ d2 W I j, 0 < x.k.length ∧ x.k.length ≤ 1000000000 := layAll_key (layAll_key (by simp) (st1_key rI)) (st2_key (rok_take rW j))
theorem d1_lay {W I : Tab} {j : Nat} (h : j < I.length) {p : List Int × List Int} (hp : I.getD j ([], []) = p) (hn : look W p.1 ≠ some p.2) : d1 W I (j + 1) = lay ⟨p.1, p.2, false⟩ (d1 W I j) := by
  unfold d1
  rw [tab_take h, hp, List.filterMap_append, ← layAll_snoc]
  simp [st1, hn]
theorem d1_skip {W I : Tab} {j : Nat} (h : j < I.length) {p : List Int × List Int} (hp : I.getD j ([], []) = p) (hn : look W p.1 = some p.2) : d1 W I (j + 1) = d1 W I j := by
  unfold d1
  rw [tab_take h, hp, List.filterMap_append]
  simp [st1, hn]
theorem d2_lay {W I : Tab} {j : Nat} (h : j < W.length) {p : List Int × List Int} (hp : W.getD j ([], []) = p) (hn : (look I p.1).isSome = false) : d2 W I (j + 1) = lay ⟨p.1, [], true⟩ (d2 W I j) := by
  unfold d2
  rw [tab_take h, hp, List.filterMap_append, ← layAll_snoc]
  simp [st2, hn]
theorem d2_skip {W I : Tab} {j : Nat} (h : j < W.length) {p : List Int × List Int} (hp : W.getD j ([], []) = p) (hn : (look I p.1).isSome = true) : d2 W I (j + 1) = d2 W I j := by
  unfold d2
  rw [tab_take h, hp, List.filterMap_append]
  simp [st2, hn]
theorem d_all (W I : Tab) : d2 W I W.length = dsets W I := by unfold d2 dsets; rw [List.take_length]
theorem d_mid (W I : Tab) : d2 W I 0 = d1 W I I.length := by unfold d2 d1; rw [List.take_length]; rfl
def Sd (w w' : World) (q : Bool) (l : List Sx) (e : Ending) : Prop := ∃ a n c, e = .returned (.tuple #[.slice a n c, .int .i64 (if q then 0 else 114)]) ∧ Sl w' (fun x => w.heap.size ≤ x) a n (if q then l else []) ∧ Below w.heap.size w w'
set_option maxHeartbeats 8000000 in
/-- The document's Sets. -/
theorem rsets15_ (pa qa la ma : Option Addr) (pn pc qn qc ln lc mn mc : Nat) (ps qs : List Pr) (ls ms : List Ln) (w : World) (hp : Pls w pa pn ps) (hq : Pls w qa qn qs) (hl : Lls w la ln ls) (hm : Lls w ma mn ms) (h1 : pn ≤ 1000) (h2 : qn ≤ 1000) (h3 : ln ≤ 1000) (h4 : mn ≤ 1000) :
    Calls Tryz.prog 16 #[.slice pa pn pc, .slice qa qn qc, .slice la ln lc, .slice ma mn mc] w fun e w' => Sd w w' (rct ps ls && rct qs ms) (chg (gth (rws ps ls)) (gth (rws qs ms))) e := by
  have HC1 := hid (rct_kn hp hl)
  have HC2 := hid (rct_kn hq hm)
  have HRW := hid (rws_ok hp hl)
  have HRI := hid (rws_ok hq hm)
  have e1 := hp.len
  have e2 := hq.len
  have e3 := hl.len
  have e4 := hm.len
  have k1 := rrowsOf_ pa la pn pc ln lc ps ls w hp hl h1 h3
  have HQ := hid hq
  have HM := hid hm
  clear hp hq hl hm
  go_enter Tryz.func16, Tryz.ntmps16
  go_wp2_with fail
  refine k1.mono ?_
  rintro e w1 ⟨v1, ds1, q1, rfl, r1, f1, i1⟩
  obtain ⟨a1, c1, rfl, L1, -⟩ := Rwl.ofOwn r1.own (V := fun x => w.heap.size ≤ x) (fun d hd => (r1.sv d hd).wide fun x _ h => h.1) (fun x h => h)
  rw [f1] at L1
  have k2 := rrowsOf_ qa ma qn qc mn mc qs ms w1 (HQ.out.on r1.bel) (HM.out.on r1.bel) h2 h4
  have HB1 := hid r1.bel
  have HL1 := hid L1
  obtain ⟨n1, HN1⟩ : ∃ z : Nat, Hid (ds1.length = z) := ⟨_, rfl⟩
  rw [HN1.out] at HL1 ⊢
  have HI1 := hid i1
  clear k1 r1 L1 f1 i1
  go_wp2_with fail
  refine k2.mono ?_
  rintro e w2 ⟨v2, ds2, q2, rfl, r2, f2, i2⟩
  obtain ⟨a2, c2, rfl, L2, -⟩ := Rwl.ofOwn r2.own (V := fun x => w.heap.size ≤ x) (fun d hd => (r2.sv d hd).wide fun x _ h => by have := HB1.out.size; omega) (fun x h => by have := HB1.out.size; omega)
  rw [f2] at L2
  have HB2 : Hid (Below w.heap.size w w2) := bel_bel HB1.out HB1.out.size r2.bel
  have HL12 := hid (HL1.out.below r2.bel)
  have HL2 := hid L2
  obtain ⟨n2, HN2⟩ : ∃ z : Nat, Hid (ds2.length = z) := ⟨_, rfl⟩
  rw [HN2.out] at HL2 ⊢
  have HI2 := hid i2
  have HX1 : Hid (q1 = rct ps ls) := by
    show _ = _
    rw [Bool.eq_iff_iff, HI1.out, HC1.out, dgood_iff]
    constructor
    · rintro ⟨h, h'⟩; exact ⟨h, by rw [← drows_rws (dgood_iff.2 h)]; exact h'⟩
    · rintro ⟨h, h'⟩; exact ⟨h, by rw [drows_rws (dgood_iff.2 h)]; exact h'⟩
  have HX2 : Hid (q2 = rct qs ms) := by
    show _ = _
    rw [Bool.eq_iff_iff, HI2.out, HC2.out, dgood_iff]
    constructor
    · rintro ⟨h, h'⟩; exact ⟨h, by rw [← drows_rws (dgood_iff.2 h)]; exact h'⟩
    · rintro ⟨h, h'⟩; exact ⟨h, by rw [drows_rws (dgood_iff.2 h)]; exact h'⟩
  clear k2 r2 L2 f2 i2 HL1
  have HNIL : Hid (Sl w2 (fun x => w.heap.size ≤ x) none 0 []) := ⟨rfl, .inl rfl⟩
  cases q1 with
  | false =>
    go_wp2_with fail
    go_ret2
    rw [← HX1.out]
    exact ⟨none, 0, 0, rfl, HNIL.out, HB2.out⟩
  | true =>
    cases q2 with
    | false =>
      go_wp2_with fail
      go_ret2
      rw [← HX1.out, ← HX2.out]
      exact ⟨none, 0, 0, rfl, HNIL.out, HB2.out⟩
    | true =>
      have hg1 := HI1.out.1 rfl
      have hg2 := HI2.out.1 rfl
      rw [drows_rws hg1.1] at HL12 hg1
      rw [drows_rws hg2.1] at HL2 hg2
      have HEND : Hid (dsets (rws ps ls) (rws qs ms) = chg (gth (rws ps ls)) (gth (rws qs ms))) := dsets_chg HRW.out HRI.out hg1.2 hg2.2
      have hz1 : n1 ≤ 2000 := by
        have h := HL12.out.len
        have h6 : (rws ps ls).length = (ps.filterMap prow).length + (ls.filterMap lrw).length := List.length_append
        have h7 := List.length_filterMap_le prow ps
        have h8 := List.length_filterMap_le lrw ls
        omega
      have hz2 : n2 ≤ 2000 := by
        have h := HL2.out.len
        have h6 : (rws qs ms).length = (qs.filterMap prow).length + (ms.filterMap lrw).length := List.length_append
        have h7 := List.length_filterMap_le prow qs
        have h8 := List.length_filterMap_le lrw ms
        omega
      clear hg1 hg2 HI1 HI2 HC1 HC2
      obtain ⟨W, HW⟩ : ∃ z, Hid (rws ps ls = z) := ⟨_, rfl⟩
      obtain ⟨J, HJ⟩ : ∃ z, Hid (rws qs ms = z) := ⟨_, rfl⟩
      rw [HW.out] at HL12 HRW HEND
      rw [HJ.out] at HL2 HRI HEND
      have hl1 := HL12.out.len
      have hl2 := HL2.out.len
      go_wp2_with fail
      go_loopw [14, 15] (fun v i wr => ∃ (j : Nat) (al : Option Addr) (m cl : Nat), j ≤ n2 ∧ i = .int .i64 j ∧ v = .slice al m cl ∧ Hid (Bw w2 wr) ∧ Hid (Sl wr (fun x => w.heap.size ≤ x) al m (d1 W J j))) (fun _ i _ => n2 - (intOf i).toNat)
      case atStart => exact ⟨0, none, 0, 0, by omega, rfl, rfl, Below.refl _ _, HNIL.out⟩
      case round =>
        obtain ⟨j, al, m, cl, hj, rfl, rfl, HB, HS⟩ := hrel
        have hml := HS.out.len
        have hmb : m ≤ 4000 := by
          have := d1_len W J j
          omega
        by_cases hlt : j < n2
        · have hjI : (j : Int) < n2 := by omega
          obtain ⟨b, off, rfl, hc⟩ : ∃ b off, a2 = some ⟨b, off, none⟩ ∧ ∀ i, i < n2 → RowAt wr (fun x => w.heap.size ≤ x) b (off + i * 2) (J.getD i ([], [])) := by
            rcases (HL2.out.below HB.out).cells with h0 | ⟨b, off, e, -, h⟩
            · omega
            · exact ⟨b, off, e, h⟩
          have hx := hc j hlt
          have HMEM := hid (mem_getD (l := J) (j := j) ([], []) (by omega))
          obtain ⟨x, HX⟩ : ∃ x, Hid (J.getD j ([], []) = x) := ⟨_, rfl⟩
          rw [HX.out] at hx HMEM
          obtain ⟨xk, xv⟩ := x
          obtain ⟨ka, kc, va, vc, c0, c1', vk, vv⟩ := hx
          simp only at c0 c1' vk vv
          have HKK : Hid (0 < xk.length ∧ xk.length ≤ 40 ∧ xv.length ≤ 480) := by
            have := HRI.out _ HMEM.out
            exact ⟨this.1.2.1, this.1.2.2, this.2.2⟩
          have kf := rfind_ _ a1 ka n1 c1 xk.length kc W xk wr (HL12.out.below HB.out) vk.bs (Nat.le_trans vk.nc vk.cm) (by omega)
          obtain ⟨xl, Hxl⟩ : ∃ z : Nat, Hid (xk.length = z) := ⟨_, rfl⟩
          obtain ⟨yl, Hyl⟩ : ∃ z : Nat, Hid (xv.length = z) := ⟨_, rfl⟩
          rw [Hxl.out] at c0 kf vk
          rw [Hyl.out] at c1' vv
          have HVK := hid vk
          have HVV := hid vv
          have C0 := hid c0
          have C1 := hid c1'
          obtain ⟨has, hhas⟩ : ∃ z, (look W xk).isSome = z := ⟨_, rfl⟩
          rw [hhas] at kf
          have HHAS := hid hhas
          clear hc vk vv hhas
          go_wp2_with fail
          refine kf.mono ?_
          rintro e w4 ⟨fa, fn, fc, rfl, vf, g4⟩
          have HB4 : Hid (Bw w2 w4) := HB.out.on g4
          have HS4 := hid (HS.out.below g4)
          have HVK4 := hid (HVK.out.step fun x hx _ _ => g4.block x hx)
          have HVV4 := hid (HVV.out.step fun x hx _ _ => g4.block x hx)
          clear c0 c1'
          have c0 := Bw.cell g4 C0.out
          have c1' := Bw.cell g4 C1.out
          have ks := same_d fa va fn fc yl vc ((look W xk).getD []) xv w4 vf.bs HVV4.out.bs (Nat.le_trans vf.nc vf.cm) (Nat.le_trans HVV4.out.nc HVV4.out.cm)
          obtain ⟨sm, hsm⟩ : ∃ z, sameB ((look W xk).getD []) xv = z := ⟨_, rfl⟩
          rw [hsm] at ks
          have HSM := hid hsm
          clear kf g4 vf hsm HS HB
          go_wp2_with fail
          refine ks.mono ?_
          rintro e w5 ⟨rfl, g5⟩
          have HB5 : Hid (Bw w2 w5) := HB4.out.on g5.below
          have HS5 := hid (HS4.out.below g5.below)
          have HVK5 := hid (HVK4.out.step fun x hx _ _ => g5.below.block x hx)
          have HVV5 := hid (HVV4.out.step fun x hx _ _ => g5.below.block x hx)
          have D0 := Bw.cell g5.below c0
          have D1 := Bw.cell g5.below c1'
          clear ks g5 c0 c1' HS4 HB4 HVK4 HVV4 HVK HVV
          have HINS : Hid (look W xk ≠ some xv → d1 W J (j + 1) = lay ⟨xk, xv, false⟩ (d1 W J j)) := fun h => d1_lay (by omega) HX.out h
          have kb1 := fun wx (h : Bw w5 wx) => refBytes ka xl kc xk wx (HVK5.out.bs.below h) (by have := HKK.out; have := Hxl.out; omega)
          have kb2 := fun wx (h : Bw w5 wx) => refBytes va yl vc xv wx (HVV5.out.bs.below h) (by have := HKK.out; have := Hyl.out; omega)
          have BW0 : Bw w5 { w5 with drawn := w5.drawn + 1 } := Bw.drew w5
          have HW5 : Hid (w.heap.size ≤ w5.heap.size) := by have h1 := HB2.out.size; have h2 := Below.size HB5.out; show _ ≤ _; omega
          have kls : ∀ (wx : World), Bw w5 wx → ∀ (ra sa : Option Addr) (rc sc : Nat), Vs wx (fun x => w.heap.size ≤ x) ra xl rc xk → Vs wx (fun x => w.heap.size ≤ x) sa yl sc xv → Calls Tryz.prog 48 #[.slice al m cl, .agg #[.slice ra xl rc, .slice sa yl sc, .bool false]] wx fun e w' => ∃ a' c', e = .returned (.slice a' (m + 1) c') ∧ Sl w' (fun x => w.heap.size ≤ x) a' (m + 1) (lay ⟨xk, xv, false⟩ (d1 W J j)) ∧ Below wx.heap.size wx w' := fun wx h ra sa rc sc v1 v2 => rlaySet2_ (fun x => w.heap.size ≤ x) al ra sa m cl xl rc yl sc (d1 W J j) ⟨xk, xv, false⟩ wx (HS5.out.below h) v1 v2 (by omega) (d1_key HRI.out j) ⟨HKK.out.1, by have := HKK.out; show xk.length ≤ _; omega⟩ (fun x hx => by have h1 := HW5.out; have h2 := Below.size h; show w.heap.size ≤ x; omega)
          cases has with
          | false =>
            have HNE : Hid (look W xk ≠ some xv) := fun h => by have := HHAS.out; rw [h] at this; cases this
            cases sm with
            | false =>
              go_wp2_with fail
              go_region_held (fun wx => wx.cell? ⟨b, off + j * 2, none⟩ = some (.slice ka xl kc) ∧ wx.cell? ⟨b, off + j * 2 + 1, none⟩ = some (.slice va yl vc)) (go_keep) (first | (go_at_call 48; refine (kls _ G7 a6 a7 c6 c7 HV6a.out HV7.out).mono ?_; rintro en w8 ⟨a8, c8, rfl, s8, g8⟩; have G8 := Bw.on G7 g8; have u4 := Bw.cell G8 D0; have u5 := Bw.cell G8 D1; have HS8 := hid s8; have HG8 := hid G8; clear s8 g8) | (go_at_call 27; refine (kb2 _ G6).mono ?_; rintro en w7 ⟨v7, rfl, o7, g7⟩; have G7 := Bw.on G6 g7; have u2 := Bw.cell G7 D0; have u3 := Bw.cell G7 D1; obtain ⟨a7, c7, rfl, vs7⟩ := Vs.ofOwn o7 HVV5.out.bs.2.1; have HV7 := hid (vs7.wide (V' := fun x => w.heap.size ≤ x) fun x _ hx => by have h1 := HW5.out; have h2 := Below.size G6; show w.heap.size ≤ x; omega); have HV6a := hid (HV6.out.step fun x hx _ _ => g7.block x hx); clear vs7 o7 g7) | (go_at_call 27; refine (kb1 _ BW0).mono ?_; rintro en w6 ⟨v6, rfl, o6, g6⟩; have G6 := Bw.on BW0 g6; have u0 := Bw.cell G6 D0; have u1 := Bw.cell G6 D1; obtain ⟨a6, c6, rfl, vs6⟩ := Vs.ofOwn o6 HVK5.out.bs.2.1; have HV6 := hid (vs6.wide (V' := fun x => w.heap.size ≤ x) fun x _ hx => by have h1 := HW5.out; have h2 := Below.size BW0; show w.heap.size ≤ x; omega); clear vs6 o6 g6))
              have HB8 : Hid (Bw w2 w8) := Bw.on HB5.out HG8.out
              clear kls kb1 kb2 BW0 u0 u1 u2 u3 u4 u5 G6 G7 G8 D0 D1
              go_wp2_with fail
              go_roundw
              case rel => exact ⟨j + 1, a8, m + 1, c8, by omega, by go_num, rfl, HB8, by show Sl _ _ _ _ _; rw [HINS.out HNE.out]; exact HS8.out⟩
              case measure => simp [intOf]; omega
            | true =>
              go_wp2_with fail
              go_region_held (fun wx => wx.cell? ⟨b, off + j * 2, none⟩ = some (.slice ka xl kc) ∧ wx.cell? ⟨b, off + j * 2 + 1, none⟩ = some (.slice va yl vc)) (go_keep) (first | (go_at_call 48; refine (kls _ G7 a6 a7 c6 c7 HV6a.out HV7.out).mono ?_; rintro en w8 ⟨a8, c8, rfl, s8, g8⟩; have G8 := Bw.on G7 g8; have u4 := Bw.cell G8 D0; have u5 := Bw.cell G8 D1; have HS8 := hid s8; have HG8 := hid G8; clear s8 g8) | (go_at_call 27; refine (kb2 _ G6).mono ?_; rintro en w7 ⟨v7, rfl, o7, g7⟩; have G7 := Bw.on G6 g7; have u2 := Bw.cell G7 D0; have u3 := Bw.cell G7 D1; obtain ⟨a7, c7, rfl, vs7⟩ := Vs.ofOwn o7 HVV5.out.bs.2.1; have HV7 := hid (vs7.wide (V' := fun x => w.heap.size ≤ x) fun x _ hx => by have h1 := HW5.out; have h2 := Below.size G6; show w.heap.size ≤ x; omega); have HV6a := hid (HV6.out.step fun x hx _ _ => g7.block x hx); clear vs7 o7 g7) | (go_at_call 27; refine (kb1 _ BW0).mono ?_; rintro en w6 ⟨v6, rfl, o6, g6⟩; have G6 := Bw.on BW0 g6; have u0 := Bw.cell G6 D0; have u1 := Bw.cell G6 D1; obtain ⟨a6, c6, rfl, vs6⟩ := Vs.ofOwn o6 HVK5.out.bs.2.1; have HV6 := hid (vs6.wide (V' := fun x => w.heap.size ≤ x) fun x _ hx => by have h1 := HW5.out; have h2 := Below.size BW0; show w.heap.size ≤ x; omega); clear vs6 o6 g6))
              have HB8 : Hid (Bw w2 w8) := Bw.on HB5.out HG8.out
              clear kls kb1 kb2 BW0 u0 u1 u2 u3 u4 u5 G6 G7 G8 D0 D1
              go_wp2_with fail
              go_roundw
              case rel => exact ⟨j + 1, a8, m + 1, c8, by omega, by go_num, rfl, HB8, by show Sl _ _ _ _ _; rw [HINS.out HNE.out]; exact HS8.out⟩
              case measure => simp [intOf]; omega
          | true =>
            obtain ⟨z, hz⟩ := Option.isSome_iff_exists.1 HHAS.out
            rw [hz] at HSM
            cases sm with
            | false =>
              have HNE : Hid (look W xk ≠ some xv) := fun h => by
                rw [hz] at h
                have e := Option.some.inj h
                have := HSM.out
                rw [e] at this
                simp [sameB] at this
              go_wp2_with fail
              go_region_held (fun wx => wx.cell? ⟨b, off + j * 2, none⟩ = some (.slice ka xl kc) ∧ wx.cell? ⟨b, off + j * 2 + 1, none⟩ = some (.slice va yl vc)) (go_keep) (first | (go_at_call 48; refine (kls _ G7 a6 a7 c6 c7 HV6a.out HV7.out).mono ?_; rintro en w8 ⟨a8, c8, rfl, s8, g8⟩; have G8 := Bw.on G7 g8; have u4 := Bw.cell G8 D0; have u5 := Bw.cell G8 D1; have HS8 := hid s8; have HG8 := hid G8; clear s8 g8) | (go_at_call 27; refine (kb2 _ G6).mono ?_; rintro en w7 ⟨v7, rfl, o7, g7⟩; have G7 := Bw.on G6 g7; have u2 := Bw.cell G7 D0; have u3 := Bw.cell G7 D1; obtain ⟨a7, c7, rfl, vs7⟩ := Vs.ofOwn o7 HVV5.out.bs.2.1; have HV7 := hid (vs7.wide (V' := fun x => w.heap.size ≤ x) fun x _ hx => by have h1 := HW5.out; have h2 := Below.size G6; show w.heap.size ≤ x; omega); have HV6a := hid (HV6.out.step fun x hx _ _ => g7.block x hx); clear vs7 o7 g7) | (go_at_call 27; refine (kb1 _ BW0).mono ?_; rintro en w6 ⟨v6, rfl, o6, g6⟩; have G6 := Bw.on BW0 g6; have u0 := Bw.cell G6 D0; have u1 := Bw.cell G6 D1; obtain ⟨a6, c6, rfl, vs6⟩ := Vs.ofOwn o6 HVK5.out.bs.2.1; have HV6 := hid (vs6.wide (V' := fun x => w.heap.size ≤ x) fun x _ hx => by have h1 := HW5.out; have h2 := Below.size BW0; show w.heap.size ≤ x; omega); clear vs6 o6 g6))
              have HB8 : Hid (Bw w2 w8) := Bw.on HB5.out HG8.out
              clear kls kb1 kb2 BW0 u0 u1 u2 u3 u4 u5 G6 G7 G8 D0 D1
              go_wp2_with fail
              go_roundw
              case rel => exact ⟨j + 1, a8, m + 1, c8, by omega, by go_num, rfl, HB8, by show Sl _ _ _ _ _; rw [HINS.out HNE.out]; exact HS8.out⟩
              case measure => simp [intOf]; omega
            | true =>
              have HEQ : Hid (look W xk = some xv) := by
                have := HSM.out
                simp [sameB] at this
                show _ = _
                rw [hz, this]
              have HSK : Hid (d1 W J (j + 1) = d1 W J j) := d1_skip (by omega) HX.out HEQ.out
              clear kls kb1 kb2 BW0 D0 D1
              go_wp2_with fail
              go_roundw
              case rel => exact ⟨j + 1, al, m, cl, by omega, by go_num, rfl, HB5, by show Sl _ _ _ _ _; rw [HSK.out]; exact HS5.out⟩
              case measure => simp [intOf]; omega
        · have hjI : ¬ (j : Int) < n2 := by omega
          have hjn : n2 = j := by omega
          subst hjn
          have HS0 : Hid (Sl wr (fun x => w.heap.size ≤ x) al m (d2 W J 0)) := by show Sl _ _ _ _ _; rw [d_mid, hl2]; exact HS.out
          rename_i u14' u15'
          clear hml hmb
          go_wp2_with fail
          go_loopw [14, 19] (fun v i wr => ∃ (j : Nat) (al : Option Addr) (m cl : Nat), j ≤ n1 ∧ i = .int .i64 j ∧ v = .slice al m cl ∧ Hid (Bw w2 wr) ∧ Hid (Sl wr (fun x => w.heap.size ≤ x) al m (d2 W J j))) (fun _ i _ => n1 - (intOf i).toNat)
          case atStart => exact ⟨0, al, m, cl, by omega, rfl, rfl, HB, HS0⟩
          case round =>
            clear HS HB HS0 hjI hlt
            obtain ⟨j, al, m, cl, hj, rfl, rfl, HB, HS⟩ := hrel
            have hml := HS.out.len
            have hmb : m ≤ 4000 := by
              have := d2_len W J j
              omega
            by_cases hlt : j < n1
            · have hjI : (j : Int) < n1 := by omega
              obtain ⟨b, off, rfl, hc⟩ : ∃ b off, a1 = some ⟨b, off, none⟩ ∧ ∀ i, i < n1 → RowAt wr (fun x => w.heap.size ≤ x) b (off + i * 2) (W.getD i ([], [])) := by
                rcases (HL12.out.below HB.out).cells with h0 | ⟨b, off, e, -, h⟩
                · omega
                · exact ⟨b, off, e, h⟩
              have hx := hc j hlt
              have HMEM := hid (mem_getD (l := W) (j := j) ([], []) (by omega))
              obtain ⟨x, HX⟩ : ∃ x, Hid (W.getD j ([], []) = x) := ⟨_, rfl⟩
              rw [HX.out] at hx HMEM
              obtain ⟨xk, xv⟩ := x
              obtain ⟨ka, kc, va, vc, c0, c1', vk, vv⟩ := hx
              simp only at c0 c1' vk vv
              have HKK : Hid (0 < xk.length ∧ xk.length ≤ 40 ∧ xv.length ≤ 480) := by
                have := HRW.out _ HMEM.out
                exact ⟨this.1.2.1, this.1.2.2, this.2.2⟩
              have kf := rfind_ _ a2 ka n2 c2 xk.length kc J xk wr (HL2.out.below HB.out) vk.bs (Nat.le_trans vk.nc vk.cm) (by omega)
              obtain ⟨xl, Hxl⟩ : ∃ z : Nat, Hid (xk.length = z) := ⟨_, rfl⟩
              obtain ⟨yl, Hyl⟩ : ∃ z : Nat, Hid (xv.length = z) := ⟨_, rfl⟩
              rw [Hxl.out] at c0 kf vk
              rw [Hyl.out] at c1' vv
              have HVK := hid vk
              have HVV := hid vv
              have C0 := hid c0
              have C1 := hid c1'
              obtain ⟨has, hhas⟩ : ∃ z, (look J xk).isSome = z := ⟨_, rfl⟩
              rw [hhas] at kf
              have HHAS := hid hhas
              clear hc vk vv hhas
              go_wp2_with fail
              refine kf.mono ?_
              rintro e w4 ⟨fa, fn, fc, rfl, vf, g4⟩
              have HB4 : Hid (Bw w2 w4) := HB.out.on g4
              have HS4 := hid (HS.out.below g4)
              have HVK4 := hid (HVK.out.step fun x hx _ _ => g4.block x hx)
              have HVV4 := hid (HVV.out.step fun x hx _ _ => g4.block x hx)
              clear c0 c1'
              have c0 := Bw.cell g4 C0.out
              have HW4 : Hid (w.heap.size ≤ w4.heap.size) := by have h1 := HB2.out.size; have h2 := Below.size HB4.out; show _ ≤ _; omega
              clear kf g4 vf HS HB HVK HVV HVV4
              cases has with
              | true =>
                have HSK : Hid (d2 W J (j + 1) = d2 W J j) := d2_skip (by omega) HX.out HHAS.out
                go_wp2_with fail
                go_roundw
                case rel => exact ⟨j + 1, al, m, cl, by omega, by go_num, rfl, HB4, by show Sl _ _ _ _ _; rw [HSK.out]; exact HS4.out⟩
                case measure => simp [intOf]; omega
              | false =>
                have HINS : Hid (d2 W J (j + 1) = lay ⟨xk, [], true⟩ (d2 W J j)) := d2_lay (by omega) HX.out HHAS.out
                have kb := refBytes ka xl kc xk w4 HVK4.out.bs (by have := HKK.out; have := Hxl.out; omega)
                go_wp2_with fail
                refine kb.mono ?_
                rintro e w6 ⟨v6, rfl, o6, g6⟩
                obtain ⟨a6, c6, rfl, vs6⟩ := Vs.ofOwn o6 HVK4.out.bs.2.1
                have HV6 := hid (vs6.wide (V' := fun x => w.heap.size ≤ x) fun x _ hx => by have h1 := HW4.out; show w.heap.size ≤ x; omega)
                have HB6 : Hid (Bw w2 w6) := HB4.out.on g6
                have HS6 := hid (HS4.out.below g6)
                have HW6 : Hid (w.heap.size ≤ w6.heap.size) := by have h1 := HW4.out; have h2 := g6.size; show _ ≤ _; omega
                have kls := rlaySet2_ (fun x => w.heap.size ≤ x) al a6 none m cl xl c6 0 0 (d2 W J j) ⟨xk, [], true⟩ w6 HS6.out HV6.out (vs_none _ _) (by omega) (d2_key HRW.out HRI.out j) ⟨HKK.out.1, by have := HKK.out; show xk.length ≤ _; omega⟩ (fun x hx => by have h1 := HW6.out; show w.heap.size ≤ x; omega)
                clear kb vs6 o6 g6 c0
                go_wp2_with fail
                refine kls.mono ?_
                rintro e w8 ⟨a8, c8, rfl, s8, g8⟩
                have HS8 := hid s8
                have HB8 : Hid (Bw w2 w8) := HB6.out.on g8
                clear kls s8 g8
                go_wp2_with fail
                go_roundw
                case rel => exact ⟨j + 1, a8, m + 1, c8, by omega, by go_num, rfl, HB8, by show Sl _ _ _ _ _; rw [HINS.out]; exact HS8.out⟩
                case measure => simp [intOf]; omega
            · have hjI : ¬ (j : Int) < n1 := by omega
              obtain rfl : j = n1 := by omega
              rw [← hl1, d_all, HEND.out, ← HW.out, ← HJ.out] at HS
              go_wp2_with fail
              go_ret2
              rw [← HX1.out, ← HX2.out]
              exact ⟨al, m, cl, rfl, HS.out, bel_bel HB2.out HB2.out.size HB.out⟩
end Go.Proofs.YtcbmgpmjnehjdaaGreat
