import Derived.Test.YteeapmcpbmjpmaaGreatUB
namespace Go.Proofs.YteeapmcpbmjpmaaGreat
set_option maxRecDepth 100000
open Go.RowKit Go.Shelf Go.Maps
set_option linter.unusedVariables false

/-- What has been gathered so far. -/
structure Gs (A T : Sx → Prop) (left : Lit → Bool) (l : List Sx) : Prop where
  mem : ∀ s, s ∈ l ↔ (A s ∨ (T s ∧ left (litK s.k) = false))
  apart : l.Pairwise (fun p q => p.k ≠ q.k)
theorem sameK {k k' : List Int} (hk : Okb k) (hk' : Okb k') : (litK k').sameKey (litK k) = decide (k' = k) := by
  by_cases e : k' = k
  · subst e
    rw [decide_eq_true rfl]
    simp [Lit.sameKey, litK]
  · rw [decide_eq_false e]
    exact sameKey_ne fun f => e (litK_inj hk' hk f)
theorem Gs.add {A T : Sx → Prop} {left : Lit → Bool} {l : List Sx} (h : Gs A T left l) (hT : ∀ s, T s → Okb s.k) (hu : ∀ s s', T s → T s' → s.k = s'.k → s = s') (hA : ∀ s s', A s → T s' → s.k ≠ s'.k) {s0 : Sx} (h0 : T s0) (hl : left (litK s0.k) = true) : Gs A T (fun z => left z && !z.sameKey (litK s0.k)) (l ++ [s0]) := by
  refine ⟨fun s => ?_, ?_⟩
  · rw [List.mem_append, List.mem_singleton, h.mem s]
    constructor
    · rintro ((h1 | ⟨h1, h2⟩) | e)
      · exact .inl h1
      · exact .inr ⟨h1, by rw [h2]; rfl⟩
      · subst e
        refine .inr ⟨h0, ?_⟩
        rw [sameK (hT s h0) (hT s h0)]
        simp
    · rintro (h1 | ⟨h1, h2⟩)
      · exact .inl (.inl h1)
      · by_cases e : s.k = s0.k
        · exact .inr (hu s s0 h1 h0 e)
        · refine .inl (.inr ⟨h1, ?_⟩)
          rw [sameK (hT s0 h0) (hT s h1), decide_eq_false e] at h2
          simpa using h2
  · rw [List.pairwise_append]
    refine ⟨h.apart, by simp, fun p hp q hq => ?_⟩
    rw [List.mem_singleton] at hq
    subst hq
    rcases (h.mem p).1 hp with h1 | ⟨h1, h2⟩
    · exact hA p q h1 h0
    · intro e
      rw [e, hl] at h2
      cases h2
theorem Gs.skip {A T : Sx → Prop} {left : Lit → Bool} {l : List Sx} (h : Gs A T left l) (hT : ∀ s, T s → Okb s.k) {k : List Int} (hk : Okb k) (hn : ∀ s, T s → s.k ≠ k) : Gs A T (fun z => left z && !z.sameKey (litK k)) l := by
  refine ⟨fun s => ?_, h.apart⟩
  rw [h.mem s]
  constructor
  · rintro (h1 | ⟨h1, h2⟩)
    · exact .inl h1
    · exact .inr ⟨h1, by rw [h2]; rfl⟩
  · rintro (h1 | ⟨h1, h2⟩)
    · exact .inl h1
    · refine .inr ⟨h1, ?_⟩
      rw [sameK hk (hT s h1), decide_eq_false (hn s h1)] at h2
      simpa using h2
def T1 (I W : Tab) (s : Sx) : Prop := s.g = false ∧ look I s.k = some s.v ∧ look W s.k ≠ some s.v
def T2 (I W : Tab) (s : Sx) : Prop := s.g = true ∧ s.v = [] ∧ (look W s.k).isSome = true ∧ look I s.k = none
theorem T1_okb {I W : Tab} (hI : Tok I) (s : Sx) (h : T1 I W s) : Okb s.k := (hI.key _ (look_mem h.2.1)).1
theorem T2_okb {I W : Tab} (hW : Tok W) (s : Sx) (h : T2 I W s) : Okb s.k := by
  obtain ⟨v, hv⟩ := Option.isSome_iff_exists.1 h.2.2.1
  exact (hW.key _ (look_mem hv)).1
theorem T1_one {I W : Tab} (s s' : Sx) (h : T1 I W s) (h' : T1 I W s') (e : s.k = s'.k) : s = s' := by
  obtain ⟨k, v, g⟩ := s
  obtain ⟨k', v', g'⟩ := s'
  obtain ⟨h1, h2, _⟩ := h
  obtain ⟨h1', h2', _⟩ := h'
  simp only at *
  subst e h1 h1'
  rw [h2] at h2'
  rw [Option.some.inj h2']
theorem T2_one {I W : Tab} (s s' : Sx) (h : T2 I W s) (h' : T2 I W s') (e : s.k = s'.k) : s = s' := by
  obtain ⟨k, v, g⟩ := s
  obtain ⟨k', v', g'⟩ := s'
  obtain ⟨h1, h2, _⟩ := h
  obtain ⟨h1', h2', _⟩ := h'
  simp only at *
  subst e h1 h1' h2 h2'
  rfl
theorem T12 {I W : Tab} (s s' : Sx) (h : T1 I W s) (h' : T2 I W s') : s.k ≠ s'.k := by
  intro e
  have := h.2.1
  rw [e, h'.2.2.2] at this
  cases this
theorem chg_T {I W : Tab} (s : Sx) : chg1 s.k (look W s.k) (look I s.k) = some s ↔ (T1 I W s ∨ T2 I W s) := by
  obtain ⟨k, v, g⟩ := s
  unfold T1 T2
  simp only
  cases e : look W k with
  | none =>
    cases f : look I k with
    | none => simp [chg1]
    | some u =>
      simp only [chg1, Option.some.injEq, Sx.mk.injEq]
      constructor
      · rintro ⟨_, h2, h3⟩; exact .inl ⟨h3.symm, h2, by simp⟩
      · rintro (⟨h1, h2, _⟩ | ⟨_, _, h, _⟩)
        · exact ⟨trivial, h2, h1.symm⟩
        · cases h
  | some u' =>
    cases f : look I k with
    | none =>
      simp only [chg1, Option.some.injEq, Sx.mk.injEq]
      constructor
      · rintro ⟨_, h2, h3⟩; exact .inr ⟨h3.symm, h2.symm, rfl, trivial⟩
      · rintro (⟨_, h, _⟩ | ⟨h1, h2, _⟩)
        · cases h
        · exact ⟨trivial, h2.symm, h1.symm⟩
    | some u =>
      simp only [chg1]
      by_cases q : u' = u
      · rw [if_pos q]
        constructor
        · intro h; cases h
        · rintro (⟨_, h1, h2⟩ | ⟨_, _, _, h⟩)
          · exact absurd (by rw [q]; exact h1) h2
          · cases h
      · rw [if_neg q]
        simp only [Option.some.injEq, Sx.mk.injEq]
        constructor
        · rintro ⟨_, h2, h3⟩; exact .inl ⟨h3.symm, h2, fun e => q ((Option.some.inj e).trans h2.symm)⟩
        · rintro (⟨h1, h2, _⟩ | ⟨_, _, _, h⟩)
          · exact ⟨trivial, h2, h1.symm⟩
          · cases h
theorem Gs.done {I W : Tab} {left : Lit → Bool} {l l' : List Sx} (h : Gs (T1 I W) (T2 I W) left l) (hW : Srt W) (hl : ∀ kl, left kl = false) (hp : l'.Perm l) (hs : l'.Pairwise (fun a b => lx b.k a.k = false)) : l' = chg W I := by
  refine srt_ext Sx.k l' (chg W I) ?_ (chg_rises hW) fun s => ?_
  · have ha : l'.Pairwise (fun p q => p.k ≠ q.k) := (hp.pairwise_iff (fun h => Ne.symm h)).2 h.apart
    exact (hs.and ha).imp fun ⟨h1, h2⟩ => lx_of_ne (Ne.symm h2) h1
  · rw [hp.mem_iff, h.mem s, mem_chg hW, chg_T, hl]
    simp
/-- Sets gathered in a row of one's own. -/
structure Sw (w wr : World) (v : Value) (ds : List SD) : Prop where
  own : wr.ownsRow w.heap.size 44 3 v ds.length (sds ds)
  sv : ∀ d ∈ ds, SV wr (fun x => w.heap.size ≤ x ∧ v.ownBlock ≠ some x) d
  bel : Below w.heap.size w wr
theorem Sw.below {w wr w2 : World} {v : Value} {ds : List SD} (h : Sw w wr v ds) (hb : Below wr.heap.size wr w2) : Sw w w2 v ds := ⟨own_bel h.own hb, fun d hd => (h.sv d hd).below hb, bel_bel h.bel h.bel.size hb⟩
theorem Sw.iter {w wr w2 : World} {v : Value} {ds : List SD} {b r n cnt : Nat} {D : DataW Value} {left : Lit → Bool} (h : Sw w wr v ds) (hr : wr.ranges Tryz.prog 9 RV b r n D left cnt) (hg : wr.grownBy w2 (some r)) (hrw : w.heap.size ≤ r) : Sw w w2 v ds :=
  ⟨h.own.kept hg (.inr (own_ne_iter h.own hr)), fun d hd => by
    have h := h.sv d hd
    exact ⟨⟨h.1.bs.same_block fun ad e hn => hg.block _ (h.1.bs.at_block e hn).1 (by have := iter_not_cells hr h.1.bs e hn; simpa using this), h.1.nc, h.1.cm, h.1.nil, h.1.lies⟩,
      ⟨h.2.bs.same_block fun ad e hn => hg.block _ (h.2.bs.at_block e hn).1 (by have := iter_not_cells hr h.2.bs e hn; simpa using this), h.2.nc, h.2.cm, h.2.nil, h.2.lies⟩⟩,
    h.bel.grown hg h.bel.size (fun q e => by obtain rfl := Option.some.inj e; exact hrw)⟩
theorem Sw.app {w w3 w5 : World} {v v5 : Value} {ds : List SD} {d : SD} {o : Obj} (h : Sw w w3 v ds) (hd : SV w3 (fun x => w.heap.size ≤ x ∧ v.ownBlock ≠ some x) d) (ho : w5.ownsRow w.heap.size 44 3 v5 (ds ++ [d]).length (sds (ds ++ [d]))) (hg : (w3.alloc o).grownBy w5 v.ownBlock) (hl : v5.ownBlock = v.ownBlock ∨ v5.ownBlock = some (w3.alloc o).heap.size) : Sw w w5 v5 (ds ++ [d]) := by
  have hB := (Below.refl w3.heap.size w3).alloc (Nat.le_refl _) o
  have hown : ∀ q, v.ownBlock = some q → w.heap.size ≤ q := fun q e => (h.own.lt q e).1
  have hsa : (w3.alloc o).heap.size = w3.heap.size + 1 := by simp
  refine ⟨ho, ?_, (h.bel.alloc h.bel.size o).grown hg (by rw [hsa]; have := h.bel.size; omega) (fun q e => hown q e)⟩
  have hst : ∀ {d : SD}, SV w3 (fun x => w.heap.size ≤ x ∧ v.ownBlock ≠ some x) d → SV w5 (fun x => w.heap.size ≤ x ∧ v5.ownBlock ≠ some x) d := fun {d} h => by
    have ha := (h.below hB).step (w' := w5) (fun x hx hx' _ => hg.block x hx (fun e => hx'.2 e.symm))
    have hw : ∀ x, x < w3.heap.size → v.ownBlock ≠ some x → v5.ownBlock ≠ some x := fun x hx hn e => by
      rcases hl with h | h
      · exact hn (by rw [← h]; exact e)
      · rw [h, hsa] at e
        have := Option.some.inj e
        omega
    exact ⟨⟨ha.1.bs, ha.1.nc, ha.1.cm, ha.1.nil, fun ad e hn => ⟨(ha.1.lies ad e hn).1, hw _ (h.1.bs.at_block e hn).1 (ha.1.lies ad e hn).2⟩⟩, ⟨ha.2.bs, ha.2.nc, ha.2.cm, ha.2.nil, fun ad e hn => ⟨(ha.2.lies ad e hn).1, hw _ (h.2.bs.at_block e hn).1 (ha.2.lies ad e hn).2⟩⟩⟩
  intro d' hd'
  rcases List.mem_append.1 hd' with hd' | hd'
  · exact hst (h.sv d' hd')
  · rw [List.mem_singleton] at hd'
    subst hd'
    exact hst hd
/-- An entry of a map, in the tables' words. -/
theorem entry_look {w : World} {V : Nat → Prop} {D : DataW Value} {M : Tab} {x : List UInt8} {va : Option Addr} {vn vc : Nat} {yd : DataW Value} {yp : List MemPlace} (h : Dm w V D M) (hv : RV (mkV (va, vn, vc)) = some (yd, yp)) (hat : ∀ zd, D.atKey (.string x) zd = yd) : ∃ v, look M (ofU x) = some v ∧ Vs w V va vn vc v := by
  obtain ⟨a', n', c', e1, e2⟩ := RV_inv hv
  have e2 : yd = .held (.slice a' n' c') := congrArg Prod.fst e2
  obtain ⟨rfl, rfl, rfl⟩ : va = a' ∧ vn = n' ∧ vc = c' := by simpa [mkV] using e1
  have hh := has_true_of_atKey hat
  rw [← litK_ofU, h.has _ (ofU_okb x)] at hh
  obtain ⟨v, hv'⟩ := Option.isSome_iff_exists.1 hh
  obtain ⟨a, n, c, h1, h2⟩ := h.val _ _ hv'
  rw [litK_ofU] at h1
  have h3 := (h1 yd).symm.trans (hat yd)
  rw [e2] at h3
  obtain ⟨rfl, rfl, rfl⟩ : a = va ∧ n = vn ∧ c = vc := by simpa using h3
  exact ⟨v, hv', h2⟩
set_option maxHeartbeats 1000000 in
theorem sets_ (o b1 b2 : Nat) (V : Nat → Prop) (I W : Tab) (w : World) (h : Ov w o b1 b2 V I W) (hIL : I.length ≤ 100000000) (hWL : W.length ≤ 100000000) :
    Calls Tryz.prog 20 #[.pointer (some ⟨o, 0, none⟩)] w fun e w' => ∃ a n c, e = .returned (.slice a n c) ∧ Sl w' (fun x => w.heap.size ≤ x) a n (chg W I) ∧ n ≤ c ∧ c ≤ maxLen ∧ (a = none → c = 0) ∧ Below w.heap.size w w' := by
  have c0 := h.c0
  obtain ⟨D, hD, hDm⟩ := id h.is
  have HD := hid hD
  have HDM := hid hDm
  have H := hid h
  have HG0 : Hid (Gs (fun _ => False) (T1 I W) (Maps.has D) []) := ⟨fun s => by
    constructor
    · intro h; simp at h
    · rintro (h | ⟨h1, h2⟩)
      · exact h.elim
      · rw [hDm.has s.k (T1_okb h.tokI s h1), h1.2.1] at h2
        exact absurd h2 (by simp), List.Pairwise.nil⟩
  clear h hD hDm
  go_enter Tryz.func20, Tryz.ntmps20
  go_wp2_with (first | (at_range; refine wpList_range_own _ rfl _ 50 rfl 9 35 law9 Tryz.underlying50 RV b1 _ D rfl HD.out ?_; intro w0 hrg0 hg0 hs0) | fail)
  go_frame
  have HR0 := hid hrg0
  have HB0 := hid (below_of_grown hg0)
  clear hrg0 hg0 hs0 c0
  go_loopw [3] (fun v wr => ∃ (ds : List SD) (left : Lit → Bool) (cnt : Nat), Hid (wr.ranges Tryz.prog 9 RV b1 w.heap.size (Maps.size D) D left cnt) ∧ Hid (Gs (fun _ => False) (T1 I W) left (ds.map (·.s))) ∧ Hid (ds.length + cnt ≤ I.length) ∧ Hid (Sw w wr v ds)) (fun _ wr => wr.rangeLeft b1 w.heap.size)
  case atStart => exact ⟨[], _, _, HR0, HG0, by show 0 + _ ≤ _; rw [HDM.out.size]; omega, ⟨World.ownsRow_nil _ _ _ _, fun d hd => by simp at hd, HB0.out⟩⟩
  case round =>
    obtain ⟨ds, left, cnt, HR, HG, HC, HS⟩ := hrel
    have HLE := hid HR.out.left_eq
    clear HR0 HG0 HB0
    go_wp2_with (first | (at_next; refine wpList_next_ranges _ rfl _ rfl 9 law9 RV encStr mkV (fun key kl hk => by obtain ⟨x, hx, _⟩ := Maps.keyOf_str Tryz.underlying9 hk; exact ⟨x, hx⟩) (fun v y hv => by obtain ⟨a, n, c, rfl, _⟩ := RV_inv hv; exact ⟨(a, n, c), rfl⟩) b1 w.heap.size _ D left cnt rfl HR.out ?_ ?_) | fail)
    · intro _ hl0
      have HL0 := hid hl0
      have HOV := hid (H.out.below HS.out.bel)
      have c1 := HOV.out.c1
      obtain ⟨E, hE, hEm⟩ := id HOV.out.was
      have HE := hid hE
      have HEM := hid hEm
      have HGW : Hid (Gs (T1 I W) (T2 I W) (Maps.has E) (ds.map (·.s))) := ⟨fun s => by
        rw [HG.out.mem s, HL0.out]
        constructor
        · rintro (h | ⟨h1, _⟩)
          · exact h.elim
          · exact .inl h1
        · rintro (h | ⟨h1, h2⟩)
          · exact .inr ⟨h, rfl⟩
          · rw [hEm.has s.k (T2_okb H.out.tokW s h1), h1.2.2.1] at h2
            exact absurd h2 (by simp), HG.out.apart⟩
      have HDL : Hid (ds.length ≤ I.length) := by have := HC.out; show _ ≤ _; omega
      have hbs := HS.out.bel.size
      obtain ⟨r2, HR2⟩ : ∃ r2, Hid (wr.heap.size = r2) := ⟨_, rfl⟩
      have hr2 : w.heap.size ≤ r2 := by rw [← HR2.out]; exact hbs
      clear hl0 HLE HG HC HR hE hEm
      go_wp2_with (first | (at_range; refine wpList_range_own _ rfl _ 50 rfl 9 35 law9 Tryz.underlying50 RV b2 _ E rfl HE.out ?_; intro w0 hrg0 hg0 hs0) | fail)
      go_frame
      rw [HR2.out] at hrg0 ⊢
      have HR0 := hid hrg0
      have HS0 := hid (HS.out.below (below_of_grown hg0))
      have HBR := hid (below_of_grown hg0)
      clear hrg0 hg0 hs0 c1 HS
      go_loopw [3] (fun v wr => ∃ (ds2 : List SD) (left : Lit → Bool) (cnt : Nat), Hid (wr.ranges Tryz.prog 9 RV b2 r2 (Maps.size E) E left cnt) ∧ Hid (Gs (T1 I W) (T2 I W) left (ds2.map (·.s))) ∧ Hid (ds2.length + cnt ≤ I.length + W.length) ∧ Hid (Sw w wr v ds2)) (fun _ wr => wr.rangeLeft b2 r2)
      case atStart => exact ⟨ds, _, _, HR0, HGW, by have := HDL.out; show _ + _ ≤ _; rw [HEM.out.size]; omega, HS0⟩
      case round =>
        obtain ⟨ds2, left2, cnt, HR, HG, HC, HS⟩ := hrel
        have HLE := hid HR.out.left_eq
        clear HR0 HGW HS0
        go_wp2_with (first | (at_next; refine wpList_next_ranges _ rfl _ rfl 9 law9 RV encStr mkV (fun key kl hk => by obtain ⟨x, hx, _⟩ := Maps.keyOf_str Tryz.underlying9 hk; exact ⟨x, hx⟩) (fun v y hv => by obtain ⟨a, n, c, rfl, _⟩ := RV_inv hv; exact ⟨(a, n, c), rfl⟩) b2 r2 _ E left2 cnt rfl HR.out ?_ ?_) | fail)
        · intro _ hl0
          have HL2 := hid hl0
          have hdl : ds2.length ≤ 1000000000 := by have := HC.out; omega
          clear hl0 HLE
          by_cases hd0 : ds2 = []
          · subst hd0
            obtain ⟨al, cl, hu3, h1, h2, h3, h4⟩ := own_addr HS.out.own
            have HM0 : Hid ([] = chg W I) := HG.out.done H.out.tokW.srt HL2.out (List.Perm.refl _) List.Pairwise.nil
            have H1 := hid h1
            have H2 := hid h2
            have H3 := hid h3
            have HB := hid HS.out.bel
            simp only [List.length_nil] at hu3 H1
            subst hu3
            clear h1 h2 h3 h4 HS
            go_wp2_with fail
            refine (sortS_none al cl wr).mono ?_
            rintro e w5 ⟨rfl, hw⟩
            obtain rfl := hw.symm
            clear hw
            go_wp2_with fail
            go_ret
            have hsl : Sl wr (fun x => w.heap.size ≤ x) al 0 (chg W I) := ⟨by rw [← HM0.out]; rfl, .inl rfl⟩
            exact ⟨al, 0, cl, rfl, hsl, H1.out, H2.out, H3.out, HB.out⟩
          · have hdp : 0 < ds2.length := List.length_pos_iff.2 hd0
            obtain ⟨g, cap, cur, hu3, hbg, hgc, hnc, hcm, hcs, htk⟩ : ∃ g cap cur, u3 = .slice (some ⟨g, 0, none⟩) ds2.length cap ∧ w.heap.size ≤ g ∧ wr.heap[g]? = some (.cells cur 44 (0, 0)) ∧ ds2.length ≤ cap ∧ cap ≤ maxLen ∧ cur.size = cap * 3 ∧ cur.toList.take (ds2.length * 3) = sds ds2 := by
              rcases HS.out.own.2 with ⟨_, h0⟩ | h
              · omega
              · exact h
            have HV := hid HS.out.sv
            have HB := hid HS.out.bel
            subst hu3
            have hown : (Value.slice (some ⟨g, 0, none⟩) ds2.length cap).ownBlock = some g := rfl
            rw [hown] at HV
            have kcells : ∀ j u, (sds ds2)[j]? = some u → wr.cell? ⟨g, j, none⟩ = some u := fun j u hu => by
              rw [cell_of_row wr g j cur _ (0, 0) hgc]
              rw [← htk, List.getElem?_take] at hu
              split at hu
              · simpa using hu
              · cases hu
            have ks := sortS_ ds2 hdp hdl g cap cur wr hgc kcells (fun d hd => ⟨(HV.out d hd).1.bs, fun ad e hn f => ((HV.out d hd).1.lies ad e hn).2 (by rw [f])⟩)
            have HBG := hid hbg
            have HNC := hid hnc
            have HCM := hid hcm
            obtain ⟨n, HN⟩ : ∃ n, Hid (ds2.length = n) := ⟨_, rfl⟩
            rw [HN.out] at ks HNC
            rw [HN.out]
            clear kcells hcs htk hgc hown hdl hdp hd0 hbg hnc hcm HS
            go_wp2_with fail
            refine ks.mono ?_
            rintro e w5 ⟨rfl, ds', hp, hs, hc5, hcur5, g5⟩
            have HP := hid hp
            have HM1 : Hid (ds'.map (·.s) = chg W I) := HG.out.done H.out.tokW.srt HL2.out (hp.map _) (by rw [List.pairwise_map]; exact hs)
            have HC5 := hid hc5
            have HG5 := hid g5
            have HB5 : Hid (Below w.heap.size w w5) := HB.out.grown g5 HB.out.size (fun q e => by obtain rfl := Option.some.inj e; exact HBG.out)
            clear ks hp hs hc5 hcur5 g5
            go_wp2_with fail
            go_ret
            have hlen : (chg W I).length = n := by rw [← HM1.out, List.length_map, HP.out.length_eq, HN.out]
            have hsl : Sl w5 (fun x => w.heap.size ≤ x) (some ⟨g, 0, none⟩) n (chg W I) := by
              refine ⟨hlen, .inr ⟨g, 0, rfl, HBG.out, fun i hi => ?_⟩⟩
              have hi' : i < ds'.length := by rw [HP.out.length_eq, HN.out]; exact hi
              have e : (chg W I).getD i default = ds'[i].s := by rw [← HM1.out]; simp [List.getD, hi']
              have hd := HV.out ds'[i] (HP.out.mem_iff.1 (List.getElem_mem hi'))
              have hd5 : SV w5 (fun x => w.heap.size ≤ x ∧ some g ≠ some x) ds'[i] := hd.step fun x hx hx' _ => HG5.out.block x hx (fun e => hx'.2 e.symm)
              have hd6 := hd5.wide (V' := fun x => w.heap.size ≤ x) (fun x _ h => h.1)
              rw [e, Nat.zero_add]
              exact ⟨ds'[i].ka, ds'[i].kc, ds'[i].va, ds'[i].vc, HC5.out _ _ (sds_get ds' i hi' 0 (by decide)), HC5.out _ _ (sds_get ds' i hi' 1 (by decide)), HC5.out _ _ (sds_get ds' i hi' 2 (by decide)), hd6.1, hd6.2⟩
            have hnil : (some (⟨g, 0, none⟩ : Addr)) = none → cap = 0 := fun e => by cases e
            exact ⟨_, n, cap, rfl, hsl, HNC.out, HCM.out, hnil, HB5.out⟩
        · intro x va vn vc kl yd yp w2 cnt2 hkey hlk hv hat hrg2 hlt hg2 hs2 hen
          obtain ⟨x', ex, rfl, hxl⟩ := Maps.keyOf_str Tryz.underlying9 hkey
          obtain rfl : x = x' := encStr_inj ex
          obtain ⟨v, HLV, HVS⟩ : ∃ v, Hid (look W (ofU x) = some v) ∧ Hid (Vs _ V va vn vc v) := entry_look HEM.out hv hat
          have HS2 := hid (HS.out.iter HR.out hg2 hr2)
          have HB2 := hid HS2.out.bel
          have HO2 := hid (H.out.below HB2.out)
          have c1 := HO2.out.c0
          have HRG2 := hid hrg2
          have HLT := hid hlt
          replace hen : (Instr.entry (.pointer (some ⟨r2, 0, none⟩))).run Tryz.prog w2 = .ok (.tuple #[encStr x, .slice va vn vc]) w2 := hen
          have HXL := hid hxl
          have HXU : Hid ((ofU x).length ≤ maxLen) := by rw [ofU_length]; exact hxl
          have HLK : Hid (left2 (litK (ofU x)) = true) := by rw [litK_ofU]; exact hlk
          have HKX : Hid (encStr x = .string (strOfNums (ofU x))) := by show _ = _; rw [str_ofU]
          clear hkey hv hat hrg2 hlt hs2 ex hlk hxl hg2
          obtain ⟨key, HKEY⟩ : ∃ key, Hid (encStr x = key) := ⟨_, rfl⟩
          rw [HKEY.out] at hen
          simp only [mkV]
          cases hq : (look I (ofU x)).isSome with
          | true =>
            have HQ := hid hq
            have HG3 := hid (HG.out.skip (T2_okb H.out.tokW) (ofU_okb x) (fun s hs e => by
              have h1 := hs.2.2.2
              rw [e] at h1
              rw [h1] at hq
              cases hq))
            rw [litK_ofU] at HG3
            clear hq
            go_wp2_with (first | (at_lookup; refine wp_look rfl _ _ rfl b1 V I rfl HO2.out.is (ofU x) (ofU_okb x) HXU.out (by rw [← HKX.out, HKEY.out]; rfl) ?_; intro q1 m1 d1 hvs; rw [HQ.out]; clear hvs) | fail)
            go_roundw
            case rel => exact ⟨ds2, _, cnt2, HRG2, HG3, by have := HC.out; have := HLT.out; show _ ≤ _; omega, HS2⟩
            case measure =>
              rw [HRG2.out.left_eq, HLE.out]
              exact HLT.out
          | false =>
            have HQ := hid hq
            have hI : look I (ofU x) = none := by
              cases e : look I (ofU x) with
              | none => rfl
              | some u => rw [e] at hq; cases hq
            have HG3 := hid (HG.out.add (T2_okb H.out.tokW) T2_one (fun s s' h h' => T12 s s' h h') (s0 := ⟨ofU x, [], true⟩) ⟨rfl, rfl, by rw [HLV.out]; rfl, hI⟩ HLK.out)
            simp only [litK_ofU] at HG3
            clear hq hI
            obtain ⟨w4, kc, hrun, hvk, hb4, hs4⟩ := run_toB w2 x HXL.out
            rw [ofU_length] at hvk
            obtain ⟨kn, HKN⟩ : ∃ kn, Hid (x.length = kn) := ⟨_, rfl⟩
            rw [HKN.out] at hrun hvk
            have hrun : (convert 9 35 (encStr x)).run Tryz.prog w2 = .ok (.slice (some ⟨w2.heap.size, 0, none⟩) kn kc) w4 := hrun
            rw [HKEY.out] at hrun
            have HS4 := hid (HS2.out.below hb4)
            have HRG4 := hid (HRG2.out.kept (grown_of_below hb4) (by simp) (by simp))
            have HVK := hid hvk
            have HSZ2 : Hid (w.heap.size ≤ w2.heap.size) := HS2.out.bel.size
            have HOW2 := hid HS2.out.own.lt
            clear hvk hb4 hs4
            obtain ⟨ob, HOB⟩ : ∃ ob, Hid (Obj.cells #[.slice (some ⟨w2.heap.size, 0, none⟩) kn kc, .slice none 0 0, .bool true] 44 = ob) := ⟨_, rfl⟩
            have HKU : Hid ((ofU x).length = kn) := by rw [← HKN.out]; exact ofU_length x
            have HO6 := hid (HS4.out.own.alloc ob)
            have HNW : Hid (∀ j u, (sdc ⟨some ⟨w2.heap.size, 0, none⟩, kc, none, 0, ⟨ofU x, [], true⟩⟩)[j]? = some u → (w4.alloc ob).cell? ⟨w4.heap.size, j, none⟩ = some u) := fun j u hj => by
              rw [cell_of_row (w4.alloc ob) w4.heap.size j _ 44 (0, 0) ((heap_alloc_new w4 ob).trans (by rw [← HOB.out]))]
              simp only [sdc, HKU.out] at hj
              simpa using hj
            have HRG6 := hid (HRG4.out.alloc ob)
            have HBZ : Hid (w.heap.size ≤ (w4.alloc ob).heap.size) := by have := HS4.out.bel.size; show _ ≤ _; simp; omega
            have HDL2 : Hid (ds2.length ≤ 1000000000) := by have := HC.out; show _ ≤ _; omega
            rw [← HOB.out] at HO6 HNW HRG6 HBZ
            go_wp2_with (first | (at_lookup; refine wp_look rfl _ _ rfl b1 V I rfl HO2.out.is (ofU x) (ofU_okb x) HXU.out (by rw [← HKX.out, HKEY.out]; rfl) ?_; intro q1 m1 d1 hvs; rw [HQ.out]; clear hvs) | (at_builtin; refine wpList_appSet rfl _ _ rfl w.heap.size u3 ds2 rfl (by exact HO6.out) w4.heap.size ⟨some ⟨w2.heap.size, 0, none⟩, kc, none, 0, ⟨ofU x, [], true⟩⟩ rfl (by exact HNW.out) HDL2.out HBZ.out ?_; intro v7 w7 o7 g7 l7; have HO7 := hid o7; have HG7 := hid g7; have HL7 := hid l7; clear o7 g7 l7 HNW) | fail)
            have hown6 : ∀ q, u3.ownBlock = some q → w.heap.size ≤ q := fun q e => (HO6.out.lt q e).1
            have HR7 := hid (HRG6.out.kept HG7.out (by have := H.out.was.lt; intro e; have := hown6 b2 e.symm; omega) (fun e => own_ne_iter HO6.out HRG6.out e.symm))
            have HSD : Hid (SV w4 (fun x => w.heap.size ≤ x ∧ u3.ownBlock ≠ some x) ⟨some ⟨w2.heap.size, 0, none⟩, kc, none, 0, ⟨ofU x, [], true⟩⟩) := by
              refine ⟨?_, vs_none _ _⟩
              show Vs w4 _ _ (ofU x).length kc (ofU x)
              rw [HKU.out]
              refine HVK.out.wide fun y _ e => ⟨by have := HSZ2.out; omega, fun f => ?_⟩
              have := (HOW2.out y f).2
              omega
            go_roundw
            case rel =>
              refine ⟨ds2 ++ [⟨some ⟨w2.heap.size, 0, none⟩, kc, none, 0, ⟨ofU x, [], true⟩⟩], _, cnt2, HR7, by rw [List.map_append]; exact HG3, ?_, HS4.out.app HSD.out HO7.out HG7.out HL7.out⟩
              have := HC.out
              have := HLT.out
              show _ ≤ _
              rw [List.length_append, List.length_singleton]
              omega
            case measure =>
              rw [HR7.out.left_eq, HLE.out]
              exact HLT.out
    · intro x va vn vc kl yd yp w2 cnt2 hkey hlk hv hat hrg2 hlt hg2 hs2 hen
      obtain ⟨x', ex, rfl, hxl⟩ := Maps.keyOf_str Tryz.underlying9 hkey
      obtain rfl : x = x' := encStr_inj ex
      obtain ⟨v, HLV, HVS⟩ : ∃ v, Hid (look I (ofU x) = some v) ∧ Hid (Vs w V va vn vc v) := entry_look HDM.out hv hat
      have HS2 := hid (HS.out.iter HR.out hg2 (Nat.le_refl _))
      have HB2 := hid HS2.out.bel
      have HO2 := hid (H.out.below HB2.out)
      have c1 := HO2.out.c1
      have HV2 := hid (HVS.out.step fun x hx _ _ => HB2.out.block x hx)
      have HRG2 := hid hrg2
      have HLT := hid hlt
      have hkx : strOfNums (ofU x) = ⟨x.toArray⟩ := str_ofU x
      have kh := has_ b2 V W va vn vc (ofU x) v w2 HO2.out.was (ofU_okb x) (by rw [ofU_length]; exact hxl) HV2.out.bs
      rw [hkx] at kh
      have kh : Calls Tryz.prog 47 #[.map (some b2), encStr x, .slice va vn vc] w2 fun e w' => e = .returned (.bool (hasT W (ofU x) v)) ∧ Drawn w2 w' := kh
      replace hen : (Instr.entry (.pointer (some ⟨w.heap.size, 0, none⟩))).run Tryz.prog w2 = .ok (.tuple #[encStr x, .slice va vn vc]) w2 := hen
      have HXL := hid hxl
      have HLK : Hid (left (litK (ofU x)) = true) := by rw [litK_ofU]; exact hlk
      clear hkey hv hat hrg2 hlt hs2 ex hlk hxl hg2 hkx
      obtain ⟨key, HKEY⟩ : ∃ key, Hid (encStr x = key) := ⟨_, rfl⟩
      rw [HKEY.out] at kh hen
      simp only [mkV]
      go_wp2_with fail
      refine kh.mono ?_
      rintro e w3 ⟨rfl, d3⟩
      have HS3 := hid (HS2.out.below d3.below)
      have HRG3 := hid (HRG2.out.kept (grown_of_below d3.below) (by simp) (by simp))
      have HV3 := hid (HV2.out.step fun x hx _ _ => d3.below.block x hx)
      clear kh d3 c1
      cases hq : hasT W (ofU x) v with
      | true =>
        have hW : look W (ofU x) = some v := of_decide_eq_true hq
        have HG3 := hid (HG.out.skip (T1_okb H.out.tokI) (ofU_okb x) (fun s hs e => by
          have h1 := hs.2.1
          rw [e, HLV.out] at h1
          exact hs.2.2 (by rw [e, hW, Option.some.inj h1])))
        rw [litK_ofU] at HG3
        clear hq hW
        go_wp2_with fail
        go_roundw
        case rel => exact ⟨ds, _, cnt2, HRG3, HG3, by have := HC.out; have := HLT.out; show _ ≤ _; omega, HS3⟩
        case measure =>
          rw [HRG3.out.left_eq, HLE.out]
          exact HLT.out
      | false =>
        have hW : look W (ofU x) ≠ some v := of_decide_eq_false hq
        have HG3 := hid (HG.out.add (T1_okb H.out.tokI) T1_one (fun _ _ h => h.elim) (s0 := ⟨ofU x, v, false⟩) ⟨rfl, HLV.out, hW⟩ HLK.out)
        simp only [litK_ofU] at HG3
        clear hq hW
        obtain ⟨w4, kc, hrun, hvk, hb4, hs4⟩ := run_toB w3 x HXL.out
        rw [ofU_length] at hvk
        obtain ⟨kn, HKN⟩ : ∃ kn, Hid (x.length = kn) := ⟨_, rfl⟩
        rw [HKN.out] at hrun hvk
        have hrun : (convert 9 35 (encStr x)).run Tryz.prog w3 = .ok (.slice (some ⟨w3.heap.size, 0, none⟩) kn kc) w4 := hrun
        rw [HKEY.out] at hrun
        have hvl : v.length = vn := HVS.out.bs.1
        have hv480 : vn ≤ 480 := by rw [← hvl]; exact (H.out.tokI.val _ (look_mem HLV.out)).2
        have kc4 := bclone_ va vn vc v w4 (HV3.out.bs.below hb4) HV3.out.nil HV3.out.nc (by omega)
        have HS4 := hid (HS3.out.below hb4)
        have HRG4 := hid (HRG3.out.kept (grown_of_below hb4) (by simp) (by simp))
        have HVK := hid hvk
        have HSZ3 : Hid (w.heap.size ≤ w3.heap.size) := HS3.out.bel.size
        have HOW3 := hid HS3.out.own.lt
        clear hvk hb4 hs4
        go_wp2_with fail
        refine kc4.mono ?_
        rintro e w5 ⟨v5, rfl, o5, g5⟩
        obtain ⟨a5, c5, hv5, hvs5⟩ := Vs.ofOwn o5 HV3.out.bs.2.1
        subst hv5
        have HS5 := hid (HS4.out.below g5)
        have HRG5 := hid (HRG4.out.kept (grown_of_below g5) (by simp) (by simp))
        have HVK5 := hid (HVK.out.step fun x hx _ _ => g5.block x hx)
        have HVV5 := hid hvs5
        have HOW4 := hid HS4.out.own.lt
        have HSZ4 : Hid (w.heap.size ≤ w4.heap.size) := HS4.out.bel.size
        clear kc4 o5 g5 hvs5
        obtain ⟨ob, HOB⟩ : ∃ ob, Hid (Obj.cells #[.slice (some ⟨w3.heap.size, 0, none⟩) kn kc, .slice a5 vn c5, .bool false] 44 = ob) := ⟨_, rfl⟩
        have HKU : Hid ((ofU x).length = kn) := by rw [← HKN.out]; exact ofU_length x
        have HVU : Hid (v.length = vn) := hvl
        have HO6 := hid (HS5.out.own.alloc ob)
        have HNW : Hid (∀ j u, (sdc ⟨some ⟨w3.heap.size, 0, none⟩, kc, a5, c5, ⟨ofU x, v, false⟩⟩)[j]? = some u → (w5.alloc ob).cell? ⟨w5.heap.size, j, none⟩ = some u) := fun j u hj => by
          rw [cell_of_row (w5.alloc ob) w5.heap.size j _ 44 (0, 0) ((heap_alloc_new w5 ob).trans (by rw [← HOB.out]))]
          simp only [sdc, HKU.out, HVU.out] at hj
          simpa using hj
        have HRG6 := hid (HRG5.out.alloc ob)
        have HBZ : Hid (w.heap.size ≤ (w5.alloc ob).heap.size) := by have := HS5.out.bel.size; show _ ≤ _; simp; omega
        have HDL : Hid (ds.length ≤ 1000000000) := by have := HC.out; show _ ≤ _; omega
        rw [← HOB.out] at HO6 HNW HRG6 HBZ
        go_wp2_with (first | (at_builtin; refine wpList_appSet rfl _ _ rfl w.heap.size u3 ds rfl (by exact HO6.out) w5.heap.size ⟨some ⟨w3.heap.size, 0, none⟩, kc, a5, c5, ⟨ofU x, v, false⟩⟩ rfl (by exact HNW.out) HDL.out HBZ.out ?_; intro v7 w7 o7 g7 l7; have HO7 := hid o7; have HG7 := hid g7; have HL7 := hid l7; clear o7 g7 l7 HNW) | fail)
        have hown6 : ∀ q, u3.ownBlock = some q → w.heap.size ≤ q := fun q e => (HO6.out.lt q e).1
        have HR7 := hid (HRG6.out.kept HG7.out (by have := HD.out.lt; intro e; have := hown6 b1 e.symm; omega) (fun e => own_ne_iter HO6.out HRG6.out e.symm))
        have HSD : Hid (SV w5 (fun x => w.heap.size ≤ x ∧ u3.ownBlock ≠ some x) ⟨some ⟨w3.heap.size, 0, none⟩, kc, a5, c5, ⟨ofU x, v, false⟩⟩) := by
          refine ⟨?_, ?_⟩
          · show Vs w5 _ _ (ofU x).length kc (ofU x)
            rw [HKU.out]
            refine HVK5.out.wide fun y _ e => ⟨by have := HSZ3.out; omega, fun f => ?_⟩
            have := (HOW3.out y f).2
            omega
          · show Vs w5 _ _ v.length c5 v
            rw [HVU.out]
            refine HVV5.out.wide fun y _ e => ⟨by have := HSZ4.out; omega, fun f => ?_⟩
            have := (HOW4.out y f).2
            omega
        go_roundw
        case rel =>
          refine ⟨ds ++ [⟨some ⟨w3.heap.size, 0, none⟩, kc, a5, c5, ⟨ofU x, v, false⟩⟩], _, cnt2, HR7, by rw [List.map_append]; exact HG3, ?_, HS5.out.app HSD.out HO7.out HG7.out HL7.out⟩
          have := HC.out
          have := HLT.out
          show _ ≤ _
          rw [List.length_append, List.length_singleton]
          omega
        case measure =>
          rw [HR7.out.left_eq, HLE.out]
          exact HLT.out
end Go.Proofs.YteeapmcpbmjpmaaGreat
