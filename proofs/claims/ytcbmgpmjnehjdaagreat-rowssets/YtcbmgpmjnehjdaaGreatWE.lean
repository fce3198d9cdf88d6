import Derived.Test.YtcbmgpmjnehjdaaGreatWC
namespace Go.Proofs.YtcbmgpmjnehjdaaGreat
set_option maxRecDepth 100000
open Go.RowKit Go.Maps
set_option linter.unusedVariables false

/-- Sets that are gathered since w. -/
structure Sw (V : Nat → Prop) (w wr : World) (v : Value) (ds : List SD) : Prop where
  own : wr.ownsRow w.heap.size 99 3 v ds.length (sds ds)
  sv : ∀ d ∈ ds, SV wr (fun x => (V x ∨ w.heap.size ≤ x) ∧ v.ownBlock ≠ some x) d
  bel : Below w.heap.size w wr
theorem Sw.below {V : Nat → Prop} {w wr w2 : World} {v : Value} {ds : List SD} (h : Sw V w wr v ds) (hb : Below wr.heap.size wr w2) : Sw V w w2 v ds := ⟨own_bel h.own hb, fun d hd => (h.sv d hd).below hb, bel_bel h.bel h.bel.size hb⟩
theorem Sw.iter {V : Nat → Prop} {w wr w2 : World} {v : Value} {ds : List SD} {b r n cnt : Nat} {D : DataW Value} {left : Lit → Bool} (h : Sw V w wr v ds) (hr : wr.ranges Tryz.prog 9 RV b r n D left cnt) (hg : wr.grownBy w2 (some r)) (hrw : w.heap.size ≤ r) : Sw V w w2 v ds :=
  ⟨h.own.kept hg (.inr (own_ne_iter h.own hr)), fun d hd => by
    have h := h.sv d hd
    exact ⟨⟨h.1.bs.same_block fun ad e hn => hg.block _ (h.1.bs.at_block e hn).1 (by have := iter_not_cells hr h.1.bs e hn; simpa using this), h.1.nc, h.1.cm, h.1.nil, h.1.lies⟩,
      ⟨h.2.bs.same_block fun ad e hn => hg.block _ (h.2.bs.at_block e hn).1 (by have := iter_not_cells hr h.2.bs e hn; simpa using this), h.2.nc, h.2.cm, h.2.nil, h.2.lies⟩⟩,
    h.bel.grown hg h.bel.size (fun q e => by obtain rfl := Option.some.inj e; exact hrw)⟩
theorem Sw.app {V : Nat → Prop} {w w3 w5 : World} {v v5 : Value} {ds : List SD} {d : SD} {o : Obj} (h : Sw V w w3 v ds) (hd : SV w3 (fun x => (V x ∨ w.heap.size ≤ x) ∧ v.ownBlock ≠ some x) d) (ho : w5.ownsRow w.heap.size 99 3 v5 (ds ++ [d]).length (sds (ds ++ [d]))) (hg : (w3.alloc o).grownBy w5 v.ownBlock) (hl : v5.ownBlock = v.ownBlock ∨ v5.ownBlock = some (w3.alloc o).heap.size) : Sw V w w5 v5 (ds ++ [d]) := by
  have hB := (Below.refl w3.heap.size w3).alloc (Nat.le_refl _) o
  have hown : ∀ q, v.ownBlock = some q → w.heap.size ≤ q := fun q e => (h.own.lt q e).1
  have hsa : (w3.alloc o).heap.size = w3.heap.size + 1 := by simp
  refine ⟨ho, ?_, (h.bel.alloc h.bel.size o).grown hg (by rw [hsa]; have := h.bel.size; omega) (fun q e => hown q e)⟩
  have hst : ∀ {d : SD}, SV w3 (fun x => (V x ∨ w.heap.size ≤ x) ∧ v.ownBlock ≠ some x) d → SV w5 (fun x => (V x ∨ w.heap.size ≤ x) ∧ v5.ownBlock ≠ some x) d := fun {d} h => by
    have ha := (h.below hB).step (w' := w5) (fun x hx hx' _ => hg.block x hx (fun e => hx'.2 e.symm))
    have hw : ∀ x, x < w3.heap.size → v.ownBlock ≠ some x → v5.ownBlock ≠ some x := fun x hx hn e => by
      rcases hl with h | h
      · exact hn (by rw [← h]; exact e)
      · rw [h, hsa] at e
        have := Option.some.inj e
        omega
    exact ⟨⟨ha.1.bs, ha.1.nc, ha.1.cm, ha.1.nil, fun ad e hn => ⟨(ha.1.lies ad e hn).1, hw _ (h.1.bs.at_block e hn).1 (ha.1.lies ad e hn).2⟩⟩, ⟨ha.2.bs, ha.2.nc, ha.2.cm, ha.2.nil, fun ad e hn => ⟨(ha.2.lies ad e hn).1, hw _ (h.2.bs.at_block e hn).1 (ha.2.lies ad e hn).2⟩⟩⟩
  intro d' hd'
  rcases List.mem_append.1 hd' with hd' | hd'
  · exact hst (h.sv d' hd')
  · rw [List.mem_singleton] at hd'
    subst hd'
    exact hst hd
set_option maxHeartbeats 2000000 in
/-- The landed unlike. -/
theorem unlike_ (b1 b2 : Nat) (V : Nat → Prop) (I W : Tab) (w : World) (hI : Mp w b1 V I) (hW : Mp w b2 V W) (tI : Tok I) (tW : Tok W) (hIL : I.length ≤ 100000000) (hWL : W.length ≤ 100000000) :
    Calls Tryz.prog 42 #[.map (some b2), .map (some b1)] w fun e w' => ∃ a n c, e = .returned (.slice a n c) ∧ Sl w' (fun x => V x ∨ w.heap.size ≤ x) a n (chg W I) ∧ n ≤ c ∧ c ≤ maxLen ∧ (a = none → c = 0) ∧ Below w.heap.size w w' := by
  obtain ⟨D, hD, hDm⟩ := id hI
  have HD := hid hD
  have HDM := hid hDm
  have HI := hid hI
  have HW := hid hW
  have HG0 : Hid (Gs (fun _ => False) (T1 I W) (Maps.has D) []) := ⟨fun s => by
    constructor
    · intro h; simp at h
    · rintro (h | ⟨h1, h2⟩)
      · exact h.elim
      · rw [hDm.has s.k (T1_okb tI s h1), h1.2.1] at h2
        exact absurd h2 (by simp), List.Pairwise.nil⟩
  have HTI := hid tI
  have HTW := hid tW
  clear hI hW tI tW hD hDm
  go_enter Tryz.func42, Tryz.ntmps42
  go_wp2_with (first | (at_range; refine wpList_range_own _ rfl _ 48 rfl 9 52 law9 Tryz.underlying48 RV b1 _ D rfl HD.out ?_; intro w0 hrg0 hg0 hs0) | fail)
  go_frame
  have HR0 := hid hrg0
  have HB0 := hid (below_of_grown hg0)
  clear hrg0 hg0 hs0
  go_loopw [5] (fun v wr => ∃ (ds : List SD) (left : Lit → Bool) (cnt : Nat), Hid (wr.ranges Tryz.prog 9 RV b1 w.heap.size (Maps.size D) D left cnt) ∧ Hid (Gs (fun _ => False) (T1 I W) left (ds.map (·.s))) ∧ Hid (ds.length + cnt ≤ I.length) ∧ Hid (Sw V w wr v ds)) (fun _ wr => wr.rangeLeft b1 w.heap.size)
  case atStart => exact ⟨[], _, _, HR0, HG0, by show 0 + _ ≤ _; rw [HDM.out.size]; omega, ⟨World.ownsRow_nil _ _ _ _, fun d hd => by simp at hd, HB0.out⟩⟩
  case round =>
    obtain ⟨ds, left, cnt, HR, HG, HC, HS⟩ := hrel
    have HLE := hid HR.out.left_eq
    clear HR0 HG0 HB0
    go_wp2_with (first | (at_next; refine wpList_next_ranges _ rfl _ rfl 9 law9 RV encStr mkV (fun key kl hk => by obtain ⟨x, hx, _⟩ := Maps.keyOf_str Tryz.underlying9 hk; exact ⟨x, hx⟩) (fun v y hv => by obtain ⟨a, n, c, rfl, _⟩ := RV_inv hv; exact ⟨(a, n, c), rfl⟩) b1 w.heap.size _ D left cnt rfl HR.out ?_ ?_) | fail)
    · intro _ hl0
      have HL0 := hid hl0
      obtain ⟨E, hE, hEm⟩ := HW.out.below HS.out.bel
      have HE := hid hE
      have HEM := hid hEm
      have HGW : Hid (Gs (T1 I W) (T2 I W) (Maps.has E) (ds.map (·.s))) := ⟨fun s => by
        rw [HG.out.mem s, HL0.out]
        constructor
        · rintro (h | ⟨h1, _⟩)
          · exact h.elim
          · exact .inl h1
        · rintro (h | ⟨h1, h2⟩)
          · exact .inr ⟨h, rfl⟩
          · rw [hEm.has s.k (T2_okb HTW.out s h1), h1.2.2.1] at h2
            exact absurd h2 (by simp), HG.out.apart⟩
      have HDL : Hid (ds.length ≤ I.length) := by have := HC.out; show _ ≤ _; omega
      have hbs := HS.out.bel.size
      obtain ⟨r2, HR2⟩ : ∃ r2, Hid (wr.heap.size = r2) := ⟨_, rfl⟩
      have hr2 : w.heap.size ≤ r2 := by rw [← HR2.out]; exact hbs
      clear hl0 HLE HG HC HR hE hEm
      go_wp2_with (first | (at_range; refine wpList_range_own _ rfl _ 48 rfl 9 52 law9 Tryz.underlying48 RV b2 _ E rfl HE.out ?_; intro w0 hrg0 hg0 hs0) | fail)
      go_frame
      rw [HR2.out] at hrg0 ⊢
      have HR0 := hid hrg0
      have HS0 := hid (HS.out.below (below_of_grown hg0))
      have HBR := hid (below_of_grown hg0)
      clear hrg0 hg0 hs0 HS
      go_loopw [5] (fun v wr => ∃ (ds2 : List SD) (left : Lit → Bool) (cnt : Nat), Hid (wr.ranges Tryz.prog 9 RV b2 r2 (Maps.size E) E left cnt) ∧ Hid (Gs (T1 I W) (T2 I W) left (ds2.map (·.s))) ∧ Hid (ds2.length + cnt ≤ I.length + W.length) ∧ Hid (Sw V w wr v ds2)) (fun _ wr => wr.rangeLeft b2 r2)
      case atStart => exact ⟨ds, _, _, HR0, HGW, by have := HDL.out; show _ + _ ≤ _; rw [HEM.out.size]; omega, HS0⟩
      case round =>
        obtain ⟨ds2, left2, cnt, HR, HG, HC, HS⟩ := hrel
        have HLE := hid HR.out.left_eq
        clear HR0 HGW HS0
        go_wp2_with (first | (at_next; refine wpList_next_ranges _ rfl _ rfl 9 law9 RV encStr mkV (fun key kl hk => by obtain ⟨x, hx, _⟩ := Maps.keyOf_str Tryz.underlying9 hk; exact ⟨x, hx⟩) (fun v y hv => by obtain ⟨a, n, c, rfl, _⟩ := RV_inv hv; exact ⟨(a, n, c), rfl⟩) b2 r2 _ E left2 cnt rfl HR.out ?_ ?_) | fail)
        · intro _ hl0
          have HL2 := hid hl0
          have hdl : ds2.length ≤ 1000000000 := by have := HC.out; omega
          clear hl0 HLE
          by_cases hd0 : ds2 = []
          · subst hd0
            obtain ⟨al, cl, hu5, h1, h2, h3, h4⟩ := own_addr HS.out.own
            have HM0 : Hid ([] = chg W I) := HG.out.done HTW.out.srt HL2.out (List.Perm.refl _) List.Pairwise.nil
            have H1 := hid h1
            have H2 := hid h2
            have H3 := hid h3
            have HB := hid HS.out.bel
            simp only [List.length_nil] at hu5 H1
            subst hu5
            clear h1 h2 h3 h4 HS
            go_wp2_with fail
            refine (sortS_none al cl wr).mono ?_
            rintro e w5 ⟨rfl, hw⟩
            obtain rfl := hw.symm
            clear hw
            go_wp2_with fail
            go_ret
            have hsl : Sl wr (fun x => V x ∨ w.heap.size ≤ x) al 0 (chg W I) := ⟨by rw [← HM0.out]; rfl, .inl rfl⟩
            exact ⟨al, 0, cl, rfl, hsl, H1.out, H2.out, H3.out, HB.out⟩
          · have hdp : 0 < ds2.length := List.length_pos_iff.2 hd0
            obtain ⟨g, cap, cur, hu5, hbg, hgc, hnc, hcm, hcs, htk⟩ : ∃ g cap cur, u5 = .slice (some ⟨g, 0, none⟩) ds2.length cap ∧ w.heap.size ≤ g ∧ wr.heap[g]? = some (.cells cur 99 (0, 0)) ∧ ds2.length ≤ cap ∧ cap ≤ maxLen ∧ cur.size = cap * 3 ∧ cur.toList.take (ds2.length * 3) = sds ds2 := by
              rcases HS.out.own.2 with ⟨_, h0⟩ | h
              · omega
              · exact h
            have HV := hid HS.out.sv
            have HB := hid HS.out.bel
            subst hu5
            have hown : (Value.slice (some ⟨g, 0, none⟩) ds2.length cap).ownBlock = some g := rfl
            rw [hown] at HV
            have kcells : ∀ j u, (sds ds2)[j]? = some u → wr.cell? ⟨g, j, none⟩ = some u := fun j u hu => by
              rw [cell_of_row wr g j cur _ (0, 0) hgc]
              rw [← htk, List.getElem?_take] at hu
              split at hu
              · simpa using hu
              · cases hu
            have ks := sortS_ ds2 hdp hdl g cap cur wr hgc kcells (fun d hd => ⟨(HV.out d hd).1.bs, fun ad e hn f => ((HV.out d hd).1.lies ad e hn).2 (by rw [f])⟩)
            have HBG := hid hbg
            have HNC := hid hnc
            have HCM := hid hcm
            obtain ⟨n, HN⟩ : ∃ n, Hid (ds2.length = n) := ⟨_, rfl⟩
            rw [HN.out] at ks HNC
            rw [HN.out]
            clear kcells hcs htk hgc hown hdl hdp hd0 hbg hnc hcm HS
            go_wp2_with fail
            refine ks.mono ?_
            rintro e w5 ⟨rfl, ds', hp, hs, hc5, hcur5, g5⟩
            have HP := hid hp
            have HM1 : Hid (ds'.map (·.s) = chg W I) := HG.out.done HTW.out.srt HL2.out (hp.map _) (by rw [List.pairwise_map]; exact hs)
            have HC5 := hid hc5
            have HG5 := hid g5
            have HB5 : Hid (Below w.heap.size w w5) := HB.out.grown g5 HB.out.size (fun q e => by obtain rfl := Option.some.inj e; exact HBG.out)
            clear ks hp hs hc5 hcur5 g5
            go_wp2_with fail
            go_ret
            have hlen : (chg W I).length = n := by rw [← HM1.out, List.length_map, HP.out.length_eq, HN.out]
            have hsl : Sl w5 (fun x => V x ∨ w.heap.size ≤ x) (some ⟨g, 0, none⟩) n (chg W I) := by
              refine ⟨hlen, .inr ⟨g, 0, rfl, .inr HBG.out, fun i hi => ?_⟩⟩
              have hi' : i < ds'.length := by rw [HP.out.length_eq, HN.out]; exact hi
              have e : (chg W I).getD i default = ds'[i].s := by rw [← HM1.out]; simp [List.getD, hi']
              have hd := HV.out ds'[i] (HP.out.mem_iff.1 (List.getElem_mem hi'))
              have hd5 : SV w5 (fun x => (V x ∨ w.heap.size ≤ x) ∧ some g ≠ some x) ds'[i] := hd.step fun x hx hx' _ => HG5.out.block x hx (fun e => hx'.2 e.symm)
              have hd6 := hd5.wide (V' := fun x => V x ∨ w.heap.size ≤ x) (fun x _ h => h.1)
              rw [e, Nat.zero_add]
              exact ⟨ds'[i].ka, ds'[i].kc, ds'[i].va, ds'[i].vc, HC5.out _ _ (sds_get ds' i hi' 0 (by decide)), HC5.out _ _ (sds_get ds' i hi' 1 (by decide)), HC5.out _ _ (sds_get ds' i hi' 2 (by decide)), hd6.1, hd6.2⟩
            have hnil : (some (⟨g, 0, none⟩ : Addr)) = none → cap = 0 := fun e => by cases e
            exact ⟨_, n, cap, rfl, hsl, HNC.out, HCM.out, hnil, HB5.out⟩
        · intro x va vn vc kl yd yp w2 cnt2 hkey hlk hv hat hrg2 hlt hg2 hs2 hen
          obtain ⟨x', ex, rfl, hxl⟩ := Maps.keyOf_str Tryz.underlying9 hkey
          obtain rfl : x = x' := encStr_inj ex
          obtain ⟨v, HLV, HVS⟩ : ∃ v, Hid (look W (ofU x) = some v) ∧ Hid (Vs _ V va vn vc v) := entry_look HEM.out hv hat
          have HS2 := hid (HS.out.iter HR.out hg2 hr2)
          have HB2 := hid HS2.out.bel
          have HO2 := hid (HI.out.below HB2.out)
          have HRG2 := hid hrg2
          have HLT := hid hlt
          replace hen : (Instr.entry (.pointer (some ⟨r2, 0, none⟩))).run Tryz.prog w2 = .ok (.tuple #[encStr x, .slice va vn vc]) w2 := hen
          have HXL := hid hxl
          have HXU : Hid ((ofU x).length ≤ maxLen) := by rw [ofU_length]; exact hxl
          have HLK : Hid (left2 (litK (ofU x)) = true) := by rw [litK_ofU]; exact hlk
          have HKX : Hid (encStr x = .string (strOfNums (ofU x))) := by show _ = _; rw [str_ofU]
          clear hkey hv hat hrg2 hlt hs2 ex hlk hxl hg2
          obtain ⟨key, HKEY⟩ : ∃ key, Hid (encStr x = key) := ⟨_, rfl⟩
          rw [HKEY.out] at hen
          simp only [mkV]
          cases hq : (look I (ofU x)).isSome with
          | true =>
            have HQ := hid hq
            have HG3 := hid (HG.out.skip (T2_okb HTW.out) (ofU_okb x) (fun s hs e => by
              have h1 := hs.2.2.2
              rw [e] at h1
              rw [h1] at hq
              cases hq))
            rw [litK_ofU] at HG3
            clear hq
            go_wp2_with (first | (at_lookup; refine wp_look rfl _ _ rfl b1 V I rfl HO2.out (ofU x) (ofU_okb x) HXU.out (by rw [← HKX.out, HKEY.out]; rfl) ?_; intro q1 m1 d1 hvs; rw [HQ.out]; clear hvs) | fail)
            go_roundw
            case rel => exact ⟨ds2, _, cnt2, HRG2, HG3, by have := HC.out; have := HLT.out; show _ ≤ _; omega, HS2⟩
            case measure =>
              rw [HRG2.out.left_eq, HLE.out]
              exact HLT.out
          | false =>
            have HQ := hid hq
            have hI : look I (ofU x) = none := by
              cases e : look I (ofU x) with
              | none => rfl
              | some u => rw [e] at hq; cases hq
            have HG3 := hid (HG.out.add (T2_okb HTW.out) T2_one (fun s s' h h' => T12 s s' h h') (s0 := ⟨ofU x, [], true⟩) ⟨rfl, rfl, by rw [HLV.out]; rfl, hI⟩ HLK.out)
            simp only [litK_ofU] at HG3
            clear hq hI
            obtain ⟨w4, kc, hrun, hvk, hb4, hs4⟩ := run_toB w2 x HXL.out
            rw [ofU_length] at hvk
            obtain ⟨kn, HKN⟩ : ∃ kn, Hid (x.length = kn) := ⟨_, rfl⟩
            rw [HKN.out] at hrun hvk
            have hrun : (convert 9 52 (encStr x)).run Tryz.prog w2 = .ok (.slice (some ⟨w2.heap.size, 0, none⟩) kn kc) w4 := hrun
            rw [HKEY.out] at hrun
            have HS4 := hid (HS2.out.below hb4)
            have HRG4 := hid (HRG2.out.kept (grown_of_below hb4) (by simp) (by simp))
            have HVK := hid hvk
            have HSZ2 : Hid (w.heap.size ≤ w2.heap.size) := HS2.out.bel.size
            have HOW2 := hid HS2.out.own.lt
            clear hvk hb4 hs4
            obtain ⟨ob, HOB⟩ : ∃ ob, Hid (Obj.cells #[.slice (some ⟨w2.heap.size, 0, none⟩) kn kc, .slice none 0 0, .bool true] 99 = ob) := ⟨_, rfl⟩
            have HKU : Hid ((ofU x).length = kn) := by rw [← HKN.out]; exact ofU_length x
            have HO6 := hid (HS4.out.own.alloc ob)
            have HNW : Hid (∀ j u, (sdc ⟨some ⟨w2.heap.size, 0, none⟩, kc, none, 0, ⟨ofU x, [], true⟩⟩)[j]? = some u → (w4.alloc ob).cell? ⟨w4.heap.size, j, none⟩ = some u) := fun j u hj => by
              rw [cell_of_row (w4.alloc ob) w4.heap.size j _ 99 (0, 0) ((heap_alloc_new w4 ob).trans (by rw [← HOB.out]))]
              simp only [sdc, HKU.out] at hj
              simpa using hj
            have HRG6 := hid (HRG4.out.alloc ob)
            have HBZ : Hid (w.heap.size ≤ (w4.alloc ob).heap.size) := by have := HS4.out.bel.size; show _ ≤ _; simp; omega
            have HDL2 : Hid (ds2.length ≤ 1000000000) := by have := HC.out; show _ ≤ _; omega
            rw [← HOB.out] at HO6 HNW HRG6 HBZ
            go_wp2_with (first | (at_lookup; refine wp_look rfl _ _ rfl b1 V I rfl HO2.out (ofU x) (ofU_okb x) HXU.out (by rw [← HKX.out, HKEY.out]; rfl) ?_; intro q1 m1 d1 hvs; rw [HQ.out]; clear hvs) | (at_builtin; refine wpList_appSet rfl _ _ rfl w.heap.size u5 ds2 rfl (by exact HO6.out) w4.heap.size ⟨some ⟨w2.heap.size, 0, none⟩, kc, none, 0, ⟨ofU x, [], true⟩⟩ rfl (by exact HNW.out) HDL2.out HBZ.out ?_; intro v7 w7 o7 g7 l7; have HO7 := hid o7; have HG7 := hid g7; have HL7 := hid l7; clear o7 g7 l7 HNW) | fail)
            have hown6 : ∀ q, u5.ownBlock = some q → w.heap.size ≤ q := fun q e => (HO6.out.lt q e).1
            have HR7 := hid (HRG6.out.kept HG7.out (by have := HW.out.lt; intro e; have := hown6 b2 e.symm; omega) (fun e => own_ne_iter HO6.out HRG6.out e.symm))
            have HSD : Hid (SV w4 (fun x => (V x ∨ w.heap.size ≤ x) ∧ u5.ownBlock ≠ some x) ⟨some ⟨w2.heap.size, 0, none⟩, kc, none, 0, ⟨ofU x, [], true⟩⟩) := by
              refine ⟨?_, vs_none _ _⟩
              show Vs w4 _ _ (ofU x).length kc (ofU x)
              rw [HKU.out]
              refine HVK.out.wide fun y _ e => ⟨.inr (by have := HSZ2.out; omega), fun f => ?_⟩
              have := (HOW2.out y f).2
              omega
            go_roundw
            case rel =>
              refine ⟨ds2 ++ [⟨some ⟨w2.heap.size, 0, none⟩, kc, none, 0, ⟨ofU x, [], true⟩⟩], _, cnt2, HR7, by rw [List.map_append]; exact HG3, ?_, HS4.out.app HSD.out HO7.out HG7.out HL7.out⟩
              have := HC.out
              have := HLT.out
              show _ ≤ _
              rw [List.length_append, List.length_singleton]
              omega
            case measure =>
              rw [HR7.out.left_eq, HLE.out]
              exact HLT.out
    · intro x va vn vc kl yd yp w2 cnt2 hkey hlk hv hat hrg2 hlt hg2 hs2 hen
      obtain ⟨x', ex, rfl, hxl⟩ := Maps.keyOf_str Tryz.underlying9 hkey
      obtain rfl : x = x' := encStr_inj ex
      obtain ⟨v, HLV, HVS⟩ : ∃ v, Hid (look I (ofU x) = some v) ∧ Hid (Vs w V va vn vc v) := entry_look HDM.out hv hat
      have HS2 := hid (HS.out.iter HR.out hg2 (Nat.le_refl _))
      have HB2 := hid HS2.out.bel
      have HO2 := hid (HW.out.below HB2.out)
      have HV2 := hid (HVS.out.step fun x hx _ _ => HB2.out.block x hx)
      have HRG2 := hid hrg2
      have HLT := hid hlt
      replace hen : (Instr.entry (.pointer (some ⟨w.heap.size, 0, none⟩))).run Tryz.prog w2 = .ok (.tuple #[encStr x, .slice va vn vc]) w2 := hen
      have HXL := hid hxl
      have HXU : Hid ((ofU x).length ≤ maxLen) := by rw [ofU_length]; exact hxl
      have HLK : Hid (left (litK (ofU x)) = true) := by rw [litK_ofU]; exact hlk
      have HKX : Hid (encStr x = .string (strOfNums (ofU x))) := by show _ = _; rw [str_ofU]
      clear hkey hv hat hrg2 hlt hs2 ex hlk hxl hg2
      obtain ⟨key, HKEY⟩ : ∃ key, Hid (encStr x = key) := ⟨_, rfl⟩
      rw [HKEY.out] at hen
      simp only [mkV]
      have HADD : Hid (look W (ofU x) ≠ some v → Gs (fun _ => False) (T1 I W) (fun z => left z && !z.sameKey (litK (ofU x))) ((ds.map (·.s)) ++ [⟨ofU x, v, false⟩])) := fun hn => HG.out.add (T1_okb HTI.out) T1_one (fun _ _ h => h.elim) (s0 := ⟨ofU x, v, false⟩) ⟨rfl, HLV.out, hn⟩ HLK.out
      obtain ⟨w4, kc, hrun, hvk, hb4, hs4⟩ := run_toB w2 x HXL.out
      rw [ofU_length] at hvk
      obtain ⟨kn, HKN⟩ : ∃ kn, Hid (x.length = kn) := ⟨_, rfl⟩
      rw [HKN.out] at hrun hvk
      have hrun : (convert 9 52 (encStr x)).run Tryz.prog w2 = .ok (.slice (some ⟨w2.heap.size, 0, none⟩) kn kc) w4 := hrun
      rw [HKEY.out] at hrun
      have hvl : v.length = vn := HVS.out.bs.1
      have HS4 := hid (HS2.out.below hb4)
      have HRG4 := hid (HRG2.out.kept (grown_of_below hb4) (by simp) (by simp))
      have HVK := hid hvk
      have HV4 := hid (HV2.out.step fun x hx _ _ => hb4.block x hx)
      have HSZ2 : Hid (w.heap.size ≤ w2.heap.size) := HS2.out.bel.size
      have HOW2 := hid HS2.out.own.lt
      clear hvk hb4 hs4
      obtain ⟨ob, HOB⟩ : ∃ ob, Hid (Obj.cells #[.slice (some ⟨w2.heap.size, 0, none⟩) kn kc, .slice va vn vc, .bool false] 99 = ob) := ⟨_, rfl⟩
      have HKU : Hid ((ofU x).length = kn) := by rw [← HKN.out]; exact ofU_length x
      have HVU : Hid (v.length = vn) := hvl
      have HO6 := hid (HS4.out.own.alloc ob)
      have HNW : Hid (∀ j u, (sdc ⟨some ⟨w2.heap.size, 0, none⟩, kc, va, vc, ⟨ofU x, v, false⟩⟩)[j]? = some u → (w4.alloc ob).cell? ⟨w4.heap.size, j, none⟩ = some u) := fun j u hj => by
        rw [cell_of_row (w4.alloc ob) w4.heap.size j _ 99 (0, 0) ((heap_alloc_new w4 ob).trans (by rw [← HOB.out]))]
        simp only [sdc, HKU.out, HVU.out] at hj
        simpa using hj
      have HRG6 := hid (HRG4.out.alloc ob)
      have HBZ : Hid (w.heap.size ≤ (w4.alloc ob).heap.size) := by have := HS4.out.bel.size; show _ ≤ _; simp; omega
      have HDL : Hid (ds.length ≤ 1000000000) := by have := HC.out; show _ ≤ _; omega
      rw [← HOB.out] at HO6 HNW HRG6 HBZ
      have HSD : Hid (SV w4 (fun x => (V x ∨ w.heap.size ≤ x) ∧ u5.ownBlock ≠ some x) ⟨some ⟨w2.heap.size, 0, none⟩, kc, va, vc, ⟨ofU x, v, false⟩⟩) := by
        refine ⟨?_, ?_⟩
        · show Vs w4 _ _ (ofU x).length kc (ofU x)
          rw [HKU.out]
          refine HVK.out.wide fun y _ e => ⟨.inr (by have := HSZ2.out; omega), fun f => ?_⟩
          have := (HOW2.out y f).2
          omega
        · show Vs w4 _ _ v.length vc v
          rw [HVU.out]
          have h0 := (HVS.out.wide (V' := fun x => V x ∧ x < w.heap.size) fun y hy h => ⟨h, hy⟩).step fun x hx _ _ => HB2.out.block x hx
          refine (⟨HV4.out.bs, HV4.out.nc, HV4.out.cm, HV4.out.nil, h0.lies⟩ : Vs w4 (fun x => V x ∧ x < w.heap.size) va vn vc v).wide fun y _ h => ⟨.inl h.1, fun f => ?_⟩
          have := (HOW2.out y f).1
          have := h.2
          omega
      have HFIN : Hid (∀ (v7 : Value) (w7 : World), look W (ofU x) ≠ some v → w7.ownsRow w.heap.size 99 3 v7 (ds ++ [(⟨some ⟨w2.heap.size, 0, none⟩, kc, va, vc, ⟨ofU x, v, false⟩⟩ : SD)]).length (sds (ds ++ [(⟨some ⟨w2.heap.size, 0, none⟩, kc, va, vc, ⟨ofU x, v, false⟩⟩ : SD)])) → (w4.alloc (.cells #[.slice (some ⟨w2.heap.size, 0, none⟩) kn kc, .slice va vn vc, .bool false] 99)).grownBy w7 u5.ownBlock → (v7.ownBlock = u5.ownBlock ∨ v7.ownBlock = some (w4.alloc (.cells #[.slice (some ⟨w2.heap.size, 0, none⟩) kn kc, .slice va vn vc, .bool false] 99)).heap.size) → ∃ (ds' : List SD) (left' : Lit → Bool) (cnt' : Nat), Hid (w7.ranges Tryz.prog 9 RV b1 w.heap.size (Maps.size D) D left' cnt') ∧ Hid (Gs (fun _ => False) (T1 I W) left' (ds'.map (·.s))) ∧ Hid (ds'.length + cnt' ≤ I.length) ∧ Hid (Sw V w w7 v7 ds') ∧ cnt' = cnt2) := fun v7 w7 hn o7 g7 l7 => by
        have hown6 : ∀ q, u5.ownBlock = some q → w.heap.size ≤ q := fun q e => (HO6.out.lt q e).1
        have HR7 := HRG6.out.kept g7 (by have := HD.out.lt; intro e; have := hown6 b1 e.symm; omega) (fun e => own_ne_iter HO6.out HRG6.out e.symm)
        refine ⟨ds ++ [⟨some ⟨w2.heap.size, 0, none⟩, kc, va, vc, ⟨ofU x, v, false⟩⟩], _, cnt2, HR7, ?_, ?_, HS4.out.app HSD.out o7 g7 l7, rfl⟩
        · have h := HADD.out hn
          simp only [litK_ofU] at h
          show Gs _ _ _ _
          rw [List.map_append]
          exact h
        · have := HC.out
          have := HLT.out
          show _ ≤ _
          rw [List.length_append, List.length_singleton]
          omega
      cases hq : look W (ofU x) with
      | none =>
        have HQ1 : Hid ((look W (ofU x)).isSome = false) := by rw [hq]; rfl
        have HN1 : Hid (look W (ofU x) ≠ some v) := by rw [hq]; exact fun e => by cases e
        clear hq
        go_wp2_with (first | (at_lookup; refine wp_look rfl _ _ rfl b2 V W rfl HO2.out (ofU x) (ofU_okb x) HXU.out (by rw [← HKX.out, HKEY.out]; rfl) ?_; intro q1 m1 d1 hvs; rw [HQ1.out]; clear hvs) | (at_builtin; refine wpList_appSet rfl _ _ rfl w.heap.size u5 ds rfl (by exact HO6.out) w4.heap.size ⟨some ⟨w2.heap.size, 0, none⟩, kc, va, vc, ⟨ofU x, v, false⟩⟩ rfl (by exact HNW.out) HDL.out HBZ.out ?_; intro v7 w7 o7 g7 l7; have HO7 := hid (HFIN.out v7 w7 HN1.out o7 g7 l7); clear o7 g7 l7 HNW) | fail)
        obtain ⟨ds', left', cnt', r1, r2, r3, r4, rfl⟩ := HO7.out
        go_roundw
        case rel => exact ⟨ds', left', cnt', r1, r2, r3, r4⟩
        case measure =>
          rw [r1.out.left_eq, HLE.out]
          exact HLT.out
      | some u =>
        have HQ1 : Hid ((look W (ofU x)).isSome = true) := by rw [hq]; rfl
        have HQ2 : Hid ((look W (ofU x)).getD [] = u) := by rw [hq]; rfl
        by_cases huv : u = v
        · have HN1 : Hid (look W (ofU x) = some v) := by rw [hq, huv]; rfl
          have HE1 : Hid (sameB u v = true) := by rw [huv]; exact sameB_self v
          have HG3 := hid (HG.out.skip (T1_okb HTI.out) (ofU_okb x) (fun s hs e => by
            have h1 := hs.2.1
            rw [e, HLV.out] at h1
            exact hs.2.2 (by rw [e, HN1.out, Option.some.inj h1])))
          rw [litK_ofU] at HG3
          clear hq huv
          go_wp2_with (first | (at_lookup; refine wp_look rfl _ _ rfl b2 V W rfl HO2.out (ofU x) (ofU_okb x) HXU.out (by rw [← HKX.out, HKEY.out]; rfl) ?_; intro q1 m1 d1 hvs; rw [HQ1.out]; rw [HQ2.out] at hvs; have HVU2 := hid hvs.bs; clear hvs) | fail)
          have kb := beq_ q1 va m1 d1 vn vc u v w2 HVU2.out HV2.out.bs
          rw [HE1.out] at kb
          refine kb.mono ?_
          rintro e w3 ⟨rfl, hw⟩
          rw [hw]
          clear hw w3 kb
          go_wp2_with fail
          go_roundw
          case rel => exact ⟨ds, _, cnt2, HRG2, HG3, by have := HC.out; have := HLT.out; show _ ≤ _; omega, HS2⟩
          case measure =>
            rw [HRG2.out.left_eq, HLE.out]
            exact HLT.out
        · have HN1 : Hid (look W (ofU x) ≠ some v) := by rw [hq]; exact fun e => huv (Option.some.inj e)
          have HE1 : Hid (sameB u v = false) := decide_eq_false huv
          clear hq huv
          go_wp2_with (first | (at_lookup; refine wp_look rfl _ _ rfl b2 V W rfl HO2.out (ofU x) (ofU_okb x) HXU.out (by rw [← HKX.out, HKEY.out]; rfl) ?_; intro q1 m1 d1 hvs; rw [HQ1.out]; rw [HQ2.out] at hvs; have HVU2 := hid hvs.bs; clear hvs) | fail)
          have kb := beq_ q1 va m1 d1 vn vc u v w2 HVU2.out HV2.out.bs
          rw [HE1.out] at kb
          refine kb.mono ?_
          rintro e w3 ⟨rfl, hw⟩
          rw [hw]
          clear hw w3 kb
          go_wp2_with (first | (at_builtin; refine wpList_appSet rfl _ _ rfl w.heap.size u5 ds rfl (by exact HO6.out) w4.heap.size ⟨some ⟨w2.heap.size, 0, none⟩, kc, va, vc, ⟨ofU x, v, false⟩⟩ rfl (by exact HNW.out) HDL.out HBZ.out ?_; intro v7 w7 o7 g7 l7; have HO7 := hid (HFIN.out v7 w7 HN1.out o7 g7 l7); clear o7 g7 l7 HNW) | fail)
          obtain ⟨ds', left', cnt', r1, r2, r3, r4, rfl⟩ := HO7.out
          go_roundw
          case rel => exact ⟨ds', left', cnt', r1, r2, r3, r4⟩
          case measure =>
            rw [r1.out.left_eq, HLE.out]
            exact HLT.out
end Go.Proofs.YtcbmgpmjnehjdaaGreat
