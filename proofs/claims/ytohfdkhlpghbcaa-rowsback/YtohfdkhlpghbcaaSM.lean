import Derived.Test.YtohfdkhlpghbcaaSL
namespace Go.Proofs.Ytohfdkhlpghbcaa
set_option maxRecDepth 100000
open Go.RowKit
set_option linter.unusedVariables false

/-- The document's GetPeer on its way: the peer in its block G, its key beside it, its prefixes behind B. -/
structure Lk (W X : World) (G B : Nat) (K : Int) (a : Option Addr) (m c : Nat) (k : List Int) (pa : Option Addr) (n d : Nat) (ps : List Px) : Prop where
  pe : Pe X G K a m c pa n d
  bw : Bw W X
  vs : Vs X (fun x => W.heap.size ≤ x ∧ x ≠ G ∧ x < B) a m c k
  po : Po X B (.slice pa n d) ps
  ge : W.heap.size ≤ G
  gb : G < B
  bx : B ≤ X.heap.size
section
variable {W X X' : World} {G B : Nat} {K : Int} {a : Option Addr} {m c : Nat} {k : List Int} {pa : Option Addr} {n d : Nat} {ps : List Px}
theorem Lk.on (h : Lk W X G B K a m c k pa n d ps) (hb : Below X.heap.size X X') : Lk W X' G B K a m c k pa n d ps := ⟨h.pe.kept hb, Bw.on h.bw hb, h.vs.step fun x hx _ _ => hb.block x hx, h.po.bel hb, h.ge, h.gb, Nat.le_trans h.bx hb.size⟩
theorem Lk.pe5 {w5 : World} (h : Lk W X G B K a m c k pa n d ps) (hg : X.grownBy w5 (Value.slice pa n d).ownBlock) : Pe w5 G K a m c pa n d :=
  h.pe.at (hg.block _ h.pe.lt (fun e => by have := (h.po.own.lt _ e.symm).1; have := h.gb; omega))
theorem Lk.more {w5 : World} {pb : Option Addr} {n' d' : Nat} {ps' : List Px} (h : Lk W X G B K a m c k pa n d ps) (hg : X.grownBy w5 (Value.slice pa n d).ownBlock) (ho : Po w5 B (.slice pb n' d') ps') : Lk W (w5.setCell ⟨G, 2, none⟩ (.slice pb n' d')) G B K a m c k pb n' d' ps' := by
  have hbk : ∀ x, x < B → w5.heap[x]? = X.heap[x]? := fun x hx => hg.block x (by have := h.bx; omega) (fun e => by
    have := (h.po.own.lt x e.symm).1
    omega)
  have hset : ∀ x, x ≠ G → (w5.setCell ⟨G, 2, none⟩ (.slice pb n' d')).heap[x]? = w5.heap[x]? := fun x hx => Below.heap_setCell _ _ _ _ hx
  have gb := h.gb
  have ge := h.ge
  have sz5 := hg.size
  have bx := h.bx
  have hWB : W.heap.size ≤ B := by omega
  refine ⟨(h.pe5 hg).s2 pb n' d', ?_, h.vs.step fun x hx hv _ => (hset x hv.2.1).trans (hbk x hv.2.2), ⟨?_, ho.ok⟩, ge, gb, by simp [World.setCell]; omega⟩
  · have hB : Below W.heap.size X w5 := (Below.refl _ X).grown hg (by omega) (fun p hp => by have := (h.po.own.lt p hp).1; omega)
    exact Below.setCell (Below.trans h.bw hB) (p := ⟨G, 2, none⟩) ge _
  · refine ho.own.kept (set_by w5 G 2 (.slice pb n' d')) ?_
    rcases pb with _ | ad
    · exact .inl rfl
    · refine .inr fun e => ?_
      have := (ho.own.lt ad.block rfl).1
      simp [Value.ownBlock] at e
      omega
end
theorem bs_from {w : World} {a : Option Addr} {n c q : Nat} {zs : List Int} (h : Bs w a n zs) (hnc : n ≤ c) (hq : q ≤ n) : Bs w (if c = q then a else Option.map (fun x => x.add q) a) (n - q) (zs.drop q) := by
  have hl := h.1
  by_cases h0 : n - q = 0
  · exact ⟨by rw [List.length_drop]; omega, fun z hz => h.2.1 z (List.mem_of_mem_drop hz), .inl h0⟩
  · rw [if_neg (by omega)]
    rcases h.2.2 with e0 | ⟨b, off, rfl, hc⟩
    · omega
    · refine ⟨by rw [List.length_drop]; omega, fun z hz => h.2.1 z (List.mem_of_mem_drop hz), .inr ⟨b, off + q, by simp [Addr.add_lit], fun i hi => ?_⟩⟩
      have := hc (q + i) (by omega)
      rw [show off + q + i = off + (q + i) from by omega, this]
      simp only [List.getD, List.getElem?_drop]
set_option maxHeartbeats 40000000 in
/-- The document's GetPeer, of rows of the lengths that may be. -/
theorem rgetPeer1_ (ka : Option Addr) (vb vo : Nat) (kc vn vc : Nat) (k v : List Int) (w : World) (hk : Bs w ka 5 k) (hv : Bs w (some ⟨vb, vo, none⟩) vn v) (hkc : 5 ≤ kc) (hvc : vn ≤ vc) (h3 : kc ≤ maxLen) (h4 : vc ≤ maxLen) (h33 : 33 ≤ vn) (h2 : vn ≤ 140737488351232) (q : Bool) (hq : (q = true) ↔ Gp k v) :
    Calls Try.prog 13 #[.agg #[.slice ka 5 kc, .slice (some ⟨vb, vo, none⟩) vn vc]] w fun e w' => Gq w k v q e w' := by
  unfold maxLen at h3 h4
  have BA : Below w.heap.size w ((w.alloc (.cells #[.slice ka 5 kc, .slice (some ⟨vb, vo, none⟩) vn vc] 27)).alloc (.cells #[.int .i64 0, .slice none 0 0, .slice none 0 0] 25)) := (bel_al w _).alloc (by simp) _
  have m1 : ((w.alloc (.cells #[.slice ka 5 kc, .slice (some ⟨vb, vo, none⟩) vn vc] 27)).alloc (.cells #[.int .i64 0, .slice none 0 0, .slice none 0 0] 25)).heap[w.heap.size]? = some (.cells #[.slice ka 5 kc, .slice (some ⟨vb, vo, none⟩) vn vc] 27 (0, 0)) := (Below.heap_alloc _ _ _ (by simp)).trans (heap_alloc_new w _)
  have m2 := Pe.new (w.alloc (.cells #[.slice ka 5 kc, .slice (some ⟨vb, vo, none⟩) vn vc] 27)) 0 none 0 0 none 0 0
  rw [World.size_alloc] at m2
  have HBA := hid BA
  have HM1 := hid m1
  have HM2 := hid m2
  have HK := hid hk
  have HV := hid hv
  have HWS : Hid (((w.alloc (.cells #[.slice ka 5 kc, .slice (some ⟨vb, vo, none⟩) vn vc] 27)).alloc (.cells #[.int .i64 0, .slice none 0 0, .slice none 0 0] 25)).heap.size = w.heap.size + 2) := by show _ = _; simp
  have hlv := hv.1
  clear BA m1 m2 hk hv
  have y0 := (two_cell HM1.out).1
  have y1 := (two_cell HM1.out).2
  have hn5 : (33 : Int) ≤ vn := by omega
  have hc32 : (32 : Int) ≤ vc := by omega
  have hn32 : (32 : Int) ≤ vn := by omega
  have hc0 : ¬ vc = 0 := by omega
  have hc32' : 32 ≤ vc := by omega
  generalize HW : ((w.alloc (.cells #[.slice ka 5 kc, .slice (some ⟨vb, vo, none⟩) vn vc] 27)).alloc (.cells #[.int .i64 0, .slice none 0 0, .slice none 0 0] 25)) = W at *
  have HBK := hid (HK.out.below HBA.out)
  have HBV := hid (HV.out.below HBA.out)
  have k1 : ∀ wx, Bw W wx → Calls Try.prog 40 #[.slice ka 5 kc, .int .i64 1, .int .i64 4] wx fun e w' => e = .returned (.int .u64 (xK k)) ∧ Below wx.heap.size wx w' := fun wx h => (rread15_ ka 5 kc 1 4 k wx (HBK.out.below h) (by unfold maxLen; omega) (by omega) (by omega)).mono fun e w' h => ⟨h.1, by rw [h.2]; exact Below.refl _ _⟩
  have k2 : ∀ wx, Bw W wx → Calls Try.prog 32 #[.slice (some ⟨vb, vo, none⟩) 32 vc] wx fun e w' => ∃ z, e = .returned z ∧ w'.ownsRow wx.heap.size 5 1 z 32 (cells (v.take 32)) ∧ Below wx.heap.size wx w' := fun wx h => refBytes (some ⟨vb, vo, none⟩) 32 vc (v.take 32) wx ((HBV.out.cut (by omega)).below h) (by omega)
  have BW0 : Bw W { W with drawn := W.drawn + 1 } := Bw.drew W
  have BW1 : ∀ o, Bw W (({ W with drawn := W.drawn + 1 } : World).alloc o) := fun o => Bw.al BW0 o
  have hKb := rdN_bound HBK.out.2.1 1 4
  have HKO : Hid (Okb (v.take 32)) := fun z hz => HV.out.2.1 z (List.mem_of_mem_take hz)
  obtain ⟨K, hK⟩ : ∃ x, xK k = x := ⟨_, rfl⟩
  have hKb2 : 0 ≤ K ∧ K < 4294967296 := by rw [← hK]; unfold xK; omega
  have hwK : IntKind.i64.wrap K = K := wr64 hKb2
  have HPQ : Hid ((Pk K 32 (xP v) ∧ peK K = k ∧ peV (v.take 32) (xP v) = v) ↔ q = true) := by
    show _ ↔ _
    rw [hq, ← hK]
    exact ⟨fun h => ⟨HK.out.1, by omega, h⟩, fun h => h.2.2⟩
  rw [hK] at k1
  have HXK := hid hK
  clear hq hKb hK
  obtain ⟨cn, hcn⟩ : ∃ n : Nat, v.getD 32 0 = n := ⟨(v.getD 32 0).toNat, by have := getD_byte6 HV.out.2.1 32; omega⟩
  have hcb : cn ≤ 255 := by have := getD_byte6 HV.out.2.1 32; omega
  have HY32 : Hid (W.cell? ⟨vb, vo + 32, none⟩ = some (.int .u8 cn)) := by
    rcases HBV.out.2.2 with h0 | ⟨b, off, e, hc⟩
    · omega
    · simp only [Option.some.injEq, Addr.mk.injEq] at e
      obtain ⟨rfl, rfl, -⟩ := e
      show _ = _
      rw [← hcn]
      exact hc 32 (by omega)
  have HXP : Hid (xP v = cpl (v.drop 33) cn) := by show _ = _; unfold xP xn; rw [hcn]; rfl
  rw [HXP.out] at HPQ
  obtain ⟨R, HR⟩ : ∃ x, Hid (v.drop 33 = x) := ⟨_, rfl⟩
  rw [HR.out] at HPQ HXP
  have HRB : Hid (Okb R) := by rw [← HR.out]; exact fun z hz => HV.out.2.1 z (List.mem_of_mem_drop hz)
  have HRL : Hid (R.length = vn - 33) := by show _ = _; rw [← HR.out, List.length_drop, hlv]
  clear hcn
  go_enter Try.func13, Try.ntmps13
  go_wp2_with fail
  clear HW
  go_region_held (fun wx => wx.cell? ⟨w.heap.size, 0, none⟩ = some (.slice ka 5 kc) ∧ wx.cell? ⟨w.heap.size, 1, none⟩ = some (.slice (some ⟨vb, vo, none⟩) vn vc)) (go_keep) (first | (have hh := G1; clear hh; go_at_call 32; refine (k2 _ (by first | exact G1 | exact Bw.al G1 _)).mono ?_; rintro en w2 ⟨v2, rfl, o2, g2⟩; have G2 := Bw.on (by first | exact G1 | exact Bw.al G1 _) g2; have u4 := Bw.cell G2 y0; have u5 := Bw.cell G2 y1; obtain ⟨a2, c2, rfl, vs2⟩ := Vs.ofOwn o2 HKO.out; have HO2 := hid vs2; have HB2 := hid g2; have HNW : Hid (w.heap.size < W.heap.size ∧ w.heap.size < w1.heap.size ∧ w.heap.size < w2.heap.size) := (by have h0 := HWS.out; have h1 := Below.size G1; have h2 := Below.size G2; show _ ∧ _ ∧ _; omega); (first | (have L4 : Pe w2 w1.heap.size 0 none 0 0 none 0 0 := (Pe.new w1 0 none 0 0 none 0 0).kept g2; have z0 := L4.c0; have f0 := L4.fz 0; have z1 := L4.c1; have f1 := L4.fz 1; have z2 := L4.c2; have f2 := L4.fz 2; have hN := HNW.out; have e0 := (set3_cell (g := w1.heap.size) (p := ⟨w.heap.size, 0, none⟩) (by show w.heap.size ≠ w1.heap.size; omega) (.int .i64 K) (.slice a2 32 c2) (.slice none 0 0)).trans u4; have e1 := (set3_cell (g := w1.heap.size) (p := ⟨w.heap.size, 1, none⟩) (by show w.heap.size ≠ w1.heap.size; omega) (.int .i64 K) (.slice a2 32 c2) (.slice none 0 0)).trans u5; clear hN; have HL4 := hid L4; clear L4) | (have L4 : Pe w2 W.heap.size 0 none 0 0 none 0 0 := ((Pe.new { W with drawn := W.drawn + 1 } 0 none 0 0 none 0 0).kept HB1.out).kept g2; have z0 := L4.c0; have f0 := L4.fz 0; have z1 := L4.c1; have f1 := L4.fz 1; have z2 := L4.c2; have f2 := L4.fz 2; have hN := HNW.out; have e0 := (set3_cell (g := W.heap.size) (p := ⟨w.heap.size, 0, none⟩) (by show w.heap.size ≠ W.heap.size; omega) (.int .i64 K) (.slice a2 32 c2) (.slice none 0 0)).trans u4; have e1 := (set3_cell (g := W.heap.size) (p := ⟨w.heap.size, 1, none⟩) (by show w.heap.size ≠ W.heap.size; omega) (.int .i64 K) (.slice a2 32 c2) (.slice none 0 0)).trans u5; clear hN; have HL4 := hid L4; clear L4) | skip); clear vs2 o2 g2) | (go_at_call 40; refine (k1 _ (by first | exact BW0 | exact BW1 _)).mono ?_; rintro en w1 ⟨rfl, g1⟩; have G1 := Bw.on (by first | exact BW0 | exact BW1 _) g1; have u0 := Bw.cell G1 y0; have u1 := Bw.cell G1 y1; have HB1 := hid g1; clear g1))
  · have L : Lk W (w2.alloc (.cells #[.int .i64 K, .slice a2 32 c2, .slice none 0 0] 25)) w2.heap.size (w2.alloc (.cells #[.int .i64 K, .slice a2 32 c2, .slice none 0 0] 25)).heap.size K a2 32 c2 (v.take 32) none 0 0 (cpl R 0) := by
      refine ⟨Pe.new w2 K a2 32 c2 none 0 0, Bw.al G2 _, ?_, Po.nil _ _, Below.size G2, by simp, Nat.le_refl _⟩
      exact (HO2.out.wide (V' := fun x => W.heap.size ≤ x ∧ x ≠ w2.heap.size ∧ x < (w2.alloc (.cells #[.int .i64 K, .slice a2 32 c2, .slice none 0 0] 25)).heap.size) fun x hx h => ⟨by first | (have h1 := Below.size G1; omega) | (have h1 := Below.size G1; simp at h; omega), by omega, by simp; omega⟩).step fun x hx _ _ => Below.heap_alloc _ _ _ hx
    have HL0 := hid L
    generalize (w2.alloc (.cells #[.int .i64 K, .slice a2 32 c2, .slice none 0 0] 25)) = X at HL0 ⊢
    generalize w2.heap.size = G at HL0 ⊢
    clear L u0 u1 u4 u5 G1 G2 BW0 BW1 k1 k2 HO2 HB1 HB2 HNW HM1 HKO hwK
    obtain ⟨Bs0, HBs⟩ : ∃ x, Hid (X.heap.size = x) := ⟨_, rfl⟩
    rw [HBs.out] at HL0
    clear HBs
    go_wp2_with fail
    go_loopw [5, 6, 7, 8, 9] (fun p i _ _ _ wr => ∃ j : Nat, j ≤ cn ∧ i = .int .i64 j ∧ p = .int .i64 ((33 + cat R j : Nat) : Int) ∧ (∃ pa n d, Hid (Lk W wr G Bs0 K a2 32 c2 (v.take 32) pa n d (cpl R j)))) (fun _ i _ _ _ _ => cn - (intOf i).toNat)
    case atStart => exact ⟨0, by omega, rfl, rfl, none, 0, 0, HL0⟩
    case round =>
      clear HL0
      obtain ⟨j, hj, rfl, rfl, pa, n, d, HL⟩ := hrel
      have y2 := Bw.cell HL.out.bw y1
      have y3 := Bw.cell HL.out.bw HY32.out
      by_cases hlt : j < cn
      · have hjI : (j : Int) < cn := by omega
        have hca := cat_le R j
        have hqn := qN_in (crs R j)
        have hcl := crs_len R j
        have HCD : Hid (v.drop (33 + cat R j) = crs R j) := by show _ = _; rw [crs_drop, ← HR.out, List.drop_drop]
        have hal : 33 + cat R j ≤ vn := by have := HRL.out; omega
        have HBF := hid (bs_from (q := 33 + cat R j) (HBV.out.below HL.out.bw) hvc hal)
        rw [HCD.out] at HBF
        obtain ⟨oo, hoo⟩ : ∃ o : Nat, (if vc = 33 + cat R j then some (⟨vb, vo, none⟩ : Addr) else some ⟨vb, vo + (33 + cat R j), none⟩) = some ⟨vb, o, none⟩ := by
          by_cases h : vc = 33 + cat R j
          · exact ⟨vo, by rw [if_pos h]⟩
          · exact ⟨vo + (33 + cat R j), by rw [if_neg h]⟩
        have hmap : Option.map (fun x : Addr => x.add (33 + cat R j)) (some (⟨vb, vo, none⟩ : Addr)) = some ⟨vb, vo + (33 + cat R j), none⟩ := by simp [Addr.add_lit]
        rw [hmap, hoo] at HBF
        clear hmap
        have HCT : Hid (33 + cat R (j + 1) = 33 + cat R j + (qN (crs R j)).toNat) := by show _ = _; rw [cat]; omega
        have kg := rf7Get_ (some ⟨vb, oo, none⟩) (vn - (33 + cat R j)) (vc - (33 + cat R j)) (crs R j) wr HBF.out (by omega) (by unfold maxLen; omega)
        have HXE : Hid (qF (crs R j) = (gx (crs R j)).F ∧ qH (crs R j) = (gx (crs R j)).H ∧ qL (crs R j) = (gx (crs R j)).L ∧ qB (crs R j) = (gx (crs R j)).B) := ⟨rfl, rfl, rfl, rfl⟩
        rw [HXE.out.1, HXE.out.2.1, HXE.out.2.2.1, HXE.out.2.2.2] at kg
        have HXO : Hid ((gx (crs R j)).ok) := gx_ok (crs_byte HRB.out j)
        have HCS := hid (cpl_succ R j)
        have HCL : Hid ((cpl R j).length ≤ 1000000) := by show _ ≤ _; rw [cpl_length]; omega
        have HEE : Hid ((qE (crs R j) = 0 ∧ gk (crs R j) = true) ∨ (qE (crs R j) = 70 ∧ gk (crs R j) = false)) := by
          cases hg : gk (crs R j) with
          | true => exact .inl ⟨(q7_good hg).2.2.2.2.2, rfl⟩
          | false => exact .inr ⟨(q7_bad hg).2.2.2.2.2, rfl⟩
        obtain ⟨qq, hqq⟩ : ∃ q : Nat, qN (crs R j) = q := ⟨(qN (crs R j)).toNat, by omega⟩
        have hq18 : (qq : Int) ≤ 18 := by omega
        rw [hqq] at kg HCT
        rw [Int.toNat_natCast] at HCT
        obtain ⟨x, HX⟩ : ∃ x, Hid (gx (crs R j) = x) := ⟨_, rfl⟩
        rw [HX.out] at kg HXO HCS
        obtain ⟨xF, xH, xL, xB⟩ := x
        simp only at kg
        obtain ⟨qe, hqe⟩ : ∃ z, qE (crs R j) = z := ⟨_, rfl⟩
        rw [hqe] at kg HEE
        obtain ⟨pos, hpos⟩ : ∃ z : Nat, 33 + cat R j = z := ⟨_, rfl⟩
        rw [hpos] at kg HCT hal hoo ⊢
        obtain ⟨PS, HPS⟩ : ∃ L, Hid (cpl R j = L) := ⟨_, rfl⟩
        rw [HPS.out] at HL HCS HCL
        have halI : (pos : Int) ≤ vn := by omega
        have hvcI : (vn : Int) ≤ vc := by omega
        have hvmI : (vc : Int) ≤ 9223372036854775807 := by omega
        have hsumI : (pos : Int) + qq ≤ 140737488355328 := by omega
        clear hqq hqe hqn HXE hcl hca hpos HBF HCD
        go_wp2_with fail
        clear y2 y3
        refine kg.mono ?_
        rintro e t1 ⟨rfl, g1⟩
        have B1 := pnew t1 xF xH xL xB
        have HL1 := hid ((HL.out.on g1).on B1)
        have mm := Pm.new t1 xF xH xL xB
        have c0 := mm.c0
        have c1 := mm.c1
        have c2' := mm.c2
        have c3 := mm.c3
        have e2 := HL1.out.pe.c2
        clear kg g1 B1 mm HL
        rcases HEE.out with ⟨hqe, hgk⟩ | ⟨hqe, hgk⟩
        · subst hqe
          have HL2 := hid (HL1.out.on (pnew _ xF xH xL xB))
          have m2 := Pm.new (t1.alloc (.cells #[.int .i64 xF, .int .u64 xH, .int .u64 xL, .int .i64 xB] 74)) xF xH xL xB
          rw [World.size_alloc] at m2
          have HMM2 := hid m2
          clear m2 HEE hgk
          have HS2 : Hid (Bs0 ≤ ((t1.alloc (.cells #[.int .i64 xF, .int .u64 xH, .int .u64 xL, .int .i64 xB] 74)).alloc (.cells #[.int .i64 xF, .int .u64 xH, .int .u64 xL, .int .i64 xB] 74)).heap.size) := HL2.out.bx
          go_wp2_with (at_builtin; refine wpList_px rfl _ _ rfl Bs0 _ PS rfl (by exact HL2.out.po) (t1.heap.size + 1) ⟨xF, xH, xL, xB⟩ rfl (by exact HMM2.out) (by exact HXO.out) (by exact HCL.out) (by exact HS2.out) ?_; intro v5 w5 o5 g5; obtain ⟨pb, d5, rfl, pv5⟩ := o5.pv; have hpe := hid (HL2.out.more g5 o5); have z5 := (HL2.out.pe5 g5).c2; have f5 := (HL2.out.pe5 g5).fz 2; clear o5 g5 pv5)
          have hle : (PS ++ [(⟨xF, xH, xL, xB⟩ : Px)]).length = PS.length + 1 := by simp
          rw [hle] at hpe
          clear hle
          rw [← HCS.out] at hpe
          go_roundw
          case rel => exact ⟨j + 1, by omega, by go_num, by rw [HCT.out]; go_num, pb, _, d5, hpe⟩
          case measure => simp [intOf]; omega
        · subst hqe
          have HQF : Hid (q = false) := by
            show _ = _
            cases hqq : q with
            | false => rfl
            | true =>
              exfalso
              have h := (HPQ.out.2 hqq).1
              have hg := h.2.2.2.2
              rw [cpl_length] at hg
              have := Pg_all hg hlt
              rw [hgk] at this
              cases this
          have HZA := hid (HM2.out.kept HL1.out.bw)
          have HBXA := hid (bel_bel HBA.out HBA.out.size HL1.out.bw)
          clear HEE
          go_wp2_with (refine wpList_spe rfl rfl _ _ rfl (w.heap.size + 1) 0 none 0 0 none 0 0 rfl rfl (by with_reducible exact HZA.out) ?_)
          refine bodyPost_ret (v := .tuple #[.agg #[.int .i64 0, .slice none 0 0, .slice none 0 0], .int .i64 114]) ?_ rfl ?_
          · exact results_pe rfl _ _ (w.heap.size + 1) 0 none 0 0 none 0 0 _ rfl rfl (HZA.out.row 0 none 0 0 none 0 0)
          · rw [HQF.out]
            exact ⟨none, 0, none, 0, rfl, vs_none _ _, pv_none _ _, bel_row HBXA.out (Nat.le_succ _) _⟩
      · have hjI : ¬ (j : Int) < cn := by omega
        obtain rfl : j = cn := by omega
        obtain ⟨pb, d5, hsl, pvv⟩ := HL.out.po.pv
        rw [cpl_length] at hsl pvv
        obtain ⟨rfl, rfl, rfl⟩ : pa = pb ∧ n = j ∧ d = d5 := by simpa using hsl
        have HPV := hid pvv
        clear hsl pvv
        obtain ⟨PS, HPS⟩ : ∃ L, Hid (cpl R n = L) := ⟨_, rfl⟩
        rw [HPS.out] at HL HPQ HPV
        obtain ⟨b1, hb1⟩ : ∃ b : Bool, (b = true) ↔ Pk K 32 PS := by
          by_cases h : Pk K 32 PS
          · exact ⟨true, ⟨fun _ => h, fun _ => rfl⟩⟩
          · exact ⟨false, ⟨fun e => (by cases e), fun e => absurd e h⟩⟩
        have kp := rputPeer_ K a2 pa 32 c2 n d (v.take 32) PS wr (by unfold InI; omega) HL.out.vs.bs HPV.out.ps (by unfold maxLen; omega) (Nat.le_trans HPV.out.nc HPV.out.cm) b1 hb1
        have HB1 := hid hb1
        clear hb1
        unfold Rp at kp
        obtain ⟨RK, HRK⟩ : ∃ x, Hid ((if b1 then peK K else []) = x) := ⟨_, rfl⟩
        obtain ⟨RV, HRV⟩ : ∃ x, Hid ((if b1 then peV (v.take 32) PS else []) = x) := ⟨_, rfl⟩
        obtain ⟨RE, HRE⟩ : ∃ x, Hid ((if b1 then (0 : Int) else 114) = x) := ⟨_, rfl⟩
        obtain ⟨pk, Hpk⟩ : ∃ x : Nat, Hid (RK.length = x) := ⟨_, rfl⟩
        obtain ⟨pv, Hpv⟩ : ∃ x : Nat, Hid (RV.length = x) := ⟨_, rfl⟩
        rw [HRK.out, HRV.out, HRE.out, Hpk.out, Hpv.out] at kp
        have d0 := HL.out.pe.c0
        have d1 := HL.out.pe.c1
        have d2 := HL.out.pe.c2
        go_wp2_with fail
        clear d0 d1 d2 y2 y3
        refine kp.mono ?_
        rintro e w9 ⟨pa9, pc, qa, qc, rfl, vk, vv, g9⟩
        have B9 := bel_al w9 (.cells #[.slice pa9 pk pc, .slice qa pv qc] 27)
        have m9 := heap_alloc_new w9 (.cells #[.slice pa9 pk pc, .slice qa pv qc] 27)
        have HL9 := hid ((HL.out.on g9).on B9)
        have HPV9 := hid ((HPV.out.on g9).on B9)
        have z0 := Bw.cell HL9.out.bw y0
        have z1 := Bw.cell HL9.out.bw y1
        have x0 := (two_cell m9).1
        have x1 := (two_cell m9).2
        have ks := sameRow_ pa9 qa ka (some ⟨vb, vo, none⟩) pk pc pv qc 5 kc vn vc RK RV k v _ (vk.bs.below B9) (vv.bs.below B9) (HBK.out.below HL9.out.bw) (HBV.out.below HL9.out.bw) (Nat.le_trans vk.nc vk.cm) (Nat.le_trans vv.nc vv.cm) (by unfold maxLen; omega) (by unfold maxLen; omega)
        obtain ⟨r, Hr⟩ : ∃ x, Hid ((sameB RK k && sameB RV v) = x) := ⟨_, rfl⟩
        rw [Hr.out] at ks
        clear vk vv g9 B9 m9 kp
        go_wp2_with fail
        clear z0 z1 x0 x1
        refine ks.mono ?_
        rintro e w10 ⟨rfl, g10⟩
        have HLT := hid (HL9.out.on g10)
        have HPVT := hid (HPV9.out.on g10)
        have HZ := hid (HM2.out.kept HLT.out.bw)
        have HBX9 := hid (bel_bel HBA.out HBA.out.size HLT.out.bw)
        clear ks g10 HL9 HPV9
        have e1 := HRE.out
        clear HRE
        have HQV : Hid (q = (b1 && r)) := by
          show _ = _
          cases b1 with
          | false =>
            cases hqq : q with
            | false => rfl
            | true => have := HB1.out.2 (HPQ.out.2 hqq).1; cases this
          | true =>
            have hRK : peK K = RK := HRK.out
            have hRV : peV (v.take 32) PS = RV := HRV.out
            cases hr : r with
            | true =>
              have h := Hr.out
              rw [hr, Bool.and_eq_true] at h
              exact HPQ.out.1 ⟨HB1.out.1 rfl, by rw [hRK]; exact of_decide_eq_true h.1, by rw [hRV]; exact of_decide_eq_true h.2⟩
            | false =>
              cases hqq : q with
              | false => rfl
              | true =>
                exfalso
                obtain ⟨-, h1, h2⟩ := HPQ.out.2 hqq
                have h := Hr.out
                rw [← hRK, ← hRV, h1, h2, sameB_self, sameB_self, hr] at h
                cases h
        cases b1
        · simp only [if_false, Bool.false_eq_true] at e1
          subst e1
          go_wp2_with (refine wpList_spe rfl rfl _ _ rfl (w.heap.size + 1) 0 none 0 0 none 0 0 rfl rfl (by with_reducible exact HZ.out) ?_)
          all_goals
            refine bodyPost_ret (v := .tuple #[.agg #[.int .i64 0, .slice none 0 0, .slice none 0 0], .int .i64 114]) ?_ rfl ?_
            · exact results_pe rfl _ _ (w.heap.size + 1) 0 none 0 0 none 0 0 _ rfl rfl (HZ.out.row 0 none 0 0 none 0 0)
            · have hy : q = false := HQV.out
              rw [hy]
              exact ⟨none, 0, none, 0, rfl, vs_none _ _, pv_none _ _, bel_row HBX9.out (Nat.le_succ _) _⟩
        · simp only [if_true] at e1
          subst e1
          cases r
          · go_wp2_with (refine wpList_spe rfl rfl _ _ rfl (w.heap.size + 1) 0 none 0 0 none 0 0 rfl rfl (by with_reducible exact HZ.out) ?_)
            refine bodyPost_ret (v := .tuple #[.agg #[.int .i64 0, .slice none 0 0, .slice none 0 0], .int .i64 114]) ?_ rfl ?_
            · exact results_pe rfl _ _ (w.heap.size + 1) 0 none 0 0 none 0 0 _ rfl rfl (HZ.out.row 0 none 0 0 none 0 0)
            · have hy : q = false := HQV.out
              rw [hy]
              exact ⟨none, 0, none, 0, rfl, vs_none _ _, pv_none _ _, bel_row HBX9.out (Nat.le_succ _) _⟩
          · have d0 := HLT.out.pe.c0
            have d1 := HLT.out.pe.c1
            have d2 := HLT.out.pe.c2
            go_wp2_with (refine wpList_spe rfl rfl _ _ rfl (w.heap.size + 1) K a2 32 c2 pa n d rfl rfl (by with_reducible exact HZ.out) ?_)
            have hy : q = true := HQV.out
            refine bodyPost_ret (v := .tuple #[.agg #[.int .i64 K, .slice a2 32 c2, .slice pa n d], .int .i64 0]) ?_ rfl ?_
            · exact results_pe rfl _ _ (w.heap.size + 1) K a2 32 c2 pa n d _ rfl rfl (HZ.out.row K a2 32 c2 pa n d)
            · have hl32 : (v.take 32).length = 32 := by rw [List.length_take]; omega
              have hln : PS.length = n := by rw [← HPS.out, cpl_length]
              unfold Gq
              rw [hy]
              simp only [if_true]
              rw [HXK.out, HXP.out, HPS.out, hl32, hln]
              have hgb := HLT.out.gb
              have hge := HLT.out.ge
              refine ⟨a2, c2, pa, d, rfl, ?_, ?_, bel_row HBX9.out (Nat.le_succ _) _⟩
              · exact (HLT.out.vs.step fun x _ hV _ => setRow_other _ _ _ _ (by have := HWS.out; omega)).wide fun x _ hx => by have := HWS.out; omega
              · exact (HPVT.out.step (fun x _ hV => setRow_other _ _ _ _ (by have := HWS.out; omega)) (by simp [World.setRow])).wide fun x _ hx => by have := HWS.out; omega
  · have L : Lk W (((w2.setCell ⟨w1.heap.size, 0, none⟩ (.int .i64 K)).setCell ⟨w1.heap.size, 1, none⟩ (.slice a2 32 c2)).setCell ⟨w1.heap.size, 2, none⟩ (.slice none 0 0)) w1.heap.size ((((w2.setCell ⟨w1.heap.size, 0, none⟩ (.int .i64 K)).setCell ⟨w1.heap.size, 1, none⟩ (.slice a2 32 c2)).setCell ⟨w1.heap.size, 2, none⟩ (.slice none 0 0))).heap.size K a2 32 c2 (v.take 32) none 0 0 (cpl R 0) := by
      refine ⟨three_set HL4.out, set3_bel G2 (Below.size G1) _ _ _, ?_, Po.nil _ _, (Below.size G1), by simp only [World.setCell, Array.size_modify]; exact (Nat.lt_of_lt_of_le (by simp) HB2.out.size), Nat.le_refl _⟩
      exact (HO2.out.wide (V' := fun x => W.heap.size ≤ x ∧ x ≠ w1.heap.size ∧ x < ((((w2.setCell ⟨w1.heap.size, 0, none⟩ (.int .i64 K)).setCell ⟨w1.heap.size, 1, none⟩ (.slice a2 32 c2)).setCell ⟨w1.heap.size, 2, none⟩ (.slice none 0 0))).heap.size) fun x hx h => (by have h1 := Below.size G1; simp at h; exact ⟨by omega, by omega, by simp [World.setCell]; omega⟩)).step fun x hx hV _ => three_other hV.2.1
    have HL0 := hid L
    generalize (((w2.setCell ⟨w1.heap.size, 0, none⟩ (.int .i64 K)).setCell ⟨w1.heap.size, 1, none⟩ (.slice a2 32 c2)).setCell ⟨w1.heap.size, 2, none⟩ (.slice none 0 0)) = X at HL0 ⊢
    generalize w1.heap.size = G at HL0 ⊢
    clear L HL4 e0 e1 z0 f0 z1 f1 z2 f2 u0 u1 u4 u5 G1 G2 BW0 BW1 k1 k2 HO2 HB1 HB2 HNW HM1 HKO hwK
    obtain ⟨Bs0, HBs⟩ : ∃ x, Hid (X.heap.size = x) := ⟨_, rfl⟩
    rw [HBs.out] at HL0
    clear HBs
    go_wp2_with fail
    go_loopw [5, 6, 7, 8, 9] (fun p i _ _ _ wr => ∃ j : Nat, j ≤ cn ∧ i = .int .i64 j ∧ p = .int .i64 ((33 + cat R j : Nat) : Int) ∧ (∃ pa n d, Hid (Lk W wr G Bs0 K a2 32 c2 (v.take 32) pa n d (cpl R j)))) (fun _ i _ _ _ _ => cn - (intOf i).toNat)
    case atStart => exact ⟨0, by omega, rfl, rfl, none, 0, 0, HL0⟩
    case round =>
      clear HL0
      obtain ⟨j, hj, rfl, rfl, pa, n, d, HL⟩ := hrel
      have y2 := Bw.cell HL.out.bw y1
      have y3 := Bw.cell HL.out.bw HY32.out
      by_cases hlt : j < cn
      · have hjI : (j : Int) < cn := by omega
        have hca := cat_le R j
        have hqn := qN_in (crs R j)
        have hcl := crs_len R j
        have HCD : Hid (v.drop (33 + cat R j) = crs R j) := by show _ = _; rw [crs_drop, ← HR.out, List.drop_drop]
        have hal : 33 + cat R j ≤ vn := by have := HRL.out; omega
        have HBF := hid (bs_from (q := 33 + cat R j) (HBV.out.below HL.out.bw) hvc hal)
        rw [HCD.out] at HBF
        obtain ⟨oo, hoo⟩ : ∃ o : Nat, (if vc = 33 + cat R j then some (⟨vb, vo, none⟩ : Addr) else some ⟨vb, vo + (33 + cat R j), none⟩) = some ⟨vb, o, none⟩ := by
          by_cases h : vc = 33 + cat R j
          · exact ⟨vo, by rw [if_pos h]⟩
          · exact ⟨vo + (33 + cat R j), by rw [if_neg h]⟩
        have hmap : Option.map (fun x : Addr => x.add (33 + cat R j)) (some (⟨vb, vo, none⟩ : Addr)) = some ⟨vb, vo + (33 + cat R j), none⟩ := by simp [Addr.add_lit]
        rw [hmap, hoo] at HBF
        clear hmap
        have HCT : Hid (33 + cat R (j + 1) = 33 + cat R j + (qN (crs R j)).toNat) := by show _ = _; rw [cat]; omega
        have kg := rf7Get_ (some ⟨vb, oo, none⟩) (vn - (33 + cat R j)) (vc - (33 + cat R j)) (crs R j) wr HBF.out (by omega) (by unfold maxLen; omega)
        have HXE : Hid (qF (crs R j) = (gx (crs R j)).F ∧ qH (crs R j) = (gx (crs R j)).H ∧ qL (crs R j) = (gx (crs R j)).L ∧ qB (crs R j) = (gx (crs R j)).B) := ⟨rfl, rfl, rfl, rfl⟩
        rw [HXE.out.1, HXE.out.2.1, HXE.out.2.2.1, HXE.out.2.2.2] at kg
        have HXO : Hid ((gx (crs R j)).ok) := gx_ok (crs_byte HRB.out j)
        have HCS := hid (cpl_succ R j)
        have HCL : Hid ((cpl R j).length ≤ 1000000) := by show _ ≤ _; rw [cpl_length]; omega
        have HEE : Hid ((qE (crs R j) = 0 ∧ gk (crs R j) = true) ∨ (qE (crs R j) = 70 ∧ gk (crs R j) = false)) := by
          cases hg : gk (crs R j) with
          | true => exact .inl ⟨(q7_good hg).2.2.2.2.2, rfl⟩
          | false => exact .inr ⟨(q7_bad hg).2.2.2.2.2, rfl⟩
        obtain ⟨qq, hqq⟩ : ∃ q : Nat, qN (crs R j) = q := ⟨(qN (crs R j)).toNat, by omega⟩
        have hq18 : (qq : Int) ≤ 18 := by omega
        rw [hqq] at kg HCT
        rw [Int.toNat_natCast] at HCT
        obtain ⟨x, HX⟩ : ∃ x, Hid (gx (crs R j) = x) := ⟨_, rfl⟩
        rw [HX.out] at kg HXO HCS
        obtain ⟨xF, xH, xL, xB⟩ := x
        simp only at kg
        obtain ⟨qe, hqe⟩ : ∃ z, qE (crs R j) = z := ⟨_, rfl⟩
        rw [hqe] at kg HEE
        obtain ⟨pos, hpos⟩ : ∃ z : Nat, 33 + cat R j = z := ⟨_, rfl⟩
        rw [hpos] at kg HCT hal hoo ⊢
        obtain ⟨PS, HPS⟩ : ∃ L, Hid (cpl R j = L) := ⟨_, rfl⟩
        rw [HPS.out] at HL HCS HCL
        have halI : (pos : Int) ≤ vn := by omega
        have hvcI : (vn : Int) ≤ vc := by omega
        have hvmI : (vc : Int) ≤ 9223372036854775807 := by omega
        have hsumI : (pos : Int) + qq ≤ 140737488355328 := by omega
        clear hqq hqe hqn HXE hcl hca hpos HBF HCD
        go_wp2_with fail
        clear y2 y3
        refine kg.mono ?_
        rintro e t1 ⟨rfl, g1⟩
        have B1 := pnew t1 xF xH xL xB
        have HL1 := hid ((HL.out.on g1).on B1)
        have mm := Pm.new t1 xF xH xL xB
        have c0 := mm.c0
        have c1 := mm.c1
        have c2' := mm.c2
        have c3 := mm.c3
        have e2 := HL1.out.pe.c2
        clear kg g1 B1 mm HL
        rcases HEE.out with ⟨hqe, hgk⟩ | ⟨hqe, hgk⟩
        · subst hqe
          have HL2 := hid (HL1.out.on (pnew _ xF xH xL xB))
          have m2 := Pm.new (t1.alloc (.cells #[.int .i64 xF, .int .u64 xH, .int .u64 xL, .int .i64 xB] 74)) xF xH xL xB
          rw [World.size_alloc] at m2
          have HMM2 := hid m2
          clear m2 HEE hgk
          have HS2 : Hid (Bs0 ≤ ((t1.alloc (.cells #[.int .i64 xF, .int .u64 xH, .int .u64 xL, .int .i64 xB] 74)).alloc (.cells #[.int .i64 xF, .int .u64 xH, .int .u64 xL, .int .i64 xB] 74)).heap.size) := HL2.out.bx
          go_wp2_with (at_builtin; refine wpList_px rfl _ _ rfl Bs0 _ PS rfl (by exact HL2.out.po) (t1.heap.size + 1) ⟨xF, xH, xL, xB⟩ rfl (by exact HMM2.out) (by exact HXO.out) (by exact HCL.out) (by exact HS2.out) ?_; intro v5 w5 o5 g5; obtain ⟨pb, d5, rfl, pv5⟩ := o5.pv; have hpe := hid (HL2.out.more g5 o5); have z5 := (HL2.out.pe5 g5).c2; have f5 := (HL2.out.pe5 g5).fz 2; clear o5 g5 pv5)
          have hle : (PS ++ [(⟨xF, xH, xL, xB⟩ : Px)]).length = PS.length + 1 := by simp
          rw [hle] at hpe
          clear hle
          rw [← HCS.out] at hpe
          go_roundw
          case rel => exact ⟨j + 1, by omega, by go_num, by rw [HCT.out]; go_num, pb, _, d5, hpe⟩
          case measure => simp [intOf]; omega
        · subst hqe
          have HQF : Hid (q = false) := by
            show _ = _
            cases hqq : q with
            | false => rfl
            | true =>
              exfalso
              have h := (HPQ.out.2 hqq).1
              have hg := h.2.2.2.2
              rw [cpl_length] at hg
              have := Pg_all hg hlt
              rw [hgk] at this
              cases this
          have HZA := hid (HM2.out.kept HL1.out.bw)
          have HBXA := hid (bel_bel HBA.out HBA.out.size HL1.out.bw)
          clear HEE
          go_wp2_with (refine wpList_spe rfl rfl _ _ rfl (w.heap.size + 1) 0 none 0 0 none 0 0 rfl rfl (by with_reducible exact HZA.out) ?_)
          refine bodyPost_ret (v := .tuple #[.agg #[.int .i64 0, .slice none 0 0, .slice none 0 0], .int .i64 114]) ?_ rfl ?_
          · exact results_pe rfl _ _ (w.heap.size + 1) 0 none 0 0 none 0 0 _ rfl rfl (HZA.out.row 0 none 0 0 none 0 0)
          · rw [HQF.out]
            exact ⟨none, 0, none, 0, rfl, vs_none _ _, pv_none _ _, bel_row HBXA.out (Nat.le_succ _) _⟩
      · have hjI : ¬ (j : Int) < cn := by omega
        obtain rfl : j = cn := by omega
        obtain ⟨pb, d5, hsl, pvv⟩ := HL.out.po.pv
        rw [cpl_length] at hsl pvv
        obtain ⟨rfl, rfl, rfl⟩ : pa = pb ∧ n = j ∧ d = d5 := by simpa using hsl
        have HPV := hid pvv
        clear hsl pvv
        obtain ⟨PS, HPS⟩ : ∃ L, Hid (cpl R n = L) := ⟨_, rfl⟩
        rw [HPS.out] at HL HPQ HPV
        obtain ⟨b1, hb1⟩ : ∃ b : Bool, (b = true) ↔ Pk K 32 PS := by
          by_cases h : Pk K 32 PS
          · exact ⟨true, ⟨fun _ => h, fun _ => rfl⟩⟩
          · exact ⟨false, ⟨fun e => (by cases e), fun e => absurd e h⟩⟩
        have kp := rputPeer_ K a2 pa 32 c2 n d (v.take 32) PS wr (by unfold InI; omega) HL.out.vs.bs HPV.out.ps (by unfold maxLen; omega) (Nat.le_trans HPV.out.nc HPV.out.cm) b1 hb1
        have HB1 := hid hb1
        clear hb1
        unfold Rp at kp
        obtain ⟨RK, HRK⟩ : ∃ x, Hid ((if b1 then peK K else []) = x) := ⟨_, rfl⟩
        obtain ⟨RV, HRV⟩ : ∃ x, Hid ((if b1 then peV (v.take 32) PS else []) = x) := ⟨_, rfl⟩
        obtain ⟨RE, HRE⟩ : ∃ x, Hid ((if b1 then (0 : Int) else 114) = x) := ⟨_, rfl⟩
        obtain ⟨pk, Hpk⟩ : ∃ x : Nat, Hid (RK.length = x) := ⟨_, rfl⟩
        obtain ⟨pv, Hpv⟩ : ∃ x : Nat, Hid (RV.length = x) := ⟨_, rfl⟩
        rw [HRK.out, HRV.out, HRE.out, Hpk.out, Hpv.out] at kp
        have d0 := HL.out.pe.c0
        have d1 := HL.out.pe.c1
        have d2 := HL.out.pe.c2
        go_wp2_with fail
        clear d0 d1 d2 y2 y3
        refine kp.mono ?_
        rintro e w9 ⟨pa9, pc, qa, qc, rfl, vk, vv, g9⟩
        have B9 := bel_al w9 (.cells #[.slice pa9 pk pc, .slice qa pv qc] 27)
        have m9 := heap_alloc_new w9 (.cells #[.slice pa9 pk pc, .slice qa pv qc] 27)
        have HL9 := hid ((HL.out.on g9).on B9)
        have HPV9 := hid ((HPV.out.on g9).on B9)
        have z0 := Bw.cell HL9.out.bw y0
        have z1 := Bw.cell HL9.out.bw y1
        have x0 := (two_cell m9).1
        have x1 := (two_cell m9).2
        have ks := sameRow_ pa9 qa ka (some ⟨vb, vo, none⟩) pk pc pv qc 5 kc vn vc RK RV k v _ (vk.bs.below B9) (vv.bs.below B9) (HBK.out.below HL9.out.bw) (HBV.out.below HL9.out.bw) (Nat.le_trans vk.nc vk.cm) (Nat.le_trans vv.nc vv.cm) (by unfold maxLen; omega) (by unfold maxLen; omega)
        obtain ⟨r, Hr⟩ : ∃ x, Hid ((sameB RK k && sameB RV v) = x) := ⟨_, rfl⟩
        rw [Hr.out] at ks
        clear vk vv g9 B9 m9 kp
        go_wp2_with fail
        clear z0 z1 x0 x1
        refine ks.mono ?_
        rintro e w10 ⟨rfl, g10⟩
        have HLT := hid (HL9.out.on g10)
        have HPVT := hid (HPV9.out.on g10)
        have HZ := hid (HM2.out.kept HLT.out.bw)
        have HBX9 := hid (bel_bel HBA.out HBA.out.size HLT.out.bw)
        clear ks g10 HL9 HPV9
        have e1 := HRE.out
        clear HRE
        have HQV : Hid (q = (b1 && r)) := by
          show _ = _
          cases b1 with
          | false =>
            cases hqq : q with
            | false => rfl
            | true => have := HB1.out.2 (HPQ.out.2 hqq).1; cases this
          | true =>
            have hRK : peK K = RK := HRK.out
            have hRV : peV (v.take 32) PS = RV := HRV.out
            cases hr : r with
            | true =>
              have h := Hr.out
              rw [hr, Bool.and_eq_true] at h
              exact HPQ.out.1 ⟨HB1.out.1 rfl, by rw [hRK]; exact of_decide_eq_true h.1, by rw [hRV]; exact of_decide_eq_true h.2⟩
            | false =>
              cases hqq : q with
              | false => rfl
              | true =>
                exfalso
                obtain ⟨-, h1, h2⟩ := HPQ.out.2 hqq
                have h := Hr.out
                rw [← hRK, ← hRV, h1, h2, sameB_self, sameB_self, hr] at h
                cases h
        cases b1
        · simp only [if_false, Bool.false_eq_true] at e1
          subst e1
          go_wp2_with (refine wpList_spe rfl rfl _ _ rfl (w.heap.size + 1) 0 none 0 0 none 0 0 rfl rfl (by with_reducible exact HZ.out) ?_)
          all_goals
            refine bodyPost_ret (v := .tuple #[.agg #[.int .i64 0, .slice none 0 0, .slice none 0 0], .int .i64 114]) ?_ rfl ?_
            · exact results_pe rfl _ _ (w.heap.size + 1) 0 none 0 0 none 0 0 _ rfl rfl (HZ.out.row 0 none 0 0 none 0 0)
            · have hy : q = false := HQV.out
              rw [hy]
              exact ⟨none, 0, none, 0, rfl, vs_none _ _, pv_none _ _, bel_row HBX9.out (Nat.le_succ _) _⟩
        · simp only [if_true] at e1
          subst e1
          cases r
          · go_wp2_with (refine wpList_spe rfl rfl _ _ rfl (w.heap.size + 1) 0 none 0 0 none 0 0 rfl rfl (by with_reducible exact HZ.out) ?_)
            refine bodyPost_ret (v := .tuple #[.agg #[.int .i64 0, .slice none 0 0, .slice none 0 0], .int .i64 114]) ?_ rfl ?_
            · exact results_pe rfl _ _ (w.heap.size + 1) 0 none 0 0 none 0 0 _ rfl rfl (HZ.out.row 0 none 0 0 none 0 0)
            · have hy : q = false := HQV.out
              rw [hy]
              exact ⟨none, 0, none, 0, rfl, vs_none _ _, pv_none _ _, bel_row HBX9.out (Nat.le_succ _) _⟩
          · have d0 := HLT.out.pe.c0
            have d1 := HLT.out.pe.c1
            have d2 := HLT.out.pe.c2
            go_wp2_with (refine wpList_spe rfl rfl _ _ rfl (w.heap.size + 1) K a2 32 c2 pa n d rfl rfl (by with_reducible exact HZ.out) ?_)
            have hy : q = true := HQV.out
            refine bodyPost_ret (v := .tuple #[.agg #[.int .i64 K, .slice a2 32 c2, .slice pa n d], .int .i64 0]) ?_ rfl ?_
            · exact results_pe rfl _ _ (w.heap.size + 1) K a2 32 c2 pa n d _ rfl rfl (HZ.out.row K a2 32 c2 pa n d)
            · have hl32 : (v.take 32).length = 32 := by rw [List.length_take]; omega
              have hln : PS.length = n := by rw [← HPS.out, cpl_length]
              unfold Gq
              rw [hy]
              simp only [if_true]
              rw [HXK.out, HXP.out, HPS.out, hl32, hln]
              have hgb := HLT.out.gb
              have hge := HLT.out.ge
              refine ⟨a2, c2, pa, d, rfl, ?_, ?_, bel_row HBX9.out (Nat.le_succ _) _⟩
              · exact (HLT.out.vs.step fun x _ hV _ => setRow_other _ _ _ _ (by have := HWS.out; omega)).wide fun x _ hx => by have := HWS.out; omega
              · exact (HPVT.out.step (fun x _ hV => setRow_other _ _ _ _ (by have := HWS.out; omega)) (by simp [World.setRow])).wide fun x _ hx => by have := HWS.out; omega
  · have L : Lk W (((w2.setCell ⟨W.heap.size, 0, none⟩ (.int .i64 K)).setCell ⟨W.heap.size, 1, none⟩ (.slice a2 32 c2)).setCell ⟨W.heap.size, 2, none⟩ (.slice none 0 0)) W.heap.size ((((w2.setCell ⟨W.heap.size, 0, none⟩ (.int .i64 K)).setCell ⟨W.heap.size, 1, none⟩ (.slice a2 32 c2)).setCell ⟨W.heap.size, 2, none⟩ (.slice none 0 0))).heap.size K a2 32 c2 (v.take 32) none 0 0 (cpl R 0) := by
      refine ⟨three_set HL4.out, set3_bel G2 (Nat.le_refl _) _ _ _, ?_, Po.nil _ _, (Nat.le_refl _), by simp only [World.setCell, Array.size_modify]; exact (Nat.lt_of_lt_of_le (by simp) (Nat.le_trans HB1.out.size HB2.out.size)), Nat.le_refl _⟩
      exact (HO2.out.wide (V' := fun x => W.heap.size ≤ x ∧ x ≠ W.heap.size ∧ x < ((((w2.setCell ⟨W.heap.size, 0, none⟩ (.int .i64 K)).setCell ⟨W.heap.size, 1, none⟩ (.slice a2 32 c2)).setCell ⟨W.heap.size, 2, none⟩ (.slice none 0 0))).heap.size) fun x hx h => (by have h1 := HB1.out.size; simp at h1; exact ⟨by omega, by omega, by simp [World.setCell]; omega⟩)).step fun x hx hV _ => three_other hV.2.1
    have HL0 := hid L
    generalize (((w2.setCell ⟨W.heap.size, 0, none⟩ (.int .i64 K)).setCell ⟨W.heap.size, 1, none⟩ (.slice a2 32 c2)).setCell ⟨W.heap.size, 2, none⟩ (.slice none 0 0)) = X at HL0 ⊢
    obtain ⟨G, HGe⟩ : ∃ G, Hid (W.heap.size = G) := ⟨_, rfl⟩
    replace HL0 : Hid (Lk W X G X.heap.size K a2 32 c2 (v.take 32) none 0 0 (cpl R 0)) := by rw [← HGe.out]; exact HL0
    rw [HGe.out]
    clear L HL4 e0 e1 z0 f0 z1 f1 z2 f2 u0 u1 u4 u5 G1 G2 BW0 BW1 k1 k2 HO2 HB1 HB2 HNW HM1 HKO hwK
    obtain ⟨Bs0, HBs⟩ : ∃ x, Hid (X.heap.size = x) := ⟨_, rfl⟩
    rw [HBs.out] at HL0
    clear HBs
    go_wp2_with fail
    go_loopw [5, 6, 7, 8, 9] (fun p i _ _ _ wr => ∃ j : Nat, j ≤ cn ∧ i = .int .i64 j ∧ p = .int .i64 ((33 + cat R j : Nat) : Int) ∧ (∃ pa n d, Hid (Lk W wr G Bs0 K a2 32 c2 (v.take 32) pa n d (cpl R j)))) (fun _ i _ _ _ _ => cn - (intOf i).toNat)
    case atStart => exact ⟨0, by omega, rfl, rfl, none, 0, 0, HL0⟩
    case round =>
      clear HL0
      obtain ⟨j, hj, rfl, rfl, pa, n, d, HL⟩ := hrel
      have y2 := Bw.cell HL.out.bw y1
      have y3 := Bw.cell HL.out.bw HY32.out
      by_cases hlt : j < cn
      · have hjI : (j : Int) < cn := by omega
        have hca := cat_le R j
        have hqn := qN_in (crs R j)
        have hcl := crs_len R j
        have HCD : Hid (v.drop (33 + cat R j) = crs R j) := by show _ = _; rw [crs_drop, ← HR.out, List.drop_drop]
        have hal : 33 + cat R j ≤ vn := by have := HRL.out; omega
        have HBF := hid (bs_from (q := 33 + cat R j) (HBV.out.below HL.out.bw) hvc hal)
        rw [HCD.out] at HBF
        obtain ⟨oo, hoo⟩ : ∃ o : Nat, (if vc = 33 + cat R j then some (⟨vb, vo, none⟩ : Addr) else some ⟨vb, vo + (33 + cat R j), none⟩) = some ⟨vb, o, none⟩ := by
          by_cases h : vc = 33 + cat R j
          · exact ⟨vo, by rw [if_pos h]⟩
          · exact ⟨vo + (33 + cat R j), by rw [if_neg h]⟩
        have hmap : Option.map (fun x : Addr => x.add (33 + cat R j)) (some (⟨vb, vo, none⟩ : Addr)) = some ⟨vb, vo + (33 + cat R j), none⟩ := by simp [Addr.add_lit]
        rw [hmap, hoo] at HBF
        clear hmap
        have HCT : Hid (33 + cat R (j + 1) = 33 + cat R j + (qN (crs R j)).toNat) := by show _ = _; rw [cat]; omega
        have kg := rf7Get_ (some ⟨vb, oo, none⟩) (vn - (33 + cat R j)) (vc - (33 + cat R j)) (crs R j) wr HBF.out (by omega) (by unfold maxLen; omega)
        have HXE : Hid (qF (crs R j) = (gx (crs R j)).F ∧ qH (crs R j) = (gx (crs R j)).H ∧ qL (crs R j) = (gx (crs R j)).L ∧ qB (crs R j) = (gx (crs R j)).B) := ⟨rfl, rfl, rfl, rfl⟩
        rw [HXE.out.1, HXE.out.2.1, HXE.out.2.2.1, HXE.out.2.2.2] at kg
        have HXO : Hid ((gx (crs R j)).ok) := gx_ok (crs_byte HRB.out j)
        have HCS := hid (cpl_succ R j)
        have HCL : Hid ((cpl R j).length ≤ 1000000) := by show _ ≤ _; rw [cpl_length]; omega
        have HEE : Hid ((qE (crs R j) = 0 ∧ gk (crs R j) = true) ∨ (qE (crs R j) = 70 ∧ gk (crs R j) = false)) := by
          cases hg : gk (crs R j) with
          | true => exact .inl ⟨(q7_good hg).2.2.2.2.2, rfl⟩
          | false => exact .inr ⟨(q7_bad hg).2.2.2.2.2, rfl⟩
        obtain ⟨qq, hqq⟩ : ∃ q : Nat, qN (crs R j) = q := ⟨(qN (crs R j)).toNat, by omega⟩
        have hq18 : (qq : Int) ≤ 18 := by omega
        rw [hqq] at kg HCT
        rw [Int.toNat_natCast] at HCT
        obtain ⟨x, HX⟩ : ∃ x, Hid (gx (crs R j) = x) := ⟨_, rfl⟩
        rw [HX.out] at kg HXO HCS
        obtain ⟨xF, xH, xL, xB⟩ := x
        simp only at kg
        obtain ⟨qe, hqe⟩ : ∃ z, qE (crs R j) = z := ⟨_, rfl⟩
        rw [hqe] at kg HEE
        obtain ⟨pos, hpos⟩ : ∃ z : Nat, 33 + cat R j = z := ⟨_, rfl⟩
        rw [hpos] at kg HCT hal hoo ⊢
        obtain ⟨PS, HPS⟩ : ∃ L, Hid (cpl R j = L) := ⟨_, rfl⟩
        rw [HPS.out] at HL HCS HCL
        have halI : (pos : Int) ≤ vn := by omega
        have hvcI : (vn : Int) ≤ vc := by omega
        have hvmI : (vc : Int) ≤ 9223372036854775807 := by omega
        have hsumI : (pos : Int) + qq ≤ 140737488355328 := by omega
        clear hqq hqe hqn HXE hcl hca hpos HBF HCD
        go_wp2_with fail
        clear y2 y3
        refine kg.mono ?_
        rintro e t1 ⟨rfl, g1⟩
        have B1 := pnew t1 xF xH xL xB
        have HL1 := hid ((HL.out.on g1).on B1)
        have mm := Pm.new t1 xF xH xL xB
        have c0 := mm.c0
        have c1 := mm.c1
        have c2' := mm.c2
        have c3 := mm.c3
        have e2 := HL1.out.pe.c2
        clear kg g1 B1 mm HL
        rcases HEE.out with ⟨hqe, hgk⟩ | ⟨hqe, hgk⟩
        · subst hqe
          have HL2 := hid (HL1.out.on (pnew _ xF xH xL xB))
          have m2 := Pm.new (t1.alloc (.cells #[.int .i64 xF, .int .u64 xH, .int .u64 xL, .int .i64 xB] 74)) xF xH xL xB
          rw [World.size_alloc] at m2
          have HMM2 := hid m2
          clear m2 HEE hgk
          have HS2 : Hid (Bs0 ≤ ((t1.alloc (.cells #[.int .i64 xF, .int .u64 xH, .int .u64 xL, .int .i64 xB] 74)).alloc (.cells #[.int .i64 xF, .int .u64 xH, .int .u64 xL, .int .i64 xB] 74)).heap.size) := HL2.out.bx
          go_wp2_with (at_builtin; refine wpList_px rfl _ _ rfl Bs0 _ PS rfl (by exact HL2.out.po) (t1.heap.size + 1) ⟨xF, xH, xL, xB⟩ rfl (by exact HMM2.out) (by exact HXO.out) (by exact HCL.out) (by exact HS2.out) ?_; intro v5 w5 o5 g5; obtain ⟨pb, d5, rfl, pv5⟩ := o5.pv; have hpe := hid (HL2.out.more g5 o5); have z5 := (HL2.out.pe5 g5).c2; have f5 := (HL2.out.pe5 g5).fz 2; clear o5 g5 pv5)
          have hle : (PS ++ [(⟨xF, xH, xL, xB⟩ : Px)]).length = PS.length + 1 := by simp
          rw [hle] at hpe
          clear hle
          rw [← HCS.out] at hpe
          go_roundw
          case rel => exact ⟨j + 1, by omega, by go_num, by rw [HCT.out]; go_num, pb, _, d5, hpe⟩
          case measure => simp [intOf]; omega
        · subst hqe
          have HQF : Hid (q = false) := by
            show _ = _
            cases hqq : q with
            | false => rfl
            | true =>
              exfalso
              have h := (HPQ.out.2 hqq).1
              have hg := h.2.2.2.2
              rw [cpl_length] at hg
              have := Pg_all hg hlt
              rw [hgk] at this
              cases this
          have HZA := hid (HM2.out.kept HL1.out.bw)
          have HBXA := hid (bel_bel HBA.out HBA.out.size HL1.out.bw)
          clear HEE
          go_wp2_with (refine wpList_spe rfl rfl _ _ rfl (w.heap.size + 1) 0 none 0 0 none 0 0 rfl rfl (by with_reducible exact HZA.out) ?_)
          refine bodyPost_ret (v := .tuple #[.agg #[.int .i64 0, .slice none 0 0, .slice none 0 0], .int .i64 114]) ?_ rfl ?_
          · exact results_pe rfl _ _ (w.heap.size + 1) 0 none 0 0 none 0 0 _ rfl rfl (HZA.out.row 0 none 0 0 none 0 0)
          · rw [HQF.out]
            exact ⟨none, 0, none, 0, rfl, vs_none _ _, pv_none _ _, bel_row HBXA.out (Nat.le_succ _) _⟩
      · have hjI : ¬ (j : Int) < cn := by omega
        obtain rfl : j = cn := by omega
        obtain ⟨pb, d5, hsl, pvv⟩ := HL.out.po.pv
        rw [cpl_length] at hsl pvv
        obtain ⟨rfl, rfl, rfl⟩ : pa = pb ∧ n = j ∧ d = d5 := by simpa using hsl
        have HPV := hid pvv
        clear hsl pvv
        obtain ⟨PS, HPS⟩ : ∃ L, Hid (cpl R n = L) := ⟨_, rfl⟩
        rw [HPS.out] at HL HPQ HPV
        obtain ⟨b1, hb1⟩ : ∃ b : Bool, (b = true) ↔ Pk K 32 PS := by
          by_cases h : Pk K 32 PS
          · exact ⟨true, ⟨fun _ => h, fun _ => rfl⟩⟩
          · exact ⟨false, ⟨fun e => (by cases e), fun e => absurd e h⟩⟩
        have kp := rputPeer_ K a2 pa 32 c2 n d (v.take 32) PS wr (by unfold InI; omega) HL.out.vs.bs HPV.out.ps (by unfold maxLen; omega) (Nat.le_trans HPV.out.nc HPV.out.cm) b1 hb1
        have HB1 := hid hb1
        clear hb1
        unfold Rp at kp
        obtain ⟨RK, HRK⟩ : ∃ x, Hid ((if b1 then peK K else []) = x) := ⟨_, rfl⟩
        obtain ⟨RV, HRV⟩ : ∃ x, Hid ((if b1 then peV (v.take 32) PS else []) = x) := ⟨_, rfl⟩
        obtain ⟨RE, HRE⟩ : ∃ x, Hid ((if b1 then (0 : Int) else 114) = x) := ⟨_, rfl⟩
        obtain ⟨pk, Hpk⟩ : ∃ x : Nat, Hid (RK.length = x) := ⟨_, rfl⟩
        obtain ⟨pv, Hpv⟩ : ∃ x : Nat, Hid (RV.length = x) := ⟨_, rfl⟩
        rw [HRK.out, HRV.out, HRE.out, Hpk.out, Hpv.out] at kp
        have d0 := HL.out.pe.c0
        have d1 := HL.out.pe.c1
        have d2 := HL.out.pe.c2
        go_wp2_with fail
        clear d0 d1 d2 y2 y3
        refine kp.mono ?_
        rintro e w9 ⟨pa9, pc, qa, qc, rfl, vk, vv, g9⟩
        have B9 := bel_al w9 (.cells #[.slice pa9 pk pc, .slice qa pv qc] 27)
        have m9 := heap_alloc_new w9 (.cells #[.slice pa9 pk pc, .slice qa pv qc] 27)
        have HL9 := hid ((HL.out.on g9).on B9)
        have HPV9 := hid ((HPV.out.on g9).on B9)
        have z0 := Bw.cell HL9.out.bw y0
        have z1 := Bw.cell HL9.out.bw y1
        have x0 := (two_cell m9).1
        have x1 := (two_cell m9).2
        have ks := sameRow_ pa9 qa ka (some ⟨vb, vo, none⟩) pk pc pv qc 5 kc vn vc RK RV k v _ (vk.bs.below B9) (vv.bs.below B9) (HBK.out.below HL9.out.bw) (HBV.out.below HL9.out.bw) (Nat.le_trans vk.nc vk.cm) (Nat.le_trans vv.nc vv.cm) (by unfold maxLen; omega) (by unfold maxLen; omega)
        obtain ⟨r, Hr⟩ : ∃ x, Hid ((sameB RK k && sameB RV v) = x) := ⟨_, rfl⟩
        rw [Hr.out] at ks
        clear vk vv g9 B9 m9 kp
        go_wp2_with fail
        clear z0 z1 x0 x1
        refine ks.mono ?_
        rintro e w10 ⟨rfl, g10⟩
        have HLT := hid (HL9.out.on g10)
        have HPVT := hid (HPV9.out.on g10)
        have HZ := hid (HM2.out.kept HLT.out.bw)
        have HBX9 := hid (bel_bel HBA.out HBA.out.size HLT.out.bw)
        clear ks g10 HL9 HPV9
        have e1 := HRE.out
        clear HRE
        have HQV : Hid (q = (b1 && r)) := by
          show _ = _
          cases b1 with
          | false =>
            cases hqq : q with
            | false => rfl
            | true => have := HB1.out.2 (HPQ.out.2 hqq).1; cases this
          | true =>
            have hRK : peK K = RK := HRK.out
            have hRV : peV (v.take 32) PS = RV := HRV.out
            cases hr : r with
            | true =>
              have h := Hr.out
              rw [hr, Bool.and_eq_true] at h
              exact HPQ.out.1 ⟨HB1.out.1 rfl, by rw [hRK]; exact of_decide_eq_true h.1, by rw [hRV]; exact of_decide_eq_true h.2⟩
            | false =>
              cases hqq : q with
              | false => rfl
              | true =>
                exfalso
                obtain ⟨-, h1, h2⟩ := HPQ.out.2 hqq
                have h := Hr.out
                rw [← hRK, ← hRV, h1, h2, sameB_self, sameB_self, hr] at h
                cases h
        cases b1
        · simp only [if_false, Bool.false_eq_true] at e1
          subst e1
          go_wp2_with (refine wpList_spe rfl rfl _ _ rfl (w.heap.size + 1) 0 none 0 0 none 0 0 rfl rfl (by with_reducible exact HZ.out) ?_)
          all_goals
            refine bodyPost_ret (v := .tuple #[.agg #[.int .i64 0, .slice none 0 0, .slice none 0 0], .int .i64 114]) ?_ rfl ?_
            · exact results_pe rfl _ _ (w.heap.size + 1) 0 none 0 0 none 0 0 _ rfl rfl (HZ.out.row 0 none 0 0 none 0 0)
            · have hy : q = false := HQV.out
              rw [hy]
              exact ⟨none, 0, none, 0, rfl, vs_none _ _, pv_none _ _, bel_row HBX9.out (Nat.le_succ _) _⟩
        · simp only [if_true] at e1
          subst e1
          cases r
          · go_wp2_with (refine wpList_spe rfl rfl _ _ rfl (w.heap.size + 1) 0 none 0 0 none 0 0 rfl rfl (by with_reducible exact HZ.out) ?_)
            refine bodyPost_ret (v := .tuple #[.agg #[.int .i64 0, .slice none 0 0, .slice none 0 0], .int .i64 114]) ?_ rfl ?_
            · exact results_pe rfl _ _ (w.heap.size + 1) 0 none 0 0 none 0 0 _ rfl rfl (HZ.out.row 0 none 0 0 none 0 0)
            · have hy : q = false := HQV.out
              rw [hy]
              exact ⟨none, 0, none, 0, rfl, vs_none _ _, pv_none _ _, bel_row HBX9.out (Nat.le_succ _) _⟩
          · have d0 := HLT.out.pe.c0
            have d1 := HLT.out.pe.c1
            have d2 := HLT.out.pe.c2
            go_wp2_with (refine wpList_spe rfl rfl _ _ rfl (w.heap.size + 1) K a2 32 c2 pa n d rfl rfl (by with_reducible exact HZ.out) ?_)
            have hy : q = true := HQV.out
            refine bodyPost_ret (v := .tuple #[.agg #[.int .i64 K, .slice a2 32 c2, .slice pa n d], .int .i64 0]) ?_ rfl ?_
            · exact results_pe rfl _ _ (w.heap.size + 1) K a2 32 c2 pa n d _ rfl rfl (HZ.out.row K a2 32 c2 pa n d)
            · have hl32 : (v.take 32).length = 32 := by rw [List.length_take]; omega
              have hln : PS.length = n := by rw [← HPS.out, cpl_length]
              unfold Gq
              rw [hy]
              simp only [if_true]
              rw [HXK.out, HXP.out, HPS.out, hl32, hln]
              have hgb := HLT.out.gb
              have hge := HLT.out.ge
              refine ⟨a2, c2, pa, d, rfl, ?_, ?_, bel_row HBX9.out (Nat.le_succ _) _⟩
              · exact (HLT.out.vs.step fun x _ hV _ => setRow_other _ _ _ _ (by have := HWS.out; omega)).wide fun x _ hx => by have := HWS.out; omega
              · exact (HPVT.out.step (fun x _ hV => setRow_other _ _ _ _ (by have := HWS.out; omega)) (by simp [World.setRow])).wide fun x _ hx => by have := HWS.out; omega
end Go.Proofs.Ytohfdkhlpghbcaa
