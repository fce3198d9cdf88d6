import Derived.Test.YtcbmgpmjnehjdaaGreatYB
import Derived.Test.YtcbmgpmjnehjdaaGreatYF
import Derived.Test.YtcbmgpmjnehjdaaGreatYG
import Derived.Test.YtcbmgpmjnehjdaaGreatYR
import Derived.Test.YtcbmgpmjnehjdaaGreatSE
namespace Go.Proofs.YtcbmgpmjnehjdaaGreat
set_option maxRecDepth 100000
open Go.RowKit Go.Maps
set_option linter.unusedVariables false

theorem peers2_ (a : Option Addr) (n c : Nat) (l : List Pr) (w : World) (hl : Pls w a n l) (hn : n ≤ 1000000) (hb : ∀ x ∈ l, x.k.length ≤ 140737488351232) (hp : ∀ i, i < n → ((l.getD i pr0).ps).length ≤ 60) :
    Calls Tryz.prog 14 #[.slice a n c] w fun e w' => ∃ a' c', e = .returned (.slice a' n c') ∧ Pls w' a' n l ∧ Below w.heap.size w w' := by
  have hlen := hl.len
  refine (peers_ a n c l w hl hn fun x hx => ⟨hb x hx, ?_⟩).mono ?_
  · obtain ⟨i, hi, rfl⟩ := List.mem_iff_getElem.1 hx
    have := hp i (by omega)
    rw [show l.getD i pr0 = l[i] from by simp [List.getD, hi]] at this
    omega
  · rintro e w' ⟨v, ds, rfl, r, e1⟩
    obtain ⟨a', c', rfl, h, -⟩ := Pls.ofOwn r.own r.sv
    have hd : ds.length = n := by rw [← hlen, ← e1, List.length_map]
    rw [e1, hd] at h
    exact ⟨a', c', by rw [hd], h, r.bel⟩
theorem lanes2_ (a : Option Addr) (n c : Nat) (l : List Ln) (w : World) (hl : Lls w a n l) (hn : n ≤ 1000000) (hb : ∀ x ∈ l, x.k.length ≤ 140737488351232) :
    Calls Tryz.prog 15 #[.slice a n c] w fun e w' => ∃ a' c', e = .returned (.slice a' n c') ∧ Lls w' a' n l ∧ Below w.heap.size w w' := by
  have hlen := hl.len
  refine (lanes_ a n c l w hl hn hb).mono ?_
  rintro e w' ⟨v, ds, rfl, r, e1⟩
  obtain ⟨a', c', rfl, h, -⟩ := Lls.ofOwn r.own r.sv
  have hd : ds.length = n := by rw [← hlen, ← e1, List.length_map]
  rw [e1, hd] at h
  exact ⟨a', c', by rw [hd], h, r.bel⟩
set_option maxHeartbeats 4000000 in
/-- RowsSets. -/
theorem rowsSets_ (pa qa la ma : Option Addr) (pn pc qn qc ln lc mn mc : Nat) (ps qs : List Pr) (ls ms : List Ln) (w : World) (hp : Pls w pa pn ps) (hq : Pls w qa qn qs) (hl : Lls w la ln ls) (hm : Lls w ma mn ms) (b1 : ∀ x ∈ ps, x.k.length ≤ 140737488351232) (b2 : ∀ x ∈ qs, x.k.length ≤ 140737488351232) (b3 : ∀ x ∈ ls, x.k.length ≤ 140737488351232) (b4 : ∀ x ∈ ms, x.k.length ≤ 140737488351232) :
    Calls Tryz.prog 4 #[.agg #[.slice pa pn pc, .slice qa qn qc, .slice la ln lc, .slice ma mn mc]] w fun e w' => e = .returned (.bool true) ∧ Below w.heap.size w w' := by
  have m1 := heap_alloc_new w (.cells #[.slice pa pn pc, .slice qa qn qc, .slice la ln lc, .slice ma mn mc] 37)
  obtain ⟨y0, y1, y2, y3⟩ := fcell m1
  have HB := hid (bel_al w (.cells #[.slice pa pn pc, .slice qa qn qc, .slice la ln lc, .slice ma mn mc] 37))
  have HP := hid (hp.on HB.out)
  have HQ := hid (hq.on HB.out)
  have HL := hid (hl.on HB.out)
  have HM := hid (hm.on HB.out)
  obtain ⟨W1, HW1⟩ : ∃ y, Hid (w.alloc (.cells #[.slice pa pn pc, .slice qa qn qc, .slice la ln lc, .slice ma mn mc] 37) = y) := ⟨_, rfl⟩
  obtain ⟨g, Hg⟩ : ∃ y, Hid (w.heap.size = y) := ⟨_, rfl⟩
  rw [HW1.out] at y0 y1 y2 y3 HB HP HQ HL HM
  rw [Hg.out] at y0 y1 y2 y3
  have HB1 := hid b1
  have HB2 := hid b2
  have HB3 := hid b3
  have HB4 := hid b4
  have Y0 := hid y0
  have Y1 := hid y1
  have Y2 := hid y2
  have Y3 := hid y3
  clear hp hq hl hm m1 b1 b2 b3 b4
  have kf := fits2_ pa qa la ma pn pc qn qc ln lc mn mc ps qs W1 HP.out HQ.out
  go_enter Tryz.func4, Tryz.ntmps4
  go_wp2_with fail
  rw [HW1.out, Hg.out]
  refine kf.mono ?_
  rintro e w3 ⟨q, rfl, hf, g3⟩
  have HBw : Hid (Bw W1 w3) := g3
  clear kf g3 y0 y1 y2 y3
  have y0 := HBw.out.cell Y0.out
  have y1 := HBw.out.cell Y1.out
  have y2 := HBw.out.cell Y2.out
  have y3 := HBw.out.cell Y3.out
  cases q with
  | false =>
    go_wp2_with fail
    go_ret
    exact ⟨rfl, bel_bel HB.out HB.out.size HBw.out⟩
  | true =>
    obtain ⟨f1, f2, f3, f4, f5, f6⟩ := hf rfl
    have BW0 : Bw w3 { w3 with drawn := w3.drawn + 1 } := Bw.drew w3
    have kP1 := fun wx (h : Bw w3 wx) => peers2_ pa pn pc ps wx ((HP.out.on HBw.out).on h) (by omega) HB1.out f5
    have kP2 := fun wx (h : Bw w3 wx) => peers2_ qa qn qc qs wx ((HQ.out.on HBw.out).on h) (by omega) HB2.out f6
    have kL1 := fun wx (h : Bw w3 wx) => lanes2_ la ln lc ls wx ((HL.out.on HBw.out).on h) (by omega) HB3.out
    have kL2 := fun wx (h : Bw w3 wx) => lanes2_ ma mn mc ms wx ((HM.out.on HBw.out).on h) (by omega) HB4.out
    obtain ⟨q2, hq2⟩ : ∃ q2, (rct ps ls && rct qs ms) = q2 := ⟨_, rfl⟩
    obtain ⟨LL, hLL⟩ : ∃ LL, (if q2 then chg (gth (rws ps ls)) (gth (rws qs ms)) else []) = LL := ⟨_, rfl⟩
    have HCL : Hid (LL.length ≤ 4000) := by
      have h1 := gth_small (ps := ps) (ls := ls) (by have := HP.out.len; omega) (by have := HL.out.len; omega)
      have h2 := gth_small (ps := qs) (ls := ms) (by have := HQ.out.len; omega) (by have := HM.out.len; omega)
      have h3 := chg_len (I := gth (rws qs ms)) (gth_tok _ (rws_ok HP.out HL.out)).srt
      show _ ≤ _
      rw [← hLL]
      split
      · omega
      · simp
    have HQF := hid hq2
    have HLL := hid hLL
    have kfi := fun wx => lfirst_ wx
    cases q2 with
    | true =>
      have kS : ∀ (wx : World) (xa xb xe xg : Option Addr) (xc xd xf xh : Nat), Pls wx xa pn ps → Pls wx xb qn qs → Lls wx xe ln ls → Lls wx xg mn ms → Calls Tryz.prog 13 #[.slice xa pn xc, .slice xb qn xd, .slice xe ln xf, .slice xg mn xh] wx fun e w' => ∃ sa sn sc, e = .returned (.tuple #[.slice sa sn sc, .int .i64 0]) ∧ Sl w' (fun x => wx.heap.size ≤ x) sa sn LL ∧ Below wx.heap.size wx w' := fun wx xa xb xe xg xc xd xf xh z1 z2 z3 z4 => (sets_ xa xb xe xg pn xc qn xd ln xf mn xh ps qs ls ms wx z1 z2 z3 z4 (by omega) (by omega) (by omega) (by omega)).mono fun e w' ⟨sa, sn, sc, h1, h2, _, _, _, h3⟩ => (by
        rw [HQF.out] at h1 h2
        rw [HLL.out] at h2
        exact ⟨sa, sn, sc, h1, h2, h3⟩)
      have kd : ∀ (wx : World), Bw W1 wx → Calls Tryz.prog 16 #[.slice pa pn pc, .slice qa qn qc, .slice la ln lc, .slice ma mn mc] wx fun e w' => ∃ sa sn sc, e = .returned (.tuple #[.slice sa sn sc, .int .i64 0]) ∧ Sl w' (fun x => wx.heap.size ≤ x) sa sn LL ∧ Below wx.heap.size wx w' := fun wx hb => (rsets15_ pa qa la ma pn pc qn qc ln lc mn mc ps qs ls ms wx (HP.out.on hb) (HQ.out.on hb) (HL.out.on hb) (HM.out.on hb) (by omega) (by omega) (by omega) (by omega)).mono fun e w' ⟨sa, sn, sc, h1, h2, h3⟩ => (by
        rw [HQF.out] at h1 h2
        rw [HLL.out] at h2
        exact ⟨sa, sn, sc, h1, h2, h3⟩)
      have kn := fun wx => lnum_ 0 wx
      clear hq2 hLL
      go_wp2_with fail
      go_region_held (fun wx => wx.cell? ⟨g, 0, none⟩ = some (.slice pa pn pc) ∧ wx.cell? ⟨g, 1, none⟩ = some (.slice qa qn qc) ∧ wx.cell? ⟨g, 2, none⟩ = some (.slice la ln lc) ∧ wx.cell? ⟨g, 3, none⟩ = some (.slice ma mn mc)) (go_keep) (first | (go_at_call 13; refine (kS _ a5 a6 a7 a8 c5 c6 c7 c8 HP4.out HQ4.out HL4.out HM4.out).mono ?_; rintro en w9 ⟨sa, sn, sc, rfl, s9, g9⟩; have G9 := Bw.on G4 g9; have u0 := Bw.cell G9 y0; have u1 := Bw.cell G9 y1; have u2 := Bw.cell G9 y2; have u3 := Bw.cell G9 y3; have HS9 := hid s9; have HG9 := hid G9; clear s9 g9) | (go_at_call 15; refine (kL2 _ G3).mono ?_; rintro en w8 ⟨a8, c8, rfl, l8, g8⟩; have G4 := Bw.on G3 g8; have u40 := Bw.cell G4 y0; have u41 := Bw.cell G4 y1; have u42 := Bw.cell G4 y2; have u43 := Bw.cell G4 y3; have HP4 := hid (HP3.out.on g8); have HQ4 := hid (HQ3.out.on g8); have HL4 := hid (HL3.out.on g8); have HM4 := hid l8; clear l8 g8) | (go_at_call 15; refine (kL1 _ G2).mono ?_; rintro en w7 ⟨a7, c7, rfl, l7, g7⟩; have G3 := Bw.on G2 g7; have u30 := Bw.cell G3 y0; have u31 := Bw.cell G3 y1; have u32 := Bw.cell G3 y2; have u33 := Bw.cell G3 y3; have HP3 := hid (HP2.out.on g7); have HQ3 := hid (HQ2.out.on g7); have HL3 := hid l7; clear l7 g7) | (go_at_call 14; refine (kP2 _ G1).mono ?_; rintro en w6 ⟨a6, c6, rfl, l6, g6⟩; have G2 := Bw.on G1 g6; have u20 := Bw.cell G2 y0; have u21 := Bw.cell G2 y1; have u22 := Bw.cell G2 y2; have u23 := Bw.cell G2 y3; have HP2 := hid (HP1.out.on g6); have HQ2 := hid l6; clear l6 g6) | (go_at_call 14; refine (kP1 _ BW0).mono ?_; rintro en w5 ⟨a5, c5, rfl, l5, g5⟩; have G1 := Bw.on BW0 g5; have u10 := Bw.cell G1 y0; have u11 := Bw.cell G1 y1; have u12 := Bw.cell G1 y2; have u13 := Bw.cell G1 y3; have HP1 := hid l5; clear l5 g5))
      have HBz : Hid (Bw W1 w9) := Bw.on HBw.out HG9.out
      clear G1 G2 G3 G4 G9 HP1 HP2 HP3 HP4 HQ3 HQ4 HL3 HL4 HM4 kP1 kP2 kL1 kL2 kS BW0 u10 u11 u12 u13 u20 u21 u22 u23 u30 u31 u32 u33 u40 u41 u42 u43 y0 y1 y2 y3
      have kd2 := kd w9 HBz.out
      go_wp2_with fail
      refine kd2.mono ?_
      rintro e w10 ⟨ta, tn, tc, rfl, s10, g10⟩
      have HS10 := hid (HS9.out.below g10)
      have HT10 := hid s10
      have HB10 : Hid (Bw W1 w10) := HBz.out.on g10
      have hsn := HS10.out.len
      have htn := HT10.out.len
      obtain rfl : sn = tn := by rw [← hsn, ← htn]
      have hnl : sn ≤ 1000000000 := by
        have := HCL.out
        omega
      have kq := sameSetsEq_ _ _ sa ta sn sc tc LL w10 HS10.out HT10.out hnl
      clear kd kd2 g10 s10 hsn htn u0 u1 u2 u3
      go_wp2_with fail
      refine kq.mono ?_
      rintro e w11 ⟨rfl, g11⟩
      have HB11 : Hid (Bw W1 w11) := HB10.out.on g11
      clear kq g11
      go_wp2_with (first | (go_at_call 10; refine (kn _).mono ?_; rintro en wx ⟨rfl, rfl⟩) | fail)
      refine (kfi _).mono ?_
      rintro e w12 ⟨rfl, g12⟩
      have HB12 : Hid (Bw W1 w12) := HB11.out.on g12
      clear g12
      go_wp2_with fail
      go_ret
      exact ⟨rfl, bel_bel HB.out HB.out.size HB12.out⟩
    | false =>
      have kS : ∀ (wx : World) (xa xb xe xg : Option Addr) (xc xd xf xh : Nat), Pls wx xa pn ps → Pls wx xb qn qs → Lls wx xe ln ls → Lls wx xg mn ms → Calls Tryz.prog 13 #[.slice xa pn xc, .slice xb qn xd, .slice xe ln xf, .slice xg mn xh] wx fun e w' => ∃ sa sn sc, e = .returned (.tuple #[.slice sa sn sc, .int .i64 114]) ∧ Sl w' (fun x => wx.heap.size ≤ x) sa sn LL ∧ Below wx.heap.size wx w' := fun wx xa xb xe xg xc xd xf xh z1 z2 z3 z4 => (sets_ xa xb xe xg pn xc qn xd ln xf mn xh ps qs ls ms wx z1 z2 z3 z4 (by omega) (by omega) (by omega) (by omega)).mono fun e w' ⟨sa, sn, sc, h1, h2, _, _, _, h3⟩ => (by
        rw [HQF.out] at h1 h2
        rw [HLL.out] at h2
        exact ⟨sa, sn, sc, h1, h2, h3⟩)
      have kd : ∀ (wx : World), Bw W1 wx → Calls Tryz.prog 16 #[.slice pa pn pc, .slice qa qn qc, .slice la ln lc, .slice ma mn mc] wx fun e w' => ∃ sa sn sc, e = .returned (.tuple #[.slice sa sn sc, .int .i64 114]) ∧ Sl w' (fun x => wx.heap.size ≤ x) sa sn LL ∧ Below wx.heap.size wx w' := fun wx hb => (rsets15_ pa qa la ma pn pc qn qc ln lc mn mc ps qs ls ms wx (HP.out.on hb) (HQ.out.on hb) (HL.out.on hb) (HM.out.on hb) (by omega) (by omega) (by omega) (by omega)).mono fun e w' ⟨sa, sn, sc, h1, h2, h3⟩ => (by
        rw [HQF.out] at h1 h2
        rw [HLL.out] at h2
        exact ⟨sa, sn, sc, h1, h2, h3⟩)
      have kn := fun wx => lnum_ 114 wx
      clear hq2 hLL
      go_wp2_with fail
      go_region_held (fun wx => wx.cell? ⟨g, 0, none⟩ = some (.slice pa pn pc) ∧ wx.cell? ⟨g, 1, none⟩ = some (.slice qa qn qc) ∧ wx.cell? ⟨g, 2, none⟩ = some (.slice la ln lc) ∧ wx.cell? ⟨g, 3, none⟩ = some (.slice ma mn mc)) (go_keep) (first | (go_at_call 13; refine (kS _ a5 a6 a7 a8 c5 c6 c7 c8 HP4.out HQ4.out HL4.out HM4.out).mono ?_; rintro en w9 ⟨sa, sn, sc, rfl, s9, g9⟩; have G9 := Bw.on G4 g9; have u0 := Bw.cell G9 y0; have u1 := Bw.cell G9 y1; have u2 := Bw.cell G9 y2; have u3 := Bw.cell G9 y3; have HS9 := hid s9; have HG9 := hid G9; clear s9 g9) | (go_at_call 15; refine (kL2 _ G3).mono ?_; rintro en w8 ⟨a8, c8, rfl, l8, g8⟩; have G4 := Bw.on G3 g8; have u40 := Bw.cell G4 y0; have u41 := Bw.cell G4 y1; have u42 := Bw.cell G4 y2; have u43 := Bw.cell G4 y3; have HP4 := hid (HP3.out.on g8); have HQ4 := hid (HQ3.out.on g8); have HL4 := hid (HL3.out.on g8); have HM4 := hid l8; clear l8 g8) | (go_at_call 15; refine (kL1 _ G2).mono ?_; rintro en w7 ⟨a7, c7, rfl, l7, g7⟩; have G3 := Bw.on G2 g7; have u30 := Bw.cell G3 y0; have u31 := Bw.cell G3 y1; have u32 := Bw.cell G3 y2; have u33 := Bw.cell G3 y3; have HP3 := hid (HP2.out.on g7); have HQ3 := hid (HQ2.out.on g7); have HL3 := hid l7; clear l7 g7) | (go_at_call 14; refine (kP2 _ G1).mono ?_; rintro en w6 ⟨a6, c6, rfl, l6, g6⟩; have G2 := Bw.on G1 g6; have u20 := Bw.cell G2 y0; have u21 := Bw.cell G2 y1; have u22 := Bw.cell G2 y2; have u23 := Bw.cell G2 y3; have HP2 := hid (HP1.out.on g6); have HQ2 := hid l6; clear l6 g6) | (go_at_call 14; refine (kP1 _ BW0).mono ?_; rintro en w5 ⟨a5, c5, rfl, l5, g5⟩; have G1 := Bw.on BW0 g5; have u10 := Bw.cell G1 y0; have u11 := Bw.cell G1 y1; have u12 := Bw.cell G1 y2; have u13 := Bw.cell G1 y3; have HP1 := hid l5; clear l5 g5))
      have HBz : Hid (Bw W1 w9) := Bw.on HBw.out HG9.out
      clear G1 G2 G3 G4 G9 HP1 HP2 HP3 HP4 HQ3 HQ4 HL3 HL4 HM4 kP1 kP2 kL1 kL2 kS BW0 u10 u11 u12 u13 u20 u21 u22 u23 u30 u31 u32 u33 u40 u41 u42 u43 y0 y1 y2 y3
      have kd2 := kd w9 HBz.out
      go_wp2_with fail
      refine kd2.mono ?_
      rintro e w10 ⟨ta, tn, tc, rfl, s10, g10⟩
      have HS10 := hid (HS9.out.below g10)
      have HT10 := hid s10
      have HB10 : Hid (Bw W1 w10) := HBz.out.on g10
      have hsn := HS10.out.len
      have htn := HT10.out.len
      obtain rfl : sn = tn := by rw [← hsn, ← htn]
      have hnl : sn ≤ 1000000000 := by
        have := HCL.out
        omega
      have kq := sameSetsEq_ _ _ sa ta sn sc tc LL w10 HS10.out HT10.out hnl
      clear kd kd2 g10 s10 hsn htn u0 u1 u2 u3
      go_wp2_with fail
      refine kq.mono ?_
      rintro e w11 ⟨rfl, g11⟩
      have HB11 : Hid (Bw W1 w11) := HB10.out.on g11
      clear kq g11
      go_wp2_with (first | (go_at_call 10; refine (kn _).mono ?_; rintro en wx ⟨rfl, rfl⟩) | fail)
      refine (kfi _).mono ?_
      rintro e w12 ⟨rfl, g12⟩
      have HB12 : Hid (Bw W1 w12) := HB11.out.on g12
      clear g12
      go_wp2_with fail
      go_ret
      exact ⟨rfl, bel_bel HB.out HB.out.size HB12.out⟩
end Go.Proofs.YtcbmgpmjnehjdaaGreat
