import Derived.Test.YtfmdnfbcfhojpaaDoorLP
namespace Go.Proofs.YtfmdnfbcfhojpaaDoor
set_option maxRecDepth 100000
open Go.RowKit
set_option linter.unusedVariables false

theorem rt_no {b : List Int} (h : gs b = none) (T : ByteArray) (e q p : Int) : rt b T e q p = none := by unfold rt; rw [h]
theorem bne_same (b : Bool) : (b != b) = false := by cases b <;> rfl
theorem rm_last {zs : List Int} {n k : Nat} (h : zs.length = n) (hk : k < n) (v : Int) : ((rm zs).set k v).take n = zs.set k v ∧ (rm zs).getD k 0 = zs.getD k 0 := by
  subst h
  refine ⟨?_, ?_⟩
  · rw [rm, List.set_append_left _ _ hk, List.take_left' (by rw [List.length_set])]
  · simp only [rm, List.getD]
    rw [List.getElem?_append_left hk]
theorem last_no {zs : List Int} {s : Sec} (h : gs zs = some s) (hy : By zs) {k : Nat} (hk : k < 512) : gs (zs.set k (bits .xor .u8 (zs.getD k 0) 1)) = none := by
  obtain ⟨_, hM, hp, he⟩ := gs_some h
  have hl : By s.l := by rw [he]; exact sl_by hy _ _
  have := turned hM hl (i := k) (x := 1) hk (by omega) (by omega)
  rw [hp] at this
  rw [u8_xor _ 1 (getD_byte hy k).1 (by have := (getD_byte hy k).2; omega) (by omega) (by omega)]
  exact this
set_option maxHeartbeats 16000000 in
theorem sectorRights_ (a : Option Addr) (n c : Nat) (zs : List Int) (T : ByteArray) (e q p : Int) (w : World) (hT : Tab w) (hb : Bs w a n zs) (hc : n ≤ c) (hm : c ≤ maxLen) :
    Calls Tryd.prog 5 #[.slice a n c, .string T, .int .i64 e, .int .i64 q, .int .i64 p] w fun en w' => en = .returned (.bool true) ∧ Below w.heap.size w w' := by
  have HB := hid hb
  by_cases hn : n ≤ 2000
  · have hI : (n : Int) ≤ 2000 := by omega
    have HLN := hid hb.1
    have HRL : Hid ((rm zs).length = n + 3) := by show _ = _; rw [rm_length, hb.1]
    have HRY := hid (rm_by hb.2.1)
    have HY := hid hb.2.1
    clear hb
    go_enter Tryd.func5, Tryd.ntmps5
    go_wp2_with fail
    refine (first_ _ hT).mono ?_
    rintro x1 w1 ⟨rfl, B1⟩
    have T1 := hT.bel B1
    have S1 := B1.size
    go_wp2_with fail
    refine (room_ a n c zs w1 (HB.out.below B1) (by omega)).mono ?_
    rintro x2 w2 ⟨g, cap, rfl, hcap, hcm, hgb, hh2, g2⟩
    have hgw : w.heap.size ≤ g := by omega
    have TT := hid (T1.bel g2)
    have BB := hid (bel_bel B1 S1 g2)
    have HH := hid hh2
    have hcm' := hcm
    unfold maxLen at hcm'
    have i1 : (n : Int) ≤ (n : Int) + 3 := by omega
    have i2 : (n : Int) + 3 ≤ (cap : Int) := by omega
    have i3 : (0 : Int) ≤ (n : Int) := by omega
    clear g2 B1 S1 T1 hh2
    have q2 : Hid (Bs w2 (some ⟨g, 0, none⟩) n zs) := by show Bs _ _ _ _; have := hd_sl HH.out HRL.out HRY.out; rwa [rm_take HLN.out] at this
    have YY := hid (HB.out.below BB.out)
    go_wp2_with fail
    refine (right_u T e q p (some ⟨g, 0, none⟩) n (n + 3) zs w2 TT.out q2.out (by omega) (by unfold maxLen; omega)).mono ?_
    rintro x3 w3 ⟨a1, n1, c1, rfl, N3, g3⟩
    have g3s := g3.size
    replace BB := hid (bel_bel BB.out BB.out.size g3)
    replace TT := hid (TT.out.bel g3)
    replace HH := hid (HH.out.below g3)
    replace YY := hid (YY.out.below g3)
    have NA := hid N3
    clear N3 g3 q2
    go_wp2_with fail
    refine (refRight_u T e q p a n c zs w3 YY.out hc hm).mono ?_
    rintro x4 w4 ⟨a2, n2, c2, rfl, N4, g4⟩
    replace BB := hid (bel_bel BB.out BB.out.size g4)
    replace TT := hid (TT.out.bel g4)
    replace HH := hid (HH.out.below g4)
    replace YY := hid (YY.out.below g4)
    replace NA := hid (NA.out.bel g4)
    have NB := hid N4
    clear N4 g4
    have l1 : n1 ≤ 512 := by have := NA.out.bs.1; have := RB_le zs T e q p; omega
    have l2 : n2 ≤ 512 := by have := NB.out.bs.1; have := RB_le zs T e q p; omega
    go_wp2_with fail
    refine (same_yes a1 a2 n1 c1 n2 c2 (RB zs T e q p) w4 NA.out.bs NB.out.bs (by omega) (by omega)).mono ?_
    rintro x5 w5 ⟨rfl, D5⟩
    have g5 := D5.below
    replace BB := hid (bel_bel BB.out BB.out.size g5)
    replace TT := hid (TT.out.bel g5)
    replace HH := hid (HH.out.below g5)
    replace YY := hid (YY.out.below g5)
    clear NA NB g5 D5
    go_wp2_with fail
    refine (room_ a n c zs w5 YY.out (by omega)).mono ?_
    rintro x6 w6 ⟨g', cap', rfl, _, _, _, H6, g6⟩
    replace BB := hid (bel_bel BB.out BB.out.size g6)
    replace TT := hid (TT.out.bel g6)
    replace HH := hid (HH.out.below g6)
    replace YY := hid (YY.out.below g6)
    have Q6 := hid H6
    clear g6 H6
    go_wp2_with fail
    refine (same_yes (some ⟨g, 0, none⟩) (some ⟨g', 0, none⟩) (n + 3) cap (n + 3) cap' (rm zs) w6 (HH.out.all HRL.out HRY.out) (Q6.out.all HRL.out HRY.out) (by omega) (by omega)).mono ?_
    rintro x7 w7 ⟨rfl, D7⟩
    have g7 := D7.below
    replace BB := hid (bel_bel BB.out BB.out.size g7)
    replace TT := hid (TT.out.bel g7)
    replace HH := hid (HH.out.below g7)
    replace YY := hid (YY.out.below g7)
    have xR := bne_same (RO zs T e q p)
    have H7L := hid HH.out.lt
    clear g7 D7 Q6
    go_wp2_with fail
    clear xR
    cases hg : gs zs with
    | none =>
      refine (refGet_n a n c zs w7 YY.out hc hm hg).mono ?_
      rintro x8 w8 ⟨rfl, g8⟩
      have B8 := bel_bel BB.out BB.out.size g8
      have A8 : Below w8.heap.size w8 (w8.alloc (.cells #[.string ⟨#[]⟩, .int .i64 0, .int .i64 0, .int .i64 0, .slice none 0 0] 24)) := (Below.refl _ _).alloc (Nat.le_refl _) _
      have B9 := bel_bel B8 B8.size A8
      clear BB TT HH YY g8 B8 A8
      go_wp2_with fail
      go_ret
      exact ⟨rfl, B9⟩
    | some s =>
      obtain ⟨T', e', q', p', l⟩ := s
      have HG := hid hg
      have H5 : Hid (n = 512) := by show _ = _; rw [← HLN.out]; exact (gs_some hg).1
      have hl480 : l.length ≤ 480 := (gs_some hg).2.1.2.2.2.2
      have HLY : Hid (By l) := by show By l; have e := congrArg Sec.l (gs_some hg).2.2.2; simp only at e; rw [e]; exact sl_by HY.out _ _
      refine (refGet_y a n c zs w7 YY.out hc hm _ hg).mono ?_
      rintro x8 w8 ⟨v, rfl, o8, g8⟩
      obtain ⟨a3, c3, rfl, N8⟩ := Nw.own o8 HLY.out
      simp only
      simp only at N8
      obtain ⟨m, hlm⟩ : ∃ m, l.length = m := ⟨_, rfl⟩
      rw [hlm] at N8 hl480
      simp only [hlm]
      have HLM := hid hlm
      have m8 := Sm.new w8 T' e' q' p' (.slice a3 m c3)
      have A8 : Below w8.heap.size w8 (w8.alloc (.cells #[.string T', .int .i64 e', .int .i64 q', .int .i64 p', .slice a3 m c3] 24)) := (Below.refl _ _).alloc (Nat.le_refl _) _
      have B8 := bel_bel BB.out BB.out.size g8
      replace BB := hid (bel_bel B8 B8.size A8)
      replace TT := hid ((TT.out.bel g8).bel A8)
      replace HH := hid ((HH.out.below g8).below A8)
      have NC := hid (N8.bel A8)
      have d0 := m8.c0
      have d1 := m8.c1
      have d2 := m8.c2
      have d3 := m8.c3
      have MM := hid m8
      have hgl := H7L.out
      have hg8 : g < w8.heap.size := Nat.lt_of_lt_of_le hgl g8.size
      clear YY g8 B8 A8 o8 N8 m8 hg hlm
      go_wp2_with fail
      generalize hgs8 : w8.heap.size = gs8 at *
      have hlt := MM.out.lt
      clear hgs8
      generalize w8.alloc _ = w9 at *
      have q9 : Hid (Bs w9 (some ⟨g, 0, none⟩) n zs) := by show Bs _ _ _ _; have := hd_sl HH.out HRL.out HRY.out; rwa [rm_take HLN.out] at this
      go_region_held (fun wx => wx.cell? ⟨gs8, 0, none⟩ = some (.string T') ∧ wx.cell? ⟨gs8, 1, none⟩ = some (.int .i64 e') ∧ wx.cell? ⟨gs8, 2, none⟩ = some (.int .i64 q') ∧ wx.cell? ⟨gs8, 3, none⟩ = some (.int .i64 p')) (go_keep) (first | (go_at_call 17; refine (right_y T' e' q' p' l (some ⟨g, 0, none⟩) n (n + 3) zs _ (by exact TT.out) (by exact q9.out) (by omega) (by unfold maxLen; omega) HG.out).mono ?_; rintro x9 wA ⟨g9, rfl, hg9, r9, g9b⟩; have f0 := (g9b.cell (p := ⟨gs8, 0, none⟩) hlt).trans d0; have f1 := (g9b.cell (p := ⟨gs8, 1, none⟩) hlt).trans d1; have f2 := (g9b.cell (p := ⟨gs8, 2, none⟩) hlt).trans d2; have f3 := (g9b.cell (p := ⟨gs8, 3, none⟩) hlt).trans d3; have G9 := hid g9b; have R9 := hid r9; clear g9b r9))
      have D9 : Below w.heap.size w w9.drew := ⟨BB.out.os, BB.out.tape, BB.out.output, BB.out.size, BB.out.block⟩
      replace BB := hid (bel_bel D9 D9.size G9.out)
      replace TT : Hid (Tab wA) := Tab.bel (by exact TT.out) G9.out
      replace HH : Hid (Head wA g cap (rm zs)) := Head.below (by exact HH.out) G9.out
      replace NC : Hid (Nw w7.heap.size wA a3 m c3 l) := ⟨Bs.below (by exact NC.out.bs) G9.out, NC.out.le, NC.out.mx, NC.out.fr⟩
      replace MM : Hid (Sm wA gs8 T' e' q' p' (.slice a3 m c3)) := Sm.kept (by exact MM.out) G9.out
      have L9 := hid ((R9.out.bs HLY.out).len HLM.out)
      simp only [HLM.out]
      clear R9 G9 D9 f0 f1 f2 f3 d0 d1 d2 d3 hlt
      have d4 := MM.out.c4
      go_wp2_with fail
      refine (same_yes (some ⟨g9, 0, none⟩) a3 m m m c3 l wA L9.out NC.out.bs (by omega) (by omega)).mono ?_
      rintro x10 w10 ⟨rfl, D10⟩
      have g10 := D10.below
      replace BB := hid (bel_bel BB.out BB.out.size g10)
      replace TT := hid (TT.out.bel g10)
      replace HH := hid (HH.out.below g10)
      replace MM := hid (MM.out.kept g10)
      clear NC L9 d4 g10 D10
      obtain ⟨k, ek⟩ : ∃ k : Nat, (n : Int) - 1 = (k : Int) := ⟨n - 1, by have := H5.out; omega⟩
      have hkn : k < n := by omega
      have hk5 : k < 512 := by have := H5.out; omega
      obtain ⟨hs1, hs2⟩ := rm_last HLN.out hkn (bits .xor .u8 (zs.getD k 0) 1)
      have hc3 := HH.out.cell k (by have := HRL.out; omega)
      rw [hs2] at hc3
      have hf := HH.out.unfrozen k
      have hb3 := getD_byte HY.out k
      have HX := hid (xor8 (zs.getD k 0) 1 hb3 (by omega))
      have HS := hid (HH.out.set k (bits .xor .u8 (zs.getD k 0) 1))
      have HSL : Hid (((rm zs).set k (bits .xor .u8 (zs.getD k 0) 1)).length = n + 3) := by show _ = _; rw [List.length_set]; exact HRL.out
      have HSY := hid (byte_set HRY.out k _ HX.out)
      have HGN := hid (last_no HG.out HY.out hk5)
      rw [← hs1] at HGN
      generalize (rm zs).set k (bits .xor .u8 (zs.getD k 0) 1) = ys at *
      generalize zs.getD k 0 = z at *
      have i4 : (k : Int) < (n : Int) + 3 := by omega
      have i5 : ¬ (k : Int) < 0 := by omega
      have i6 : (k : Int) < (n : Int) := by omega
      have e0 := MM.out.c0
      have e1 := MM.out.c1
      have e2 := MM.out.c2
      have e3 := MM.out.c3
      clear hb3 hs1 hs2 HX HH HG
      go_wp2_with fail
      have B11 : Below w.heap.size w (w10.setCell ⟨g, k, none⟩ (.int .u8 (bits BinOp.xor IntKind.u8 z 1))) := BB.out.setCell hgw _
      have T11 : Tab (w10.setCell ⟨g, k, none⟩ (.int .u8 (bits BinOp.xor IntKind.u8 z 1))) := hT.below B11 hT.1
      have hne : ¬ gs8 = g := by omega
      have M11 := MM.out.at (w' := w10.setCell ⟨g, k, none⟩ (.int .u8 (bits BinOp.xor IntKind.u8 z 1))) (Below.heap_setCell _ _ _ _ (fun e => hne e))
      clear e0 e1 e2 e3 hc3 hf BB TT MM ek
      have hn3 : ((n : Int) + 3).toNat = n + 3 := by omega
      have q11 := hid (hd_sl HS.out HSL.out HSY.out)
      generalize w10.setCell ⟨g, k, none⟩ (.int .u8 (bits BinOp.xor IntKind.u8 z 1)) = w11 at *
      have d0 := M11.c0
      have d1 := M11.c1
      have d2 := M11.c2
      have d3 := M11.c3
      have hlt := M11.lt
      have T11H := hid T11
      have B11H := hid B11
      clear M11 T11 B11 HS
      go_region_held (fun wx => wx.cell? ⟨gs8, 0, none⟩ = some (.string T') ∧ wx.cell? ⟨gs8, 1, none⟩ = some (.int .i64 e') ∧ wx.cell? ⟨gs8, 2, none⟩ = some (.int .i64 q') ∧ wx.cell? ⟨gs8, 3, none⟩ = some (.int .i64 p')) (go_keep) (first | (go_at_call 17; refine (right_n T' e' q' p' (some ⟨g, 0, none⟩) n (n + 3) (ys.take n) _ (by exact T11H.out) (by exact q11.out) (by omega) (by unfold maxLen; omega) (rt_no HGN.out _ _ _ _)).mono ?_; rintro x9 wB ⟨rfl, g9b⟩; have f0 := (g9b.cell (p := ⟨gs8, 0, none⟩) hlt).trans d0; have f1 := (g9b.cell (p := ⟨gs8, 1, none⟩) hlt).trans d1; have f2 := (g9b.cell (p := ⟨gs8, 2, none⟩) hlt).trans d2; have f3 := (g9b.cell (p := ⟨gs8, 3, none⟩) hlt).trans d3; have G9 := hid g9b; clear g9b))
      have D9 : Below w.heap.size w w11.drew := ⟨B11H.out.os, B11H.out.tape, B11H.out.output, B11H.out.size, B11H.out.block⟩
      have B12 := bel_bel D9 D9.size G9.out
      clear f0 f1 f2 f3 d0 d1 d2 d3 hlt G9 D9 B11H T11H
      go_wp2_with fail
      go_ret
      exact ⟨rfl, B12⟩
  · have hI : ¬ (n : Int) ≤ 2000 := by omega
    have hI2 : (2000 : Int) < (n : Int) := by omega
    clear hb HB
    go_enter Tryd.func5, Tryd.ntmps5
    go_wp2_with fail
    refine (first_ _ hT).mono ?_
    rintro x1 w1 ⟨rfl, g1⟩
    go_wp2
    go_ret
    exact ⟨rfl, g1⟩
end Go.Proofs.YtfmdnfbcfhojpaaDoor
