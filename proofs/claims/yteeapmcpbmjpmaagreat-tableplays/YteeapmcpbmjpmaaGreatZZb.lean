import Derived.Test.YteeapmcpbmjpmaaGreatZY
import Derived.Deep.CutRange
namespace Go.Proofs.YteeapmcpbmjpmaaGreat
set_option maxRecDepth 100000
open Go.RowKit Go.Shelf Go.Maps
set_option linter.unusedVariables false

/-! onOver: the kinds that only read. -/
set_option maxHeartbeats 8000000 in
theorem on7_ (Z : Nat → Prop) (p t r o b1 b2 q s1 s2 : Nat) (M W : Tab) (sec : Bool) (ka va sa : Option Addr) (kn kc vn vc sn sc : Nat) (k : List Int) (w : World) (hp : w.heap[p]? = some (.cells #[.pointer (some ⟨t, 0, none⟩), .pointer (some ⟨o, 0, none⟩), .pointer (some ⟨r, 0, none⟩), .pointer (some ⟨q, 0, none⟩)] 34 (0, 0))) (h : Po w Z o b1 b2 q s1 s2 M W M) (hM : M.length ≤ 10000000) (hk : Bs w ka kn k) (hkn : kn ≤ 2000) (hkc : kn ≤ kc ∧ kc ≤ maxLen) :
    Calls Tryz.prog 8 #[.pointer (some ⟨p, 0, none⟩), .agg #[.int .i64 7, .bool sec, .slice ka kn kc, .slice va vn vc, .slice sa sn sc]] w fun e w' => e = .returned (.bool true) ∧ Below w.heap.size w w' := by
  have HX0 : Hid (Bx w (w.alloc (.cells #[.int .i64 7, .bool sec, .slice ka kn kc, .slice va vn vc, .slice sa sn sc] 38)) p t r w.heap.size (.pointer (some ⟨o, 0, none⟩)) (.pointer (some ⟨q, 0, none⟩)) 7 sec (.slice ka kn kc) (.slice va vn vc) (.slice sa sn sc)) := Bx.mk' hp
  have HT0 := hid (h.ov.below HX0.out.bel)
  have HD0 := hid (h.d2.on HX0.out.bel)
  have hql := (Array.getElem?_eq_some_iff.1 h.qo).1
  have HQ0 := hid ((HX0.out.bel.block q hql).trans h.qo)
  have p1 := HX0.out.p1 (Below.refl _ _)
  have p3 := HX0.out.p3 (Below.refl _ _)
  have HK0 := hid (hk.below HX0.out.bel)
  have HTK := hid h.ov.tokI
  have HKL : Hid (k.length = kn) := hk.1
  have o0 := HX0.out.o0 (Below.refl _ _)
  have o2 := HX0.out.o2 (Below.refl _ _)
  clear hp h hk
  go_enter Tryz.func8, Tryz.ntmps8
  go_wp2_with fail
  obtain ⟨wb, HWB⟩ : ∃ y, Hid (w.alloc (.cells #[.int .i64 7, .bool sec, .slice ka kn kc, .slice va vn vc, .slice sa sn sc] 38) = y) := ⟨_, rfl⟩
  obtain ⟨ob, HOB⟩ : ∃ y, Hid (w.heap.size = y) := ⟨_, rfl⟩
  rw [HWB.out] at HX0 HT0 HD0 HK0 HQ0 o0 o2 p1 p3 ⊢
  rw [HOB.out] at HX0 o0 o2 ⊢
  refine (keyed_ ka kn kc k wb HK0.out (by omega)).mono ?_
  rintro e w1 ⟨g, d, rfl, hy, hd1, hd2, hg1, hg2, hB1⟩
  clear o0 o2 p1 p3
  have HB1 := hid hB1
  have HY := hid hy
  have HG := hid (⟨hg1, hg2⟩ : wb.heap.size ≤ g ∧ g < w1.heap.size)
  have HDD := hid (⟨hd1, hd2⟩ : kn + 2 ≤ d ∧ d ≤ maxLen)
  have hnd : (kn : Int) ≤ d := by omega
  have hkd : (kn : Int) ≤ (kn : Int) + 2 := by omega
  have hkd2 : (kn : Int) + 2 ≤ d := by omega
  clear hB1 hy hg1 hg2 hd1 hd2
  obtain ⟨qq, HQ⟩ : ∃ q, Hid ((look M k).isSome = q) := ⟨_, rfl⟩
  obtain ⟨v, HV⟩ : ∃ v, Hid ((look M k).getD [] = v) := ⟨_, rfl⟩
  have HVL : Hid (v.length ≤ 480) := by rw [← HV.out]; exact look_lenZ HTK.out k
  have HVO : Hid (Okb v) := by rw [← HV.out]; exact look_okbZ HTK.out k
  go_upto_region 6 with fail
  go_cut [6, 7] from 185 to 185 (fun u6 u7 wx => ∃ (a : Option Addr) (c : Nat), u6 = .slice a v.length c ∧ u7 = .bool qq ∧ Hid (Below w1.heap.size w1 wx ∧ Vs wx (fun x => w1.heap.size ≤ x) a v.length c v))
  case first =>
    have p0 := HX0.out.p1 HB1.out
    have t0 := (HT0.out.below HB1.out).c0
    have o2 := HX0.out.o2 HB1.out
    have hpl := World.block_lt_of_cell? w1 _ p0
    have htl := World.block_lt_of_cell? w1 _ t0
    have hol := World.block_lt_of_cell? w1 _ o2
    have kg := fun wx (hb : Below w1.heap.size w1 wx) => get_ b1 Z M (some ⟨g, 0, none⟩) kn (kn + 2) k wx ((HT0.out.below HB1.out).is.below hb) HTK.out ((bs_front HY.out.bs HKL.out).below hb) (by unfold maxLen; omega)
    rw [HQ.out, HV.out] at kg
    go_region_held (fun wx => wx.cell? ⟨p, 1, none⟩ = some (.pointer (some ⟨o, 0, none⟩)) ∧ wx.cell? ⟨o, 0, none⟩ = some (.map (some b1)) ∧ wx.cell? ⟨ob, 2, none⟩ = some (.slice ka kn kc)) (go_keep) (first | (go_at_call 12; refine (kg _ (by first | exact Below.refl _ _ | exact below_drew w1)).mono ?_; rintro e w2 ⟨u, rfl, o2', gq⟩; obtain ⟨a, c, hu, vs⟩ := Vs.ofOwn o2' HVO.out; subst hu; have hb2 : Below w1.heap.size w1 w2 := ⟨gq.os, gq.tape, gq.output, gq.size, gq.block⟩; have y0 := (hb2.cell (p := ⟨p, 1, none⟩) hpl).trans p0; have y1 := (hb2.cell (p := ⟨o, 0, none⟩) htl).trans t0; have y2 := (hb2.cell (p := ⟨ob, 2, none⟩) hol).trans o2; have HB2 := hid hb2; have HVS := hid vs; clear gq hb2 o2' vs))
    clear p0 t0 o2 hpl htl hol kg y0 y1 y2
    go_wp2_with fail
    go_meet
    exact ⟨a, c, rfl, rfl, HB2.out, HVS.out⟩
  obtain ⟨a, c, rfl, rfl, HR⟩ := hcut
  have HB2 : Hid (Below wb.heap.size wb wc) := bel_bel HB1.out HB1.out.size HR.out.1
  have o2 := HX0.out.o2 HB2.out
  go_wp2_with fail
  refine (marked_ g kn d kn kc ka k 161 162 _ ⟨by obtain ⟨cur, hc⟩ := HY.out.blk; exact ⟨cur, (HR.out.1.block g HG.out.2).trans hc⟩, HY.out.bs.below HR.out.1⟩ HDD.out.1 HDD.out.2 (HK0.out.below HB2.out) (by omega)).mono ?_
  rintro e w3 ⟨rfl, w4, ys, hb4, hg4, _⟩
  have HB3 : Hid (Below wb.heap.size wb w3) := (bel_bel HB2.out HB2.out.size hb4).grown hg4 (Nat.le_trans HB2.out.size hb4.size) (fun q hq => by obtain rfl := Option.some.inj hq; exact HG.out.1)
  have HVS3 : Hid (Bs w3 a v.length v) := by
    have h1 := HR.out.2.step (w' := w4) (fun x hx _ _ => hb4.block x hx)
    have h2 := h1.step (w' := w3) (fun x hx hz _ => hg4.block x hx (fun e => by have := Option.some.inj e; have := HG.out.2; omega))
    exact h2.bs
  clear hb4 hg4 o2 HR
  go_upto_region 8 with fail
  go_cut [9, 10] from 185 to 185 (fun u9 u10 wx => ∃ (a' : Option Addr) (n' c' : Nat), u9 = .slice a' n' c' ∧ u10 = .bool qq ∧ Hid (Below w3.heap.size w3 wx ∧ Bs wx a' n' v ∧ n' ≤ 480))
  case first =>
    have p2 := HX0.out.p3 HB3.out
    have q1 : w3.cell? ⟨q, 1, none⟩ = some (.pointer (some ⟨s2, 0, none⟩)) := (HB3.out.cell (p := ⟨q, 1, none⟩) (Array.getElem?_eq_some_iff.1 HQ0.out).1).trans ((cell_of_row _ _ 1 _ _ (0, 0) HQ0.out).trans rfl)
    have hq1 := World.block_lt_of_cell? w3 _ q1
    have o2 := HX0.out.o2 HB3.out
    have hpl := World.block_lt_of_cell? w3 _ p2
    have hol := World.block_lt_of_cell? w3 _ o2
    have kg := fun wx (hb : Below w3.heap.size w3 wx) => rgetQ_ Z s2 M ka kn kc k wx ((HD0.out.on HB3.out).on hb) HTK.out hM ((HK0.out.below HB3.out).below hb) (by omega)
    rw [HQ.out, HV.out] at kg
    go_region_held (fun wx => wx.cell? ⟨p, 3, none⟩ = some (.pointer (some ⟨q, 0, none⟩)) ∧ wx.cell? ⟨q, 1, none⟩ = some (.pointer (some ⟨s2, 0, none⟩)) ∧ wx.cell? ⟨ob, 2, none⟩ = some (.slice ka kn kc)) (go_keep) (first | (go_at_call 26; refine (kg _ (by first | exact Below.refl _ _ | exact below_drew w3)).mono ?_; rintro e w5 ⟨a', n', c', rfl, hbs, hn', gq⟩; have hb5 : Below w3.heap.size w3 w5 := ⟨gq.os, gq.tape, gq.output, gq.size, gq.block⟩; have y0 := (hb5.cell (p := ⟨p, 3, none⟩) hpl).trans p2; have y1 := (hb5.cell (p := ⟨q, 1, none⟩) hq1).trans q1; have y2 := (hb5.cell (p := ⟨ob, 2, none⟩) hol).trans o2; have HB5 := hid hb5; have HBS := hid hbs; clear gq hb5 hbs))
    clear p2 o2 q1 hq1 hpl hol kg y0 y1 y2
    go_wp2_with fail
    go_meet
    exact ⟨a', n', c', rfl, rfl, HB5.out, HBS.out, hn'⟩
  obtain ⟨a', n', c', rfl, rfl, HR⟩ := hcut
  go_wp2_with fail
  refine (same_d a a' v.length c n' c' v v _ (HVS3.out.below HR.out.1) HR.out.2.1 (by have := HVL.out; unfold maxLen; omega) (by have := HR.out.2.2; unfold maxLen; omega)).mono ?_
  rintro e w6 ⟨rfl, dr⟩
  rw [sameB_self]
  have HB6 : Hid (Below w.heap.size w w6) := by
    have h1 := bel_bel HB3.out HB3.out.size HR.out.1
    have h2 := bel_bel h1 h1.size dr.below
    exact bel_bel HX0.out.bel HX0.out.bel.size h2
  clear dr
  cases qq
  · go_wp2_with fail
    go_ret
    exact ⟨rfl, HB6.out⟩
  · go_wp2_with fail
    go_ret
    exact ⟨rfl, HB6.out⟩
set_option maxHeartbeats 4000000 in
theorem onOn_ (p : Nat) (x0 x2 x3 : Value) (op : Value) (kd : Int) (sec : Bool) (ka va sa : Option Addr) (kn kc vn vc sn sc : Nat) (w : World) (hp : w.heap[p]? = some (.cells #[x0, .pointer none, x2, x3] 34 (0, 0))) :
    Calls Tryz.prog 8 #[.pointer (some ⟨p, 0, none⟩), .agg #[.int .i64 kd, .bool sec, .slice ka kn kc, .slice va vn vc, .slice sa sn sc]] w fun e w' => e = .returned (.bool true) ∧ Below w.heap.size w w' := by
  have hB : Below w.heap.size w (w.alloc (.cells #[.int .i64 kd, .bool sec, .slice ka kn kc, .slice va vn vc, .slice sa sn sc] 38)) := (Below.refl _ _).alloc (Nat.le_refl _) _
  have HB := hid hB
  have p1 : (w.alloc (.cells #[.int .i64 kd, .bool sec, .slice ka kn kc, .slice va vn vc, .slice sa sn sc] 38)).cell? ⟨p, 1, none⟩ = some (.pointer none) := (hB.cell (p := ⟨p, 1, none⟩) (Array.getElem?_eq_some_iff.1 hp).1).trans ((cell_of_row _ _ 1 _ _ (0, 0) hp).trans rfl)
  clear hB hp
  go_enter Tryz.func8, Tryz.ntmps8
  go_wp2_with fail
  go_ret
  exact ⟨rfl, HB.out⟩
set_option maxHeartbeats 4000000 in
/-- Any other kind does nothing at the changes. -/
theorem onON_ (p t r o q : Nat) (kd : Int) (sec : Bool) (ka va sa : Option Addr) (kn kc vn vc sn sc : Nat) (w : World) (hp : w.heap[p]? = some (.cells #[.pointer (some ⟨t, 0, none⟩), .pointer (some ⟨o, 0, none⟩), .pointer (some ⟨r, 0, none⟩), .pointer (some ⟨q, 0, none⟩)] 34 (0, 0))) (hk : kd ≠ 7 ∧ kd ≠ 8 ∧ kd ≠ 9 ∧ kd ≠ 10) :
    Calls Tryz.prog 8 #[.pointer (some ⟨p, 0, none⟩), .agg #[.int .i64 kd, .bool sec, .slice ka kn kc, .slice va vn vc, .slice sa sn sc]] w fun e w' => e = .returned (.bool true) ∧ Below w.heap.size w w' := by
  have HX0 : Hid (Bx w (w.alloc (.cells #[.int .i64 kd, .bool sec, .slice ka kn kc, .slice va vn vc, .slice sa sn sc] 38)) p t r w.heap.size (.pointer (some ⟨o, 0, none⟩)) (.pointer (some ⟨q, 0, none⟩)) kd sec (.slice ka kn kc) (.slice va vn vc) (.slice sa sn sc)) := Bx.mk' hp
  have HB := hid HX0.out.bel
  have o0 := HX0.out.o0 (Below.refl _ _)
  have p1 := HX0.out.p1 (Below.refl _ _)
  have p3 := HX0.out.p3 (Below.refl _ _)
  obtain ⟨k7, k8, k9, k10⟩ := hk
  have e7 : (kd == 7) = false := beq_eq_false_iff_ne.2 k7
  have e8 : (kd == 8) = false := beq_eq_false_iff_ne.2 k8
  have e9 : (kd == 9) = false := beq_eq_false_iff_ne.2 k9
  have e10 : (kd == 10) = false := beq_eq_false_iff_ne.2 k10
  clear hp k7 k8 k9 k10
  go_enter Tryz.func8, Tryz.ntmps8
  go_wp2_with fail
  go_ret
  exact ⟨rfl, HB.out⟩
end Go.Proofs.YteeapmcpbmjpmaaGreat
namespace Go.Proofs.YteeapmcpbmjpmaaGreat
set_option maxRecDepth 100000
open Go.RowKit Go.Shelf Go.Maps
set_option linter.unusedVariables false

set_option maxHeartbeats 8000000 in
theorem on10_ (Z : Nat → Prop) (p t r o b1 b2 q s1 s2 : Nat) (I W : Tab) (sec : Bool) (ka va sa : Option Addr) (kn kc vn vc sn sc : Nat) (w : World) (hp : w.heap[p]? = some (.cells #[.pointer (some ⟨t, 0, none⟩), .pointer (some ⟨o, 0, none⟩), .pointer (some ⟨r, 0, none⟩), .pointer (some ⟨q, 0, none⟩)] 34 (0, 0))) (h : Po w Z o b1 b2 q s1 s2 I W I) (l1 : W.length ≤ 1000000) (l2 : I.length ≤ 1000000) :
    Calls Tryz.prog 8 #[.pointer (some ⟨p, 0, none⟩), .agg #[.int .i64 10, .bool sec, .slice ka kn kc, .slice va vn vc, .slice sa sn sc]] w fun e w' => e = .returned (.bool true) ∧ Below w.heap.size w w' := by
  have HX0 : Hid (Bx w (w.alloc (.cells #[.int .i64 10, .bool sec, .slice ka kn kc, .slice va vn vc, .slice sa sn sc] 38)) p t r w.heap.size (.pointer (some ⟨o, 0, none⟩)) (.pointer (some ⟨q, 0, none⟩)) 10 sec (.slice ka kn kc) (.slice va vn vc) (.slice sa sn sc)) := Bx.mk' hp
  have o0 := HX0.out.o0 (Below.refl _ _)
  have p1 := HX0.out.p1 (Below.refl _ _)
  have p3 := HX0.out.p3 (Below.refl _ _)
  have hql := (Array.getElem?_eq_some_iff.1 h.qo).1
  have HQ0 := hid ((HX0.out.bel.block q hql).trans h.qo)
  have HD1 := hid (h.d1.on HX0.out.bel)
  have HD2 := hid (h.d2.on HX0.out.bel)
  have ks := sets_ o b1 b2 Z I W _ (h.ov.below HX0.out.bel) (by omega) (by omega)
  have HTI := hid h.ov.tokI
  have HTW := hid h.ov.tokW
  obtain ⟨l, HL⟩ : ∃ l, Hid (chg W I = l) := ⟨_, rfl⟩
  rw [HL.out] at ks
  obtain ⟨wb, HWB⟩ : ∃ y, Hid (w.alloc (.cells #[.int .i64 10, .bool sec, .slice ka kn kc, .slice va vn vc, .slice sa sn sc] 38) = y) := ⟨_, rfl⟩
  clear hp h
  go_enter Tryz.func8, Tryz.ntmps8
  go_wp2_with fail
  refine ks.mono ?_
  rw [HWB.out] at HX0 HQ0 HD1 HD2 ⊢
  rintro e w1 ⟨a, n, c, rfl, hsl, hc1, hc2, hc3, hB1⟩
  have HB1 := hid hB1
  have HSL := hid hsl
  have HLL : Hid (l.length ≤ 2000000) := by
    show _ ≤ _
    rw [← HL.out, ← mg_chg W I HTW.out.srt HTI.out.srt]
    have := mg_len W I
    omega
  have kr := rsetsO_ Z q s1 s2 W I w1 ((HB1.out.block q (Array.getElem?_eq_some_iff.1 HQ0.out).1).trans HQ0.out) (HD1.out.on HB1.out) (HD2.out.on HB1.out) HTW.out HTI.out l1 l2
  rw [HL.out] at kr
  clear ks p1 p3 o0 hsl hB1 hc1 hc2 hc3
  have p3 := HX0.out.p3 HB1.out
  go_wp2_with fail
  refine kr.mono ?_
  rintro e w2 ⟨a', n', c', rfl, hsl', hn', hB2⟩
  have HNN : Hid (n ≤ 2000000) := by show _ ≤ _; rw [← HSL.out.len]; exact HLL.out
  have HNN' := hid hn'
  have HSL2 := hid (HSL.out.below hB2)
  have HSLB := hid hsl'
  have HB2 : Hid (Below w.heap.size w w2) := by
    have h1 := bel_bel HB1.out HB1.out.size hB2
    exact bel_bel HX0.out.bel HX0.out.bel.size h1
  clear kr hsl' hB2 p3 hn'
  go_wp2_with fail
  refine (sameSets_ _ _ a a' n c n' c' l l _ HSL2.out HSLB.out (by have := HNN.out; omega) (by have := HNN'.out; omega)).mono ?_
  rintro e w3 ⟨rfl, hB3⟩
  have HSS : Hid (sameS l l = true) := by simp [sameS, Hid]
  rw [HSS.out]
  have HB3 := hid (bel_bel HB2.out HB2.out.size hB3)
  clear hB3
  go_wp2_with fail
  go_ret
  exact ⟨rfl, HB3.out⟩
end Go.Proofs.YteeapmcpbmjpmaaGreat
