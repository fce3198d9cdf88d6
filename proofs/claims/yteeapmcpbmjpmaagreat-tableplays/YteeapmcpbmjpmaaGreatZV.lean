import Derived.Test.YteeapmcpbmjpmaaGreatZU
import Derived.Deep.CutRange
namespace Go.Proofs.YteeapmcpbmjpmaaGreat
set_option maxRecDepth 100000
open Go.RowKit Go.Shelf Go.Maps
set_option linter.unusedVariables false

set_option maxHeartbeats 8000000 in
theorem on2_ (Z : Nat → Prop) (p t b r : Nat) (x1 x3 : Value) (M : Tab) (sec : Bool) (ka va sa : Option Addr) (kn kc vn vc sn sc : Nat) (w : World) (hp : w.heap[p]? = some (.cells #[.pointer (some ⟨t, 0, none⟩), x1, .pointer (some ⟨r, 0, none⟩), x3] 34 (0, 0))) (h : Pt w Z t b r M M) (hM : M.length ≤ 10000000) :
    Calls Tryz.prog 7 #[.pointer (some ⟨p, 0, none⟩), .agg #[.int .i64 2, .bool sec, .slice ka kn kc, .slice va vn vc, .slice sa sn sc]] w fun e w' => e = .returned (.bool true) ∧ Below w.heap.size w w' := by
  have HX0 : Hid (Bx w (w.alloc (.cells #[.int .i64 2, .bool sec, .slice ka kn kc, .slice va vn vc, .slice sa sn sc] 38)) p t r w.heap.size x1 x3 2 sec (.slice ka kn kc) (.slice va vn vc) (.slice sa sn sc)) := Bx.mk' hp
  have HT0 := hid (h.tw.below HX0.out.bel)
  have HD0 := hid (h.dd.on HX0.out.bel)
  have HTK := hid h.tw.tok
  have o0 := HX0.out.o0 (Below.refl _ _)
  obtain ⟨ra, rc, hd, hrc1, hrc2⟩ := HD0.out
  have HDD := hid hd
  clear hp h hd
  go_enter Tryz.func7, Tryz.ntmps7
  obtain ⟨wb, HWB⟩ : ∃ y, Hid (w.alloc (.cells #[.int .i64 2, .bool sec, .slice ka kn kc, .slice va vn vc, .slice sa sn sc] 38) = y) := ⟨_, rfl⟩
  obtain ⟨ob, HOB⟩ : ∃ y, Hid (w.heap.size = y) := ⟨_, rfl⟩
  have p0 := HX0.out.p0 (Below.refl _ _)
  have p2 := HX0.out.p2 (Below.refl _ _)
  have r0 := HDD.out.cell
  have kl := len_ t b Z M _ HT0.out
  go_wp2_with fail
  refine kl.mono ?_
  rintro e w1 ⟨rfl, rfl⟩
  go_wp2_with fail
  go_ret
  exact ⟨by simp, HX0.out.bel⟩
set_option maxHeartbeats 8000000 in
theorem on3_ (Z : Nat → Prop) (p t b r : Nat) (x1 x3 : Value) (M : Tab) (sec : Bool) (ka va sa : Option Addr) (kn kc vn vc sn sc : Nat) (w : World) (hp : w.heap[p]? = some (.cells #[.pointer (some ⟨t, 0, none⟩), x1, .pointer (some ⟨r, 0, none⟩), x3] 34 (0, 0))) (h : Pt w Z t b r M M) (hM : M.length ≤ 10000000) :
    Calls Tryz.prog 7 #[.pointer (some ⟨p, 0, none⟩), .agg #[.int .i64 3, .bool sec, .slice ka kn kc, .slice va vn vc, .slice sa sn sc]] w fun e w' => e = .returned (.bool true) ∧ Below w.heap.size w w' := by
  have HX0 : Hid (Bx w (w.alloc (.cells #[.int .i64 3, .bool sec, .slice ka kn kc, .slice va vn vc, .slice sa sn sc] 38)) p t r w.heap.size x1 x3 3 sec (.slice ka kn kc) (.slice va vn vc) (.slice sa sn sc)) := Bx.mk' hp
  have HT0 := hid (h.tw.below HX0.out.bel)
  have HD0 := hid (h.dd.on HX0.out.bel)
  have HTK := hid h.tw.tok
  have o0 := HX0.out.o0 (Below.refl _ _)
  obtain ⟨ra, rc, hd, hrc1, hrc2⟩ := HD0.out
  have HDD := hid hd
  clear hp h hd
  go_enter Tryz.func7, Tryz.ntmps7
  obtain ⟨wb, HWB⟩ : ∃ y, Hid (w.alloc (.cells #[.int .i64 3, .bool sec, .slice ka kn kc, .slice va vn vc, .slice sa sn sc] 38) = y) := ⟨_, rfl⟩
  obtain ⟨ob, HOB⟩ : ∃ y, Hid (w.heap.size = y) := ⟨_, rfl⟩
  go_upto_region 13 with fail
  rw [HWB.out] at HX0 HT0 HD0 HDD ⊢
  rw [HOB.out] at HX0 ⊢
  clear o0
  have p0 := HX0.out.p0 (Below.refl _ _)
  have p2 := HX0.out.p2 (Below.refl _ _)
  have r0 := HDD.out.cell
  go_cut [13] from 189 to 189 (fun u13 wx => ∃ (a : Option Addr) (c : Nat), u13 = .slice a M.length c ∧ Hid (Below wb.heap.size wb wx ∧ Rl wx (fun x => wb.heap.size ≤ x) a M.length M))
  case first =>
    have hpl := World.block_lt_of_cell? wb _ p0
    have hrl := World.block_lt_of_cell? wb _ r0
    have kg := fun wx (hb : Below wb.heap.size wb wx) => rows_ t b Z M (M.length : Int) wx (HT0.out.below hb) (by omega) (by omega)
    go_region_held (fun wx => wx.cell? ⟨p, 0, none⟩ = some (.pointer (some ⟨t, 0, none⟩)) ∧ wx.cell? ⟨p, 2, none⟩ = some (.pointer (some ⟨r, 0, none⟩)) ∧ wx.cell? ⟨r, 0, none⟩ = some (.slice ra M.length rc)) (go_keep) (first | (go_at_call 13; refine (kg _ (by first | exact Below.refl _ _ | exact below_drew wb)).mono ?_; rintro e w2 ⟨a, n, c, hn, rfl, hrl2, hc1, hc2, hc3, gq⟩; subst hn; have hb2 : Below wb.heap.size wb w2 := ⟨gq.os, gq.tape, gq.output, gq.size, gq.block⟩; have y0 := (hb2.cell (p := ⟨p, 0, none⟩) hpl).trans p0; have y1 := (hb2.cell (p := ⟨p, 2, none⟩) hpl).trans p2; have y2 := (hb2.cell (p := ⟨r, 0, none⟩) hrl).trans r0; have HB2 := hid hb2; have HVS := hid hrl2; clear gq hb2 hrl2 hc1 hc2 hc3))
    clear p0 p2 r0 hpl hrl kg y0 y1 y2
    go_wp2_with fail
    go_meet
    exact ⟨a, c, rfl, HB2.out, HVS.out⟩
  obtain ⟨a, c, rfl, HR⟩ := hcut
  clear p0 p2 r0
  have p2 := HX0.out.p2 HR.out.1
  have r0 := (HDD.out.on HR.out.1).cell
  go_wp2_with fail
  refine (sameRows_ _ Z a ra M.length c M.length rc M M _ HR.out.2 (HDD.out.on HR.out.1).rl (by omega) (by omega)).mono ?_
  rintro e w6 ⟨rfl, hb6⟩
  have HST : Hid (sameT M M = true) := by simp [sameT, Hid]
  rw [HST.out]
  have HB6 : Hid (Below w.heap.size w w6) := by
    have h1 := bel_bel HR.out.1 HR.out.1.size hb6
    exact bel_bel HX0.out.bel HX0.out.bel.size h1
  clear hb6 p2 r0
  go_wp2_with fail
  go_ret
  exact ⟨rfl, HB6.out⟩
set_option maxHeartbeats 8000000 in
theorem on5_ (Z : Nat → Prop) (p t b r : Nat) (x1 x3 : Value) (M : Tab) (sec : Bool) (ka va sa : Option Addr) (kn kc vn vc sn sc : Nat) (w : World) (hp : w.heap[p]? = some (.cells #[.pointer (some ⟨t, 0, none⟩), x1, .pointer (some ⟨r, 0, none⟩), x3] 34 (0, 0))) (h : Pt w Z t b r M M) (hM : M.length ≤ 10000000) :
    Calls Tryz.prog 7 #[.pointer (some ⟨p, 0, none⟩), .agg #[.int .i64 5, .bool sec, .slice ka kn kc, .slice va vn vc, .slice sa sn sc]] w fun e w' => e = .returned (.bool true) ∧ Below w.heap.size w w' := by
  have HX0 : Hid (Bx w (w.alloc (.cells #[.int .i64 5, .bool sec, .slice ka kn kc, .slice va vn vc, .slice sa sn sc] 38)) p t r w.heap.size x1 x3 5 sec (.slice ka kn kc) (.slice va vn vc) (.slice sa sn sc)) := Bx.mk' hp
  have HT0 := hid (h.tw.below HX0.out.bel)
  have HD0 := hid (h.dd.on HX0.out.bel)
  have HTK := hid h.tw.tok
  have o0 := HX0.out.o0 (Below.refl _ _)
  obtain ⟨ra, rc, hd, hrc1, hrc2⟩ := HD0.out
  have HDD := hid hd
  clear hp h hd
  go_enter Tryz.func7, Tryz.ntmps7
  obtain ⟨wb, HWB⟩ : ∃ y, Hid (w.alloc (.cells #[.int .i64 5, .bool sec, .slice ka kn kc, .slice va vn vc, .slice sa sn sc] 38) = y) := ⟨_, rfl⟩
  obtain ⟨ob, HOB⟩ : ∃ y, Hid (w.heap.size = y) := ⟨_, rfl⟩
  have p0 := HX0.out.p0 (Below.refl _ _)
  have kb := bytes_ t b Z M _ HT0.out (by omega)
  have HEL : Hid ((enc (asS M)).length ≤ 5240000000) := by
    show _ ≤ _
    have h1 := enc_len_all (asS_may HTK.out)
    have h2 : (asS M).length = M.length := by simp [asS]
    omega
  have HOK : Hid (Okb (enc (asS M))) := enc_byte (asS_byte HTK.out)
  obtain ⟨E, HE⟩ : ∃ E, Hid (enc (asS M) = E) := ⟨_, rfl⟩
  rw [HE.out] at kb HEL HOK
  go_wp2_with fail
  refine kb.mono ?_
  rw [HWB.out] at HX0 HT0 HD0 HDD ⊢
  rintro e w1 ⟨v1, rfl, o1, g1⟩
  obtain ⟨a1, c1, hv, vs1⟩ := Vs.ofOwn o1 HOK.out
  subst hv
  have HB1 := hid g1
  have HV1 := hid vs1
  have p2 := HX0.out.p2 HB1.out
  have kr := rbytes_ Z r ra M.length rc M w1 (HDD.out.on HB1.out) HTK.out hM
  rw [HE.out] at kr
  clear kb o1 g1 vs1 p0 o0
  go_wp2_with fail
  refine kr.mono ?_
  rintro e w2 ⟨v2, rfl, o2, g2⟩
  obtain ⟨a2, c2, hv, vs2⟩ := Vs.ofOwn o2 HOK.out
  subst hv
  have HB2 : Hid (Below wb.heap.size wb w2) := bel_bel HB1.out HB1.out.size g2
  have HV12 := hid (HV1.out.bs.below g2)
  have HV2 := hid vs2.bs
  clear kr o2 g2 vs2 p2
  go_wp2_with fail
  refine (same_d a1 a2 E.length c1 E.length c2 E E _ HV12.out HV2.out (by have := HEL.out; unfold maxLen; omega) (by have := HEL.out; unfold maxLen; omega)).mono ?_
  rintro e w6 ⟨rfl, dr⟩
  rw [sameB_self]
  have HB6 : Hid (Below w.heap.size w w6) := by
    have h1 := bel_bel HB2.out HB2.out.size dr.below
    exact bel_bel HX0.out.bel HX0.out.bel.size h1
  clear dr
  go_wp2_with fail
  go_ret
  exact ⟨rfl, HB6.out⟩
end Go.Proofs.YteeapmcpbmjpmaaGreat
