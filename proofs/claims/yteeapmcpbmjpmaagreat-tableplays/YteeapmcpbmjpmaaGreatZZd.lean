import Derived.Test.YteeapmcpbmjpmaaGreatZZc
import Derived.Deep.CutRange
namespace Go.Proofs.YteeapmcpbmjpmaaGreat
set_option maxRecDepth 100000
open Go.RowKit Go.Shelf Go.Maps
set_option linter.unusedVariables false

/-! onOver: Set. -/
theorem set_yes (o b1 b2 : Nat) (V : Nat → Prop) (I W : Tab) (a p : Option Addr) (n c m d : Nat) (k v : List Int) (w : World) (h : Ov w o b1 b2 V I W) (hk : Bs w a n k) (hnc : n ≤ c) (hcm : c ≤ maxLen) (hv : Bs w p m v) (hp : p = none → d = 0) (hmd : m ≤ d) (hdm : d ≤ maxLen) (hIL : I.length ≤ 1000000000) (hq : mayS ⟨k, v, false⟩ = true) :
    Calls Tryz.prog 19 #[.pointer (some ⟨o, 0, none⟩), .slice a n c, .slice p m d] w fun e w' => e = .returned (.int .i64 0) ∧ Ov w' o b1 b2 (fun x => V x ∨ w.heap.size ≤ x) (ins k v I) W ∧ w.grownBy w' (some b1) :=
  (set_ o b1 b2 V I W a p n c m d k v w h hk hnc hcm hv hp hmd hdm hIL).mono fun e w' hp => by
    rcases hp with ⟨_, h1, h2, h3⟩ | ⟨h1, _⟩
    · exact ⟨h1, h2, h3⟩
    · rw [hq] at h1; cases h1
theorem rset_yes (Z U : Nat → Prop) (q s1 s2 : Nat) (J : Tab) (ka va : Option Addr) (kn kc vn vc : Nat) (k x : List Int) (w : World) (hq0 : w.heap[q]? = some (.cells #[.pointer (some ⟨s1, 0, none⟩), .pointer (some ⟨s2, 0, none⟩)] 77 (0, 0))) (d2 : Dq w Z s2 J) (hZ : ¬ Z s2) (hT : Tok J) (hm : J.length ≤ 1000000) (hk : Vs w U ka kn kc k) (hx : Vs w U va vn vc x) (hU : ∀ y, U y → y ≠ s2) (hq : mayS ⟨k, x, false⟩ = true) :
    Calls Tryz.prog 36 #[.pointer (some ⟨q, 0, none⟩), .slice ka kn kc, .slice va vn vc] w fun e w' => e = .returned (.int .i64 0) ∧ ApS w w' Z s2 (ins k x J) := by
  obtain ⟨a, c, hd, h1, h2⟩ := d2
  have hd' : Dd w (fun x => Z x ∧ x < w.heap.size) s2 a J.length c J := ⟨hd.var, hd.rl.wide fun x hx hz => ⟨hz, hx⟩⟩
  obtain rfl : k.length = kn := hk.bs.1
  obtain rfl : x.length = vn := hx.bs.1
  refine (rset_ (fun x => Z x ∧ x < w.heap.size) U q s2 c a J ka va kc vc k x w ((cell_of_row _ _ 1 _ _ (0, 0) hq0).trans rfl) hd' hT (by omega) h1 h2 (fun y hy => ⟨hy.2, fun e => hZ (e ▸ hy.1)⟩) hk hx hU).mono ?_
  intro e w' hp
  rcases hp with ⟨_, h3, a', c', h4, h5⟩ | ⟨h3, _⟩
  · exact ⟨h3, a', c', ⟨h4.var, h4.rl.wide fun y _ hy => ⟨hy.1.imp (fun z => z.1) id, hy.2⟩⟩, h5⟩
  · rw [hq] at h3; cases h3
theorem set_no (o b1 b2 : Nat) (V : Nat → Prop) (I W : Tab) (a p : Option Addr) (n c m d : Nat) (k v : List Int) (w : World) (h : Ov w o b1 b2 V I W) (hk : Bs w a n k) (hnc : n ≤ c) (hcm : c ≤ maxLen) (hv : Bs w p m v) (hp : p = none → d = 0) (hmd : m ≤ d) (hdm : d ≤ maxLen) (hIL : I.length ≤ 1000000000) (hq : mayS ⟨k, v, false⟩ = false) :
    Calls Tryz.prog 19 #[.pointer (some ⟨o, 0, none⟩), .slice a n c, .slice p m d] w fun e w' => e = .returned (.int .i64 114) ∧ Ov w' o b1 b2 (fun x => V x ∨ w.heap.size ≤ x) I W ∧ w.grownBy w' (some b1) :=
  (set_ o b1 b2 V I W a p n c m d k v w h hk hnc hcm hv hp hmd hdm hIL).mono fun e w' hp => by
    rcases hp with ⟨h1, _⟩ | ⟨_, h1, h2⟩
    · rw [hq] at h1; cases h1
    · exact ⟨h1, (h.below h2).wide fun x _ hx => .inl hx, (grown_of_below h2).but _⟩
theorem rset_no (Z U : Nat → Prop) (q s1 s2 : Nat) (J : Tab) (ka va : Option Addr) (kn kc vn vc : Nat) (k x : List Int) (w : World) (hq0 : w.heap[q]? = some (.cells #[.pointer (some ⟨s1, 0, none⟩), .pointer (some ⟨s2, 0, none⟩)] 77 (0, 0))) (d2 : Dq w Z s2 J) (hZ : ¬ Z s2) (hT : Tok J) (hm : J.length ≤ 1000000) (hk : Vs w U ka kn kc k) (hx : Vs w U va vn vc x) (hU : ∀ y, U y → y ≠ s2) (hq : mayS ⟨k, x, false⟩ = false) :
    Calls Tryz.prog 36 #[.pointer (some ⟨q, 0, none⟩), .slice ka kn kc, .slice va vn vc] w fun e w' => e = .returned (.int .i64 114) ∧ ApS w w' Z s2 J := by
  obtain ⟨a, c, hd, h1, h2⟩ := d2
  have hd' : Dd w (fun x => Z x ∧ x < w.heap.size) s2 a J.length c J := ⟨hd.var, hd.rl.wide fun x hx hz => ⟨hz, hx⟩⟩
  obtain rfl : k.length = kn := hk.bs.1
  obtain rfl : x.length = vn := hx.bs.1
  refine (rset_ (fun x => Z x ∧ x < w.heap.size) U q s2 c a J ka va kc vc k x w ((cell_of_row _ _ 1 _ _ (0, 0) hq0).trans rfl) hd' hT (by omega) h1 h2 (fun y hy => ⟨hy.2, fun e => hZ (e ▸ hy.1)⟩) hk hx hU).mono ?_
  intro e w' hp
  rcases hp with ⟨h3, _⟩ | ⟨_, h3, h4⟩
  · rw [hq] at h3; cases h3
  · exact ⟨h3, a, c, ⟨(h4.block s2 (Array.getElem?_eq_some_iff.1 hd.var).1).trans hd.var, (hd.rl.wide (V' := fun x => (Z x ∨ w.heap.size ≤ x) ∧ x ≠ s2) fun x _ hx => ⟨.inl hx, fun e => hZ (e ▸ hx)⟩).step fun x hx _ _ => h4.block x hx⟩, h1, h2, (grown_of_below h4).but _⟩
set_option maxHeartbeats 8000000 in
theorem on8_yes (Z : Nat → Prop) (p t r o b1 b2 q s1 s2 : Nat) (I W : Tab) (sec : Bool) (ka va sa : Option Addr) (kn kc vn vc sn sc : Nat) (k v : List Int) (w : World) (hp : w.heap[p]? = some (.cells #[.pointer (some ⟨t, 0, none⟩), .pointer (some ⟨o, 0, none⟩), .pointer (some ⟨r, 0, none⟩), .pointer (some ⟨q, 0, none⟩)] 34 (0, 0))) (h : Po w Z o b1 b2 q s1 s2 I W I) (hpb : p ≠ b1) (hps : p ≠ s2) (hM : I.length ≤ 1000000) (hk : Vs w (fun x => x ≠ b1 ∧ x ≠ s2) ka kn kc k) (hv : Vs w (fun x => x ≠ b1 ∧ x ≠ s2) va vn vc v) (hkn : kn ≤ 2000) (hvn : vn ≤ 2000) (hq : mayS ⟨k, v, false⟩ = true) :
    Calls Tryz.prog 8 #[.pointer (some ⟨p, 0, none⟩), .agg #[.int .i64 8, .bool sec, .slice ka kn kc, .slice va vn vc, .slice sa sn sc]] w fun e w' => e = .returned (.bool true) ∧ AftO w w' Z o b1 b2 q s1 s2 (ins k v I) W := by
  have HX0 : Hid (Bx w (w.alloc (.cells #[.int .i64 8, .bool sec, .slice ka kn kc, .slice va vn vc, .slice sa sn sc] 38)) p t r w.heap.size (.pointer (some ⟨o, 0, none⟩)) (.pointer (some ⟨q, 0, none⟩)) 8 sec (.slice ka kn kc) (.slice va vn vc) (.slice sa sn sc)) := Bx.mk' hp
  have HZ0 : Hid (Po w (fun x => Z x ∧ x < w.heap.size) o b1 b2 q s1 s2 I W I) := h.keep (fun _ _ _ => rfl) (fun x hx hz => ⟨hz, hx⟩) (fun y => h.n1 y.1) (fun y => h.n2 y.1)
  have HK := hid hk
  have HV := hid hv
  have HQ := hid hq
  have HN := hid (⟨h.n1, h.n2⟩ : ¬ Z b1 ∧ ¬ Z s2)
  have HTI := hid h.ov.tokI
  have HKL : Hid (k.length = kn) := hk.bs.1
  have HVL : Hid (v.length = vn) := hv.bs.1
  have hpl := (Array.getElem?_eq_some_iff.1 hp).1
  have hbl := h.ov.is.lt
  have hsl := h.d2.lt
  have o0 := HX0.out.o0 (Below.refl _ _)
  have o2 := HX0.out.o2 (Below.refl _ _)
  have o3 := HX0.out.o3 (Below.refl _ _)
  have p1 := HX0.out.p1 (Below.refl _ _)
  have p3 := HX0.out.p3 (Below.refl _ _)
  clear hp h hk hv hq
  obtain ⟨wb, HWB⟩ : ∃ y, Hid (w.alloc (.cells #[.int .i64 8, .bool sec, .slice ka kn kc, .slice va vn vc, .slice sa sn sc] 38) = y) := ⟨_, rfl⟩
  go_enter Tryz.func8, Tryz.ntmps8
  go_wp2_with fail
  rw [HWB.out] at HX0 o0 o2 o3 p1 p3 ⊢
  have hobw : w.heap.size < wb.heap.size := (Array.getElem?_eq_some_iff.1 HX0.out.bo).1
  have HBL : Hid (Below wb.heap.size wb (wb.alloc (.cells #[.slice ka kn kc, .slice va vn vc, .bool false] 44))) := (Below.refl _ _).alloc (Nat.le_refl _) _
  have hnl := heap_alloc_new wb (.cells #[.slice ka kn kc, .slice va vn vc, .bool false] 44)
  have hwbs : wb.heap.size = w.heap.size + 1 := by rw [← HWB.out]; simp
  rw [hwbs] at hnl
  have hwb1 : w.heap.size + 1 ≤ wb.heap.size := by omega
  have hwb2 : wb.heap.size ≤ w.heap.size + 1 := by omega
  clear hwbs
  have HSL : Hid (Sl (wb.alloc (.cells #[.slice ka kn kc, .slice va vn vc, .bool false] 44)) (fun y => (y ≠ b1 ∧ y ≠ s2) ∧ y < wb.heap.size + 1) (some ⟨w.heap.size + 1, 0, none⟩) 1 [⟨k, v, false⟩]) := by
    refine ⟨rfl, .inr ⟨w.heap.size + 1, 0, rfl, ⟨by omega, by omega⟩, fun i hi => ?_⟩⟩
    obtain rfl : i = 0 := by omega
    have e1 := bel_bel HX0.out.bel HX0.out.bel.size HBL.out
    have g1 : Vs (wb.alloc (.cells #[.slice ka kn kc, .slice va vn vc, .bool false] 44)) (fun y => (y ≠ b1 ∧ y ≠ s2) ∧ y < wb.heap.size + 1) ka kn kc k := ((HK.out.wide (V' := fun y => (y ≠ b1 ∧ y ≠ s2) ∧ y < w.heap.size) fun y hy hz => ⟨hz, hy⟩).step fun y hy _ _ => e1.block y hy).wide fun y _ hz => ⟨hz.1, by have := hz.2; omega⟩
    have g2 : Vs (wb.alloc (.cells #[.slice ka kn kc, .slice va vn vc, .bool false] 44)) (fun y => (y ≠ b1 ∧ y ≠ s2) ∧ y < wb.heap.size + 1) va vn vc v := ((HV.out.wide (V' := fun y => (y ≠ b1 ∧ y ≠ s2) ∧ y < w.heap.size) fun y hy hz => ⟨hz, hy⟩).step fun y hy _ _ => e1.block y hy).wide fun y _ hz => ⟨hz.1, by have := hz.2; omega⟩
    refine ⟨ka, kc, va, vc, ?_, ?_, (cell_of_row _ _ 2 _ _ (0, 0) hnl).trans rfl, ?_, ?_⟩
    · show _ = some (Value.slice ka k.length kc); rw [HKL.out]; exact (cell_of_row _ _ 0 _ _ (0, 0) hnl).trans rfl
    · show _ = some (Value.slice va v.length vc); rw [HVL.out]; exact (cell_of_row _ _ 1 _ _ (0, 0) hnl).trans rfl
    · show Vs _ _ _ k.length _ _; rw [HKL.out]; exact g1
    · show Vs _ _ _ v.length _ _; rw [HVL.out]; exact g2
  have HSH : Hid (∀ s ∈ [(⟨k, v, false⟩ : Sx)], s.k.length ≤ 2000 ∧ s.v.length ≤ 2000) := fun s hs => by
    rw [List.mem_singleton] at hs
    subst hs
    exact ⟨by rw [HKL.out]; exact hkn, by rw [HVL.out]; exact hvn⟩
  have HBW : Hid (Below w.heap.size w (wb.alloc (.cells #[.slice ka kn kc, .slice va vn vc, .bool false] 44))) := bel_bel HX0.out.bel HX0.out.bel.size HBL.out
  have HXL : Hid (Bx w (wb.alloc (.cells #[.slice ka kn kc, .slice va vn vc, .bool false] 44)) p t r w.heap.size (.pointer (some ⟨o, 0, none⟩)) (.pointer (some ⟨q, 0, none⟩)) 8 sec (.slice ka kn kc) (.slice va vn vc) (.slice sa sn sc)) := ⟨HBW.out, (HBL.out.block p (by omega)).trans HX0.out.pr, (HBL.out.block w.heap.size hobw).trans HX0.out.bo⟩
  have hsl0 : (wb.alloc (.cells #[.slice ka kn kc, .slice va vn vc, .bool false] 44)).heap.size = wb.heap.size + 1 := by simp
  clear o0 o2 o3 p1 p3 hnl
  obtain ⟨wl, HWL⟩ : ∃ y, Hid (wb.alloc (.cells #[.slice ka kn kc, .slice va vn vc, .bool false] 44) = y) := ⟨_, rfl⟩
  rw [HWL.out] at HSL HBW HXL HBL hsl0 ⊢
  have hs01 : wb.heap.size + 1 ≤ wl.heap.size := by omega
  have hs02 : wl.heap.size ≤ wb.heap.size + 1 := by omega
  clear hsl0
  refine (lend_ _ (some ⟨w.heap.size + 1, 0, none⟩) 1 1 [⟨k, v, false⟩] wl HSL.out (by omega) HSH.out).mono ?_
  rintro e w3 ⟨m, vs, vk, vv, es, rfl, ln, hes⟩
  have HEN : Hid (es.length = 1) := by have h := congrArg List.length hes; show _ = _; simpa using h
  have HES := hid hes
  have HLn := hid ln
  have HB3 := hid ln.bel
  rw [endS_eqZ] at ln
  obtain ⟨gs, cs, hvs, hcs, hcm, hsl3⟩ := ln.sl
  rw [HEN.out] at hvs hcs hsl3
  have hcut : (es.map (·.s) ++ [(⟨[], [], true⟩ : Sx)]).take 1 = [⟨k, v, false⟩] := by rw [hes]; rfl
  have HSM := hid (hsl3.cut (k := 1) (by omega))
  rw [hcut] at HSM
  obtain ⟨gb, goff, ka', kc', va', vc', kn', vn', ege, ekn, evn, c0, c1, _, v1, v2⟩ := HSM.out.at (k := 0) (by omega)
  obtain ⟨rfl, rfl⟩ : gs = gb ∧ 0 = goff := by simpa using ege
  have ekn2 : kn' = kn := by rw [ekn]; show k.length = kn; exact HKL.out
  have evn2 : vn' = vn := by rw [evn]; show v.length = vn; exact HVL.out
  subst ekn2 evn2
  have C0 : Hid (w3.cell? ⟨gs, 0, none⟩ = some (.slice ka' kn' kc')) := by show _ = _; simpa using c0
  have C1 : Hid (w3.cell? ⟨gs, 1, none⟩ = some (.slice va' vn' vc')) := by show _ = _; simpa using c1
  have V1 : Hid (Vs w3 (fun x => wl.heap.size ≤ x) ka' kn' kc' k) := v1
  have V2 : Hid (Vs w3 (fun x => wl.heap.size ≤ x) va' vn' vc' v) := v2
  have CM : Hid (w3.cell? ⟨m, 0, none⟩ = some (.slice (some ⟨gs, 0, none⟩) (1 + 1) cs)) := by
    show _ = _
    rw [cell_of_row w3 m 0 _ 82 (0, 0) ln.var, hvs]; rfl
  have HMW := hid (⟨ln.lo, ln.mlt⟩ : wl.heap.size ≤ m ∧ m < w3.heap.size)
  have HGS : Hid (wl.heap.size ≤ gs ∧ gs < w3.heap.size) := by
    have h1 := World.block_lt_of_cell? w3 _ C0.out
    have h2 := ln.os.lt gs (by rw [hvs]; rfl)
    exact ⟨h2.1, h1⟩
  have hsz3 := HB3.out.size
  clear ln hes hvs hsl3 hcut c0 c1 v1 v2 hcs hcm ege ekn evn
  have HZ2 : Hid (Po w3 (fun x => Z x ∧ x < w.heap.size) o b1 b2 q s1 s2 I W I) := (HZ0.out.keep (w' := wl) (Z' := fun x => Z x ∧ x < w.heap.size) (fun x hx _ => HBW.out.block x hx) (fun _ _ hz => hz) HZ0.out.n1 HZ0.out.n2).keep (fun x hx _ => HB3.out.block x hx) (fun _ _ hz => hz) HZ0.out.n1 HZ0.out.n2
  go_upto_region 14 with fail
  go_cut [14] from 185 to 185 (fun u14 wx => u14 = .int .i64 0 ∧ Hid (Ov wx o b1 b2 (fun x => (Z x ∧ x < w.heap.size) ∨ w3.heap.size ≤ x) (ins k v I) W ∧ w3.grownBy wx (some b1)))
  case first =>
    have p1 := HXL.out.p1 HB3.out
    have cm := CM.out
    have c0 := C0.out
    have c1 := C1.out
    have hpl3 := World.block_lt_of_cell? w3 _ p1
    have kg := fun wx (hb : Below w3.heap.size w3 wx) => set_yes o b1 b2 (fun x => Z x ∧ x < w.heap.size) I W ka' va' kn' kc' vn' vc' k v wx (HZ2.out.ov.below hb) (V1.out.bs.below hb) V1.out.nc V1.out.cm (V2.out.bs.below hb) V2.out.nil V2.out.nc V2.out.cm (by omega) HQ.out
    go_region_held (fun wx => wx.cell? ⟨p, 1, none⟩ = some (.pointer (some ⟨o, 0, none⟩)) ∧ wx.cell? ⟨m, 0, none⟩ = some (.slice (some ⟨gs, 0, none⟩) (1 + 1) cs) ∧ wx.cell? ⟨gs, 0, none⟩ = some (.slice ka' kn' kc') ∧ wx.cell? ⟨gs, 1, none⟩ = some (.slice va' vn' vc')) (go_keep) (first | (go_at_call 19; refine (kg _ (by first | exact below_drew w3 | exact Below.refl _ _)).mono ?_; rintro e w4 ⟨rfl, ov4, g4⟩; have y0 := (World.cell?_of_block (w := w3) (w' := w4) (a := ⟨p, 1, none⟩) (g4.block p hpl3 (fun e => hpb (Option.some.inj e)))).trans p1; have y1 := (World.cell?_of_block (w := w3) (w' := w4) (a := ⟨m, 0, none⟩) (g4.block m HMW.out.2 (fun e => by have := Option.some.inj e; have := HMW.out.1; omega))).trans cm; have y2 := (World.cell?_of_block (w := w3) (w' := w4) (a := ⟨gs, 0, none⟩) (g4.block gs HGS.out.2 (fun e => by have := Option.some.inj e; have := HGS.out.1; omega))).trans c0; have y3 := (World.cell?_of_block (w := w3) (w' := w4) (a := ⟨gs, 1, none⟩) (g4.block gs HGS.out.2 (fun e => by have := Option.some.inj e; have := HGS.out.1; omega))).trans c1; have HOV := hid ov4; have HG4 : Hid (w3.grownBy w4 (some b1)) := ⟨g4.os, g4.tape, g4.output, g4.size, g4.block⟩; clear ov4 g4))
    clear p1 cm c0 c1 hpl3 kg y0 y1 y2 y3
    go_wp2_with fail
    go_meet
    exact ⟨rfl, HOV.out, HG4.out⟩
  obtain ⟨rfl, HR⟩ := hcut
  have HZ3 := hid (HZ2.out.turnI HR.out.2 HR.out.1)
  have hszc := HR.out.2.size
  have HC : Hid (∀ x, x < w3.heap.size → x ≠ b1 → wc.heap[x]? = w3.heap[x]?) := fun x hx hn => HR.out.2.block x hx (fun e => hn (Option.some.inj e))
  have hln' := HLn.out.by HR.out.2 (by omega)
  rw [endS_eqZ] at hln'
  have HSW : Hid (Sl wc (fun y => (y ≠ b1 ∧ y ≠ s2) ∧ y < wb.heap.size + 1) (some ⟨w.heap.size + 1, 0, none⟩) 1 [⟨k, v, false⟩]) := HSL.out.step fun x hx hu _ => (HC.out x (by omega) hu.1.1).trans (HB3.out.block x hx)
  have kh := held_ (tr wc wl.heap.size) wc m vs vk vv es _ (some ⟨w.heap.size + 1, 0, none⟩) 1 1 [⟨k, v, false⟩] hln' HSW.out HES.out (fun x _ hu => ⟨fun e he => ⟨by have := hu.2; have := (HLn.out.y e he).bk; omega, by have := hu.2; have := (HLn.out.y e he).bv; omega⟩, fun f => by have := (HLn.out.os.lt x f).1; have := hu.2; omega⟩) (by omega) HSH.out
  clear hln'
  go_wp2_with fail
  refine kh.mono ?_
  rintro e w7 ⟨rfl, b7, s7, k7⟩
  have HK7 : Hid (∀ x, x < wc.heap.size → (x < wl.heap.size ∨ w3.heap.size ≤ x) → w7.heap[x]? = wc.heap[x]?) := fun x hx hz => k7 x hx (fun e he => ⟨by have := (HLn.out.y e he).bk; have := (HLn.out.y e he).k.lt; omega, by have := (HLn.out.y e he).bv; have := (HLn.out.y e he).v.lt; omega⟩) (fun f => by have := HLn.out.os.lt x f; omega)
  have HC7 := hid (⟨b7.os, b7.tape, b7.output, s7⟩ : w7.os = wc.os ∧ w7.tape = wc.tape ∧ w7.output = wc.output ∧ wc.heap.size ≤ w7.heap.size)
  have H07 : Hid (∀ x, x < wl.heap.size → x ≠ b1 → w7.heap[x]? = wl.heap[x]?) := fun x hx hn => by rw [HK7.out x (by omega) (.inl hx), HC.out x (by omega) hn, HB3.out.block x hx]
  have HZ4 : Hid (Po w7 (fun x => (Z x ∧ x < w.heap.size) ∨ w3.heap.size ≤ x) o b1 b2 q s1 s2 (ins k v I) W I) := HZ3.out.keep (fun x hx hz => HK7.out x hx (by
    rcases hz with (hz | hz) | rfl | rfl
    · exact .inl (by have := hz.2; omega)
    · exact .inr hz
    · exact .inl (by omega)
    · exact .inl (by omega))) (fun _ _ hz => hz) HZ3.out.n1 HZ3.out.n2
  have p37 : w7.cell? ⟨p, 3, none⟩ = some (.pointer (some ⟨q, 0, none⟩)) := (World.cell?_of_block (w := wl) (w' := w7) (a := ⟨p, 3, none⟩) (H07.out p (by omega) hpb)).trans (HXL.out.p3 (Below.refl _ _))
  have o27 : w7.cell? ⟨w.heap.size, 2, none⟩ = some (.slice ka kn' kc) := (World.cell?_of_block (w := wl) (w' := w7) (a := ⟨w.heap.size, 2, none⟩) (H07.out w.heap.size (by omega) (by omega))).trans (HXL.out.o2 (Below.refl _ _))
  have o37 : w7.cell? ⟨w.heap.size, 3, none⟩ = some (.slice va vn' vc) := (World.cell?_of_block (w := wl) (w' := w7) (a := ⟨w.heap.size, 3, none⟩) (H07.out w.heap.size (by omega) (by omega))).trans (HXL.out.o3 (Below.refl _ _))
  have HK7k : Hid (Vs w7 (fun x => x ≠ b1 ∧ x ≠ s2) ka kn' kc k) := (HK.out.step fun x hx _ _ => HBW.out.block x hx).step fun x hx hz _ => H07.out x hx hz.1
  have HV7k : Hid (Vs w7 (fun x => x ≠ b1 ∧ x ≠ s2) va vn' vc v) := (HV.out.step fun x hx _ _ => HBW.out.block x hx).step fun x hx hz _ => H07.out x hx hz.1
  clear kh b7 s7 k7
  go_upto_region 16 with fail
  go_cut [16] from 185 to 185 (fun u16 wx => u16 = .int .i64 0 ∧ Hid (ApS w7 wx (fun x => (Z x ∧ x < w.heap.size) ∨ w3.heap.size ≤ x) s2 (ins k v I)))
  case first =>
    have hpl7 := World.block_lt_of_cell? w7 _ p37
    have hol := World.block_lt_of_cell? w7 _ o27
    have kg := fun wx (hb : Below w7.heap.size w7 wx) => rset_yes (fun x => (Z x ∧ x < w.heap.size) ∨ w3.heap.size ≤ x) (fun x => x ≠ b1 ∧ x ≠ s2) q s1 s2 I ka va kn' kc vn' vc k v wx ((hb.block q (Array.getElem?_eq_some_iff.1 HZ4.out.qo).1).trans HZ4.out.qo) (HZ4.out.d2.on hb) HZ4.out.n2 HTI.out hM (HK7k.out.step fun x hx _ _ => hb.block x hx) (HV7k.out.step fun x hx _ _ => hb.block x hx) (fun y hy => hy.2) HQ.out
    go_region_held (fun wx => wx.cell? ⟨p, 3, none⟩ = some (.pointer (some ⟨q, 0, none⟩)) ∧ wx.cell? ⟨w.heap.size, 2, none⟩ = some (.slice ka kn' kc) ∧ wx.cell? ⟨w.heap.size, 3, none⟩ = some (.slice va vn' vc)) (go_keep) (first | (go_at_call 36; refine (kg _ (by first | exact below_drew w7 | exact Below.refl _ _)).mono ?_; rintro e w5 ⟨rfl, ap⟩; have HAP : Hid (ApS w7 w5 (fun x => (Z x ∧ x < w.heap.size) ∨ w3.heap.size ≤ x) s2 (ins k v I)) := (by obtain ⟨a, c, h1, h2, h3, h4⟩ := ap; exact ⟨a, c, h1, h2, h3, ⟨h4.os, h4.tape, h4.output, h4.size, h4.block⟩⟩); have g5 : w7.grownBy w5 (some s2) := (by obtain ⟨a, c, h1, h2, h3, h4⟩ := HAP.out; exact h4); have y0 := (World.cell?_of_block (w := w7) (w' := w5) (a := ⟨p, 3, none⟩) (g5.block p hpl7 (fun e => hps (Option.some.inj e)))).trans p37; have y1 := (World.cell?_of_block (w := w7) (w' := w5) (a := ⟨w.heap.size, 2, none⟩) (g5.block w.heap.size hol (fun e => by have := Option.some.inj e; omega))).trans o27; have y2 := (World.cell?_of_block (w := w7) (w' := w5) (a := ⟨w.heap.size, 3, none⟩) (g5.block w.heap.size hol (fun e => by have := Option.some.inj e; omega))).trans o37; clear ap g5))
    clear p37 o27 o37 hpl7 hol kg y0 y1 y2
    go_wp2_with fail
    go_meet
    exact ⟨rfl, HAP.out⟩
  obtain ⟨rfl, HR5⟩ := hcut
  have HF : Hid (AftO w wc Z o b1 b2 q s1 s2 (ins k v I) W) := by
    obtain ⟨a5, c5, e1, e2, e3, g5⟩ := HR5.out
    refine ⟨_, HZ4.out.turnJ HR5.out, fun x hx => ⟨fun y => ?_, fun y => ⟨.inl (.inl ⟨y, hx⟩), fun e => HN.out.2 (e ▸ y)⟩⟩, ⟨g5.os.trans (HC7.out.1.trans (HR.out.2.os.trans (HB3.out.os.trans HBW.out.os))), g5.tape.trans (HC7.out.2.1.trans (HR.out.2.tape.trans (HB3.out.tape.trans HBW.out.tape))), g5.output.trans (HC7.out.2.2.1.trans (HR.out.2.output.trans (HB3.out.output.trans HBW.out.output))), by have := g5.size; have := HC7.out.2.2.2; omega, fun x hx hn => ?_⟩⟩
    · rcases y.1 with (y | y) | y
      · exact y.1
      · omega
      · have := HC7.out.2.2.2; omega
    · have := HC7.out.2.2.2
      rw [g5.block x (by omega) (fun e => hn (.inr (Option.some.inj e))), H07.out x (by omega) (fun e => hn (.inl e)), HBW.out.block x hx]
  clear p37 o27 o37
  go_wp2_with (go_at_call 15; refine (num_ _ _).mono ?_; rintro e wn ⟨rfl, hw⟩; obtain rfl := hw.symm; clear hw)
  go_ret
  exact ⟨by simp, HF.out⟩
set_option maxHeartbeats 8000000 in
theorem on8_no (Z : Nat → Prop) (p t r o b1 b2 q s1 s2 : Nat) (I W : Tab) (sec : Bool) (ka va sa : Option Addr) (kn kc vn vc sn sc : Nat) (k v : List Int) (w : World) (hp : w.heap[p]? = some (.cells #[.pointer (some ⟨t, 0, none⟩), .pointer (some ⟨o, 0, none⟩), .pointer (some ⟨r, 0, none⟩), .pointer (some ⟨q, 0, none⟩)] 34 (0, 0))) (h : Po w Z o b1 b2 q s1 s2 I W I) (hpb : p ≠ b1) (hps : p ≠ s2) (hM : I.length ≤ 1000000) (hk : Vs w (fun x => x ≠ b1 ∧ x ≠ s2) ka kn kc k) (hv : Vs w (fun x => x ≠ b1 ∧ x ≠ s2) va vn vc v) (hkn : kn ≤ 2000) (hvn : vn ≤ 2000) (hq : mayS ⟨k, v, false⟩ = false) :
    Calls Tryz.prog 8 #[.pointer (some ⟨p, 0, none⟩), .agg #[.int .i64 8, .bool sec, .slice ka kn kc, .slice va vn vc, .slice sa sn sc]] w fun e w' => e = .returned (.bool true) ∧ AftO w w' Z o b1 b2 q s1 s2 I W := by
  have HX0 : Hid (Bx w (w.alloc (.cells #[.int .i64 8, .bool sec, .slice ka kn kc, .slice va vn vc, .slice sa sn sc] 38)) p t r w.heap.size (.pointer (some ⟨o, 0, none⟩)) (.pointer (some ⟨q, 0, none⟩)) 8 sec (.slice ka kn kc) (.slice va vn vc) (.slice sa sn sc)) := Bx.mk' hp
  have HZ0 : Hid (Po w (fun x => Z x ∧ x < w.heap.size) o b1 b2 q s1 s2 I W I) := h.keep (fun _ _ _ => rfl) (fun x hx hz => ⟨hz, hx⟩) (fun y => h.n1 y.1) (fun y => h.n2 y.1)
  have HK := hid hk
  have HV := hid hv
  have HQ := hid hq
  have HN := hid (⟨h.n1, h.n2⟩ : ¬ Z b1 ∧ ¬ Z s2)
  have HTI := hid h.ov.tokI
  have HKL : Hid (k.length = kn) := hk.bs.1
  have HVL : Hid (v.length = vn) := hv.bs.1
  have hpl := (Array.getElem?_eq_some_iff.1 hp).1
  have hbl := h.ov.is.lt
  have hsl := h.d2.lt
  have o0 := HX0.out.o0 (Below.refl _ _)
  have o2 := HX0.out.o2 (Below.refl _ _)
  have o3 := HX0.out.o3 (Below.refl _ _)
  have p1 := HX0.out.p1 (Below.refl _ _)
  have p3 := HX0.out.p3 (Below.refl _ _)
  clear hp h hk hv hq
  obtain ⟨wb, HWB⟩ : ∃ y, Hid (w.alloc (.cells #[.int .i64 8, .bool sec, .slice ka kn kc, .slice va vn vc, .slice sa sn sc] 38) = y) := ⟨_, rfl⟩
  go_enter Tryz.func8, Tryz.ntmps8
  go_wp2_with fail
  rw [HWB.out] at HX0 o0 o2 o3 p1 p3 ⊢
  have hobw : w.heap.size < wb.heap.size := (Array.getElem?_eq_some_iff.1 HX0.out.bo).1
  have HBL : Hid (Below wb.heap.size wb (wb.alloc (.cells #[.slice ka kn kc, .slice va vn vc, .bool false] 44))) := (Below.refl _ _).alloc (Nat.le_refl _) _
  have hnl := heap_alloc_new wb (.cells #[.slice ka kn kc, .slice va vn vc, .bool false] 44)
  have hwbs : wb.heap.size = w.heap.size + 1 := by rw [← HWB.out]; simp
  rw [hwbs] at hnl
  have hwb1 : w.heap.size + 1 ≤ wb.heap.size := by omega
  have hwb2 : wb.heap.size ≤ w.heap.size + 1 := by omega
  clear hwbs
  have HSL : Hid (Sl (wb.alloc (.cells #[.slice ka kn kc, .slice va vn vc, .bool false] 44)) (fun y => (y ≠ b1 ∧ y ≠ s2) ∧ y < wb.heap.size + 1) (some ⟨w.heap.size + 1, 0, none⟩) 1 [⟨k, v, false⟩]) := by
    refine ⟨rfl, .inr ⟨w.heap.size + 1, 0, rfl, ⟨by omega, by omega⟩, fun i hi => ?_⟩⟩
    obtain rfl : i = 0 := by omega
    have e1 := bel_bel HX0.out.bel HX0.out.bel.size HBL.out
    have g1 : Vs (wb.alloc (.cells #[.slice ka kn kc, .slice va vn vc, .bool false] 44)) (fun y => (y ≠ b1 ∧ y ≠ s2) ∧ y < wb.heap.size + 1) ka kn kc k := ((HK.out.wide (V' := fun y => (y ≠ b1 ∧ y ≠ s2) ∧ y < w.heap.size) fun y hy hz => ⟨hz, hy⟩).step fun y hy _ _ => e1.block y hy).wide fun y _ hz => ⟨hz.1, by have := hz.2; omega⟩
    have g2 : Vs (wb.alloc (.cells #[.slice ka kn kc, .slice va vn vc, .bool false] 44)) (fun y => (y ≠ b1 ∧ y ≠ s2) ∧ y < wb.heap.size + 1) va vn vc v := ((HV.out.wide (V' := fun y => (y ≠ b1 ∧ y ≠ s2) ∧ y < w.heap.size) fun y hy hz => ⟨hz, hy⟩).step fun y hy _ _ => e1.block y hy).wide fun y _ hz => ⟨hz.1, by have := hz.2; omega⟩
    refine ⟨ka, kc, va, vc, ?_, ?_, (cell_of_row _ _ 2 _ _ (0, 0) hnl).trans rfl, ?_, ?_⟩
    · show _ = some (Value.slice ka k.length kc); rw [HKL.out]; exact (cell_of_row _ _ 0 _ _ (0, 0) hnl).trans rfl
    · show _ = some (Value.slice va v.length vc); rw [HVL.out]; exact (cell_of_row _ _ 1 _ _ (0, 0) hnl).trans rfl
    · show Vs _ _ _ k.length _ _; rw [HKL.out]; exact g1
    · show Vs _ _ _ v.length _ _; rw [HVL.out]; exact g2
  have HSH : Hid (∀ s ∈ [(⟨k, v, false⟩ : Sx)], s.k.length ≤ 2000 ∧ s.v.length ≤ 2000) := fun s hs => by
    rw [List.mem_singleton] at hs
    subst hs
    exact ⟨by rw [HKL.out]; exact hkn, by rw [HVL.out]; exact hvn⟩
  have HBW : Hid (Below w.heap.size w (wb.alloc (.cells #[.slice ka kn kc, .slice va vn vc, .bool false] 44))) := bel_bel HX0.out.bel HX0.out.bel.size HBL.out
  have HXL : Hid (Bx w (wb.alloc (.cells #[.slice ka kn kc, .slice va vn vc, .bool false] 44)) p t r w.heap.size (.pointer (some ⟨o, 0, none⟩)) (.pointer (some ⟨q, 0, none⟩)) 8 sec (.slice ka kn kc) (.slice va vn vc) (.slice sa sn sc)) := ⟨HBW.out, (HBL.out.block p (by omega)).trans HX0.out.pr, (HBL.out.block w.heap.size hobw).trans HX0.out.bo⟩
  have hsl0 : (wb.alloc (.cells #[.slice ka kn kc, .slice va vn vc, .bool false] 44)).heap.size = wb.heap.size + 1 := by simp
  clear o0 o2 o3 p1 p3 hnl
  obtain ⟨wl, HWL⟩ : ∃ y, Hid (wb.alloc (.cells #[.slice ka kn kc, .slice va vn vc, .bool false] 44) = y) := ⟨_, rfl⟩
  rw [HWL.out] at HSL HBW HXL HBL hsl0 ⊢
  have hs01 : wb.heap.size + 1 ≤ wl.heap.size := by omega
  have hs02 : wl.heap.size ≤ wb.heap.size + 1 := by omega
  clear hsl0
  refine (lend_ _ (some ⟨w.heap.size + 1, 0, none⟩) 1 1 [⟨k, v, false⟩] wl HSL.out (by omega) HSH.out).mono ?_
  rintro e w3 ⟨m, vs, vk, vv, es, rfl, ln, hes⟩
  have HEN : Hid (es.length = 1) := by have h := congrArg List.length hes; show _ = _; simpa using h
  have HES := hid hes
  have HLn := hid ln
  have HB3 := hid ln.bel
  rw [endS_eqZ] at ln
  obtain ⟨gs, cs, hvs, hcs, hcm, hsl3⟩ := ln.sl
  rw [HEN.out] at hvs hcs hsl3
  have hcut : (es.map (·.s) ++ [(⟨[], [], true⟩ : Sx)]).take 1 = [⟨k, v, false⟩] := by rw [hes]; rfl
  have HSM := hid (hsl3.cut (k := 1) (by omega))
  rw [hcut] at HSM
  obtain ⟨gb, goff, ka', kc', va', vc', kn', vn', ege, ekn, evn, c0, c1, _, v1, v2⟩ := HSM.out.at (k := 0) (by omega)
  obtain ⟨rfl, rfl⟩ : gs = gb ∧ 0 = goff := by simpa using ege
  have ekn2 : kn' = kn := by rw [ekn]; show k.length = kn; exact HKL.out
  have evn2 : vn' = vn := by rw [evn]; show v.length = vn; exact HVL.out
  subst ekn2 evn2
  have C0 : Hid (w3.cell? ⟨gs, 0, none⟩ = some (.slice ka' kn' kc')) := by show _ = _; simpa using c0
  have C1 : Hid (w3.cell? ⟨gs, 1, none⟩ = some (.slice va' vn' vc')) := by show _ = _; simpa using c1
  have V1 : Hid (Vs w3 (fun x => wl.heap.size ≤ x) ka' kn' kc' k) := v1
  have V2 : Hid (Vs w3 (fun x => wl.heap.size ≤ x) va' vn' vc' v) := v2
  have CM : Hid (w3.cell? ⟨m, 0, none⟩ = some (.slice (some ⟨gs, 0, none⟩) (1 + 1) cs)) := by
    show _ = _
    rw [cell_of_row w3 m 0 _ 82 (0, 0) ln.var, hvs]; rfl
  have HMW := hid (⟨ln.lo, ln.mlt⟩ : wl.heap.size ≤ m ∧ m < w3.heap.size)
  have HGS : Hid (wl.heap.size ≤ gs ∧ gs < w3.heap.size) := by
    have h1 := World.block_lt_of_cell? w3 _ C0.out
    have h2 := ln.os.lt gs (by rw [hvs]; rfl)
    exact ⟨h2.1, h1⟩
  have hsz3 := HB3.out.size
  clear ln hes hvs hsl3 hcut c0 c1 v1 v2 hcs hcm ege ekn evn
  have HZ2 : Hid (Po w3 (fun x => Z x ∧ x < w.heap.size) o b1 b2 q s1 s2 I W I) := (HZ0.out.keep (w' := wl) (Z' := fun x => Z x ∧ x < w.heap.size) (fun x hx _ => HBW.out.block x hx) (fun _ _ hz => hz) HZ0.out.n1 HZ0.out.n2).keep (fun x hx _ => HB3.out.block x hx) (fun _ _ hz => hz) HZ0.out.n1 HZ0.out.n2
  go_upto_region 14 with fail
  go_cut [14] from 185 to 185 (fun u14 wx => u14 = .int .i64 114 ∧ Hid (Ov wx o b1 b2 (fun x => (Z x ∧ x < w.heap.size) ∨ w3.heap.size ≤ x) I W ∧ w3.grownBy wx (some b1)))
  case first =>
    have p1 := HXL.out.p1 HB3.out
    have cm := CM.out
    have c0 := C0.out
    have c1 := C1.out
    have hpl3 := World.block_lt_of_cell? w3 _ p1
    have kg := fun wx (hb : Below w3.heap.size w3 wx) => set_no o b1 b2 (fun x => Z x ∧ x < w.heap.size) I W ka' va' kn' kc' vn' vc' k v wx (HZ2.out.ov.below hb) (V1.out.bs.below hb) V1.out.nc V1.out.cm (V2.out.bs.below hb) V2.out.nil V2.out.nc V2.out.cm (by omega) HQ.out
    go_region_held (fun wx => wx.cell? ⟨p, 1, none⟩ = some (.pointer (some ⟨o, 0, none⟩)) ∧ wx.cell? ⟨m, 0, none⟩ = some (.slice (some ⟨gs, 0, none⟩) (1 + 1) cs) ∧ wx.cell? ⟨gs, 0, none⟩ = some (.slice ka' kn' kc') ∧ wx.cell? ⟨gs, 1, none⟩ = some (.slice va' vn' vc')) (go_keep) (first | (go_at_call 19; refine (kg _ (by first | exact below_drew w3 | exact Below.refl _ _)).mono ?_; rintro e w4 ⟨rfl, ov4, g4⟩; have y0 := (World.cell?_of_block (w := w3) (w' := w4) (a := ⟨p, 1, none⟩) (g4.block p hpl3 (fun e => hpb (Option.some.inj e)))).trans p1; have y1 := (World.cell?_of_block (w := w3) (w' := w4) (a := ⟨m, 0, none⟩) (g4.block m HMW.out.2 (fun e => by have := Option.some.inj e; have := HMW.out.1; omega))).trans cm; have y2 := (World.cell?_of_block (w := w3) (w' := w4) (a := ⟨gs, 0, none⟩) (g4.block gs HGS.out.2 (fun e => by have := Option.some.inj e; have := HGS.out.1; omega))).trans c0; have y3 := (World.cell?_of_block (w := w3) (w' := w4) (a := ⟨gs, 1, none⟩) (g4.block gs HGS.out.2 (fun e => by have := Option.some.inj e; have := HGS.out.1; omega))).trans c1; have HOV := hid ov4; have HG4 : Hid (w3.grownBy w4 (some b1)) := ⟨g4.os, g4.tape, g4.output, g4.size, g4.block⟩; clear ov4 g4))
    clear p1 cm c0 c1 hpl3 kg y0 y1 y2 y3
    go_wp2_with fail
    go_meet
    exact ⟨rfl, HOV.out, HG4.out⟩
  obtain ⟨rfl, HR⟩ := hcut
  have HZ3 := hid (HZ2.out.turnI HR.out.2 HR.out.1)
  have hszc := HR.out.2.size
  have HC : Hid (∀ x, x < w3.heap.size → x ≠ b1 → wc.heap[x]? = w3.heap[x]?) := fun x hx hn => HR.out.2.block x hx (fun e => hn (Option.some.inj e))
  have hln' := HLn.out.by HR.out.2 (by omega)
  rw [endS_eqZ] at hln'
  have HSW : Hid (Sl wc (fun y => (y ≠ b1 ∧ y ≠ s2) ∧ y < wb.heap.size + 1) (some ⟨w.heap.size + 1, 0, none⟩) 1 [⟨k, v, false⟩]) := HSL.out.step fun x hx hu _ => (HC.out x (by omega) hu.1.1).trans (HB3.out.block x hx)
  have kh := held_ (tr wc wl.heap.size) wc m vs vk vv es _ (some ⟨w.heap.size + 1, 0, none⟩) 1 1 [⟨k, v, false⟩] hln' HSW.out HES.out (fun x _ hu => ⟨fun e he => ⟨by have := hu.2; have := (HLn.out.y e he).bk; omega, by have := hu.2; have := (HLn.out.y e he).bv; omega⟩, fun f => by have := (HLn.out.os.lt x f).1; have := hu.2; omega⟩) (by omega) HSH.out
  clear hln'
  go_wp2_with fail
  refine kh.mono ?_
  rintro e w7 ⟨rfl, b7, s7, k7⟩
  have HK7 : Hid (∀ x, x < wc.heap.size → (x < wl.heap.size ∨ w3.heap.size ≤ x) → w7.heap[x]? = wc.heap[x]?) := fun x hx hz => k7 x hx (fun e he => ⟨by have := (HLn.out.y e he).bk; have := (HLn.out.y e he).k.lt; omega, by have := (HLn.out.y e he).bv; have := (HLn.out.y e he).v.lt; omega⟩) (fun f => by have := HLn.out.os.lt x f; omega)
  have HC7 := hid (⟨b7.os, b7.tape, b7.output, s7⟩ : w7.os = wc.os ∧ w7.tape = wc.tape ∧ w7.output = wc.output ∧ wc.heap.size ≤ w7.heap.size)
  have H07 : Hid (∀ x, x < wl.heap.size → x ≠ b1 → w7.heap[x]? = wl.heap[x]?) := fun x hx hn => by rw [HK7.out x (by omega) (.inl hx), HC.out x (by omega) hn, HB3.out.block x hx]
  have HZ4 : Hid (Po w7 (fun x => (Z x ∧ x < w.heap.size) ∨ w3.heap.size ≤ x) o b1 b2 q s1 s2 I W I) := HZ3.out.keep (fun x hx hz => HK7.out x hx (by
    rcases hz with (hz | hz) | rfl | rfl
    · exact .inl (by have := hz.2; omega)
    · exact .inr hz
    · exact .inl (by omega)
    · exact .inl (by omega))) (fun _ _ hz => hz) HZ3.out.n1 HZ3.out.n2
  have p37 : w7.cell? ⟨p, 3, none⟩ = some (.pointer (some ⟨q, 0, none⟩)) := (World.cell?_of_block (w := wl) (w' := w7) (a := ⟨p, 3, none⟩) (H07.out p (by omega) hpb)).trans (HXL.out.p3 (Below.refl _ _))
  have o27 : w7.cell? ⟨w.heap.size, 2, none⟩ = some (.slice ka kn' kc) := (World.cell?_of_block (w := wl) (w' := w7) (a := ⟨w.heap.size, 2, none⟩) (H07.out w.heap.size (by omega) (by omega))).trans (HXL.out.o2 (Below.refl _ _))
  have o37 : w7.cell? ⟨w.heap.size, 3, none⟩ = some (.slice va vn' vc) := (World.cell?_of_block (w := wl) (w' := w7) (a := ⟨w.heap.size, 3, none⟩) (H07.out w.heap.size (by omega) (by omega))).trans (HXL.out.o3 (Below.refl _ _))
  have HK7k : Hid (Vs w7 (fun x => x ≠ b1 ∧ x ≠ s2) ka kn' kc k) := (HK.out.step fun x hx _ _ => HBW.out.block x hx).step fun x hx hz _ => H07.out x hx hz.1
  have HV7k : Hid (Vs w7 (fun x => x ≠ b1 ∧ x ≠ s2) va vn' vc v) := (HV.out.step fun x hx _ _ => HBW.out.block x hx).step fun x hx hz _ => H07.out x hx hz.1
  clear kh b7 s7 k7
  go_upto_region 16 with fail
  go_cut [16] from 185 to 185 (fun u16 wx => u16 = .int .i64 114 ∧ Hid (ApS w7 wx (fun x => (Z x ∧ x < w.heap.size) ∨ w3.heap.size ≤ x) s2 I))
  case first =>
    have hpl7 := World.block_lt_of_cell? w7 _ p37
    have hol := World.block_lt_of_cell? w7 _ o27
    have kg := fun wx (hb : Below w7.heap.size w7 wx) => rset_no (fun x => (Z x ∧ x < w.heap.size) ∨ w3.heap.size ≤ x) (fun x => x ≠ b1 ∧ x ≠ s2) q s1 s2 I ka va kn' kc vn' vc k v wx ((hb.block q (Array.getElem?_eq_some_iff.1 HZ4.out.qo).1).trans HZ4.out.qo) (HZ4.out.d2.on hb) HZ4.out.n2 HTI.out hM (HK7k.out.step fun x hx _ _ => hb.block x hx) (HV7k.out.step fun x hx _ _ => hb.block x hx) (fun y hy => hy.2) HQ.out
    go_region_held (fun wx => wx.cell? ⟨p, 3, none⟩ = some (.pointer (some ⟨q, 0, none⟩)) ∧ wx.cell? ⟨w.heap.size, 2, none⟩ = some (.slice ka kn' kc) ∧ wx.cell? ⟨w.heap.size, 3, none⟩ = some (.slice va vn' vc)) (go_keep) (first | (go_at_call 36; refine (kg _ (by first | exact below_drew w7 | exact Below.refl _ _)).mono ?_; rintro e w5 ⟨rfl, ap⟩; have HAP : Hid (ApS w7 w5 (fun x => (Z x ∧ x < w.heap.size) ∨ w3.heap.size ≤ x) s2 I) := (by obtain ⟨a, c, h1, h2, h3, h4⟩ := ap; exact ⟨a, c, h1, h2, h3, ⟨h4.os, h4.tape, h4.output, h4.size, h4.block⟩⟩); have g5 : w7.grownBy w5 (some s2) := (by obtain ⟨a, c, h1, h2, h3, h4⟩ := HAP.out; exact h4); have y0 := (World.cell?_of_block (w := w7) (w' := w5) (a := ⟨p, 3, none⟩) (g5.block p hpl7 (fun e => hps (Option.some.inj e)))).trans p37; have y1 := (World.cell?_of_block (w := w7) (w' := w5) (a := ⟨w.heap.size, 2, none⟩) (g5.block w.heap.size hol (fun e => by have := Option.some.inj e; omega))).trans o27; have y2 := (World.cell?_of_block (w := w7) (w' := w5) (a := ⟨w.heap.size, 3, none⟩) (g5.block w.heap.size hol (fun e => by have := Option.some.inj e; omega))).trans o37; clear ap g5))
    clear p37 o27 o37 hpl7 hol kg y0 y1 y2
    go_wp2_with fail
    go_meet
    exact ⟨rfl, HAP.out⟩
  obtain ⟨rfl, HR5⟩ := hcut
  have HF : Hid (AftO w wc Z o b1 b2 q s1 s2 I W) := by
    obtain ⟨a5, c5, e1, e2, e3, g5⟩ := HR5.out
    refine ⟨_, HZ4.out.turnJ HR5.out, fun x hx => ⟨fun y => ?_, fun y => ⟨.inl (.inl ⟨y, hx⟩), fun e => HN.out.2 (e ▸ y)⟩⟩, ⟨g5.os.trans (HC7.out.1.trans (HR.out.2.os.trans (HB3.out.os.trans HBW.out.os))), g5.tape.trans (HC7.out.2.1.trans (HR.out.2.tape.trans (HB3.out.tape.trans HBW.out.tape))), g5.output.trans (HC7.out.2.2.1.trans (HR.out.2.output.trans (HB3.out.output.trans HBW.out.output))), by have := g5.size; have := HC7.out.2.2.2; omega, fun x hx hn => ?_⟩⟩
    · rcases y.1 with (y | y) | y
      · exact y.1
      · omega
      · have := HC7.out.2.2.2; omega
    · have := HC7.out.2.2.2
      rw [g5.block x (by omega) (fun e => hn (.inr (Option.some.inj e))), H07.out x (by omega) (fun e => hn (.inl e)), HBW.out.block x hx]
  clear p37 o27 o37
  go_wp2_with (go_at_call 15; refine (num_ _ _).mono ?_; rintro e wn ⟨rfl, hw⟩; obtain rfl := hw.symm; clear hw)
  go_ret
  exact ⟨by simp, HF.out⟩
end Go.Proofs.YteeapmcpbmjpmaaGreat
