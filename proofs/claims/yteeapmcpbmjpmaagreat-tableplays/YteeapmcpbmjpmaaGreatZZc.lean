import Derived.Test.YteeapmcpbmjpmaaGreatZZb
import Derived.Deep.CutRange
namespace Go.Proofs.YteeapmcpbmjpmaaGreat
set_option maxRecDepth 100000
open Go.RowKit Go.Shelf Go.Maps
set_option linter.unusedVariables false

/-! onOver: the changes turn. -/
section
variable {w w' : World} {Z : Nat → Prop} {o b1 b2 q s1 s2 : Nat} {I W J : Tab}
theorem Po.turnI (h : Po w Z o b1 b2 q s1 s2 I W J) {I' : Tab} (hg : w.grownBy w' (some b1)) (ho : Ov w' o b1 b2 (fun x => Z x ∨ w.heap.size ≤ x) I' W) : Po w' (fun x => Z x ∨ w.heap.size ≤ x) o b1 b2 q s1 s2 I' W J := by
  have hql : q < w.heap.size := (Array.getElem?_eq_some_iff.1 h.qo).1
  have hk : ∀ x, x < w.heap.size → Z x → w'.heap[x]? = w.heap[x]? := fun x hx hz => hg.block x hx (fun e => h.n1 (by rw [← Option.some.inj e]; exact hz))
  refine ⟨ho, (hk q hql h.zq).trans h.qo, h.d1.keep (hk s1 h.d1.lt h.z1) hk (fun _ _ hz => .inl hz), h.d2.keep (hg.block s2 h.d2.lt (fun e => h.n12 (Option.some.inj e).symm)) hk (fun _ _ hz => .inl hz), .inl h.zo, .inl h.z2, .inl h.zq, .inl h.z1, fun y => ?_, fun y => ?_, h.n12⟩
  · rcases y with y | y
    · exact h.n1 y
    · have := h.ov.is.lt; omega
  · rcases y with y | y
    · exact h.n2 y
    · have := h.d2.lt; omega
theorem Po.turnJ (h : Po w Z o b1 b2 q s1 s2 I W J) {J' : Tab} (ha : ApS w w' Z s2 J') : Po w' (fun x => (Z x ∨ w.heap.size ≤ x) ∧ x ≠ s2) o b1 b2 q s1 s2 I W J' := by
  obtain ⟨a, c, hd, h1, h2, hg⟩ := ha
  have hql : q < w.heap.size := (Array.getElem?_eq_some_iff.1 h.qo).1
  have hk : ∀ x, x < w.heap.size → Z x → w'.heap[x]? = w.heap[x]? := fun x hx hz => hg.block x hx (fun e => h.n2 (by rw [← Option.some.inj e]; exact hz))
  have hZ : ∀ x, x < w.heap.size → Z x → (Z x ∨ w.heap.size ≤ x) ∧ x ≠ s2 := fun x _ hz => ⟨.inl hz, fun e => h.n2 (e ▸ hz)⟩
  refine ⟨⟨(hk o h.ov.lt h.zo).trans h.ov.obj, h.ov.is.keepZ (hg.block b1 h.ov.is.lt (fun e => h.n12 (Option.some.inj e))) hk hZ, h.ov.was.keepZ (hk b2 h.ov.was.lt h.z2) hk hZ, h.ov.tokI, h.ov.tokW, h.ov.ne⟩, (hk q hql h.zq).trans h.qo, h.d1.keep (hk s1 h.d1.lt h.z1) hk hZ, ⟨a, c, hd, h1, h2⟩, hZ o h.ov.lt h.zo, hZ b2 h.ov.was.lt h.z2, hZ q hql h.zq, hZ s1 h.d1.lt h.z1, fun y => ?_, fun y => y.2 rfl, h.n12⟩
  rcases y.1 with y | y
  · exact h.n1 y
  · have := h.ov.is.lt; omega
/-- What a step leaves of the changes. -/
def AftO (w w' : World) (Z : Nat → Prop) (o b1 b2 q s1 s2 : Nat) (I W : Tab) : Prop := ∃ Z', Po w' Z' o b1 b2 q s1 s2 I W I ∧ (∀ x, x < w.heap.size → (Z' x ↔ Z x)) ∧ Fz (fun x => x = b1 ∨ x = s2) w w'
end
theorem del_none {M : Tab} {k : List Int} (h : look M k = none) : del k M = M := by
  unfold del
  rw [List.filter_eq_self]
  intro p hp
  have := look_none.1 h p hp
  simpa using this
theorem rdelQ_ (Z : Nat → Prop) (q s1 s2 : Nat) (J : Tab) (ka : Option Addr) (kn kc : Nat) (k : List Int) (w : World) (hq : w.heap[q]? = some (.cells #[.pointer (some ⟨s1, 0, none⟩), .pointer (some ⟨s2, 0, none⟩)] 77 (0, 0))) (d2 : Dq w Z s2 J) (hZ : ¬ Z s2) (hT : Tok J) (hm : J.length ≤ 1000000) (hk : Bs w ka kn k) (hkl : kn ≤ 100000) :
    Calls Tryz.prog 37 #[.pointer (some ⟨q, 0, none⟩), .slice ka kn kc] w fun e w' => e = .returned (.bool (look J k).isSome) ∧ ApS w w' Z s2 (del k J) := by
  obtain ⟨a, c, hd, h1, h2⟩ := d2
  have hd' : Dd w (fun x => Z x ∧ x < w.heap.size) s2 a J.length c J := ⟨hd.var, hd.rl.wide fun x hx hz => ⟨hz, hx⟩⟩
  refine (rdelete_ (fun x => Z x ∧ x < w.heap.size) q s2 c a J ka kn kc k w (Array.getElem?_eq_some_iff.1 hq).1 ((cell_of_row _ _ 1 _ _ (0, 0) hq).trans rfl) hd' hT (by omega) h1 h2 (fun x hx => ⟨hx.2, fun e => hZ (e ▸ hx.1)⟩) hk hk.1 (by omega)).mono ?_
  rintro e w' ⟨rfl, hp⟩
  refine ⟨rfl, ?_⟩
  rcases hp with ⟨_, a', c', h3, h4⟩ | ⟨h3, h4⟩
  · exact ⟨a', c', ⟨h3.var, h3.rl.wide fun x _ hx => ⟨hx.1.imp (fun y => y.1) id, hx.2⟩⟩, h4⟩
  · rw [del_none h3]
    exact ⟨a, c, ⟨(h4.block s2 (Array.getElem?_eq_some_iff.1 hd.var).1).trans hd.var, (hd.rl.wide (V' := fun x => (Z x ∨ w.heap.size ≤ x) ∧ x ≠ s2) fun x _ hx => ⟨.inl hx, fun e => hZ (e ▸ hx)⟩).step fun x hx _ _ => h4.block x hx⟩, h1, h2, (grown_of_below h4).but _⟩
set_option maxHeartbeats 8000000 in
theorem on9_ (Z : Nat → Prop) (p t r o b1 b2 q s1 s2 : Nat) (I W : Tab) (sec : Bool) (ka va sa : Option Addr) (kn kc vn vc sn sc : Nat) (k : List Int) (w : World) (hp : w.heap[p]? = some (.cells #[.pointer (some ⟨t, 0, none⟩), .pointer (some ⟨o, 0, none⟩), .pointer (some ⟨r, 0, none⟩), .pointer (some ⟨q, 0, none⟩)] 34 (0, 0))) (h : Po w Z o b1 b2 q s1 s2 I W I) (hpb : p ≠ b1) (hps : p ≠ s2) (hM : I.length ≤ 1000000) (hk : Vs w (fun x => x ≠ b1 ∧ x ≠ s2) ka kn kc k) (hkn : kn ≤ 2000) :
    Calls Tryz.prog 8 #[.pointer (some ⟨p, 0, none⟩), .agg #[.int .i64 9, .bool sec, .slice ka kn kc, .slice va vn vc, .slice sa sn sc]] w fun e w' => e = .returned (.bool true) ∧ AftO w w' Z o b1 b2 q s1 s2 (del k I) W := by
  have HX0 : Hid (Bx w (w.alloc (.cells #[.int .i64 9, .bool sec, .slice ka kn kc, .slice va vn vc, .slice sa sn sc] 38)) p t r w.heap.size (.pointer (some ⟨o, 0, none⟩)) (.pointer (some ⟨q, 0, none⟩)) 9 sec (.slice ka kn kc) (.slice va vn vc) (.slice sa sn sc)) := Bx.mk' hp
  have HZ0 : Hid (Po w (fun x => Z x ∧ x < w.heap.size) o b1 b2 q s1 s2 I W I) := h.keep (fun _ _ _ => rfl) (fun x hx hz => ⟨hz, hx⟩) (fun y => h.n1 y.1) (fun y => h.n2 y.1)
  have HZ1 : Hid (Po (w.alloc (.cells #[.int .i64 9, .bool sec, .slice ka kn kc, .slice va vn vc, .slice sa sn sc] 38)) (fun x => Z x ∧ x < w.heap.size) o b1 b2 q s1 s2 I W I) := HZ0.out.keep (fun x hx _ => HX0.out.bel.block x hx) (fun _ _ hz => hz) HZ0.out.n1 HZ0.out.n2
  have HK0 := hid (hk.step (w' := w.alloc (.cells #[.int .i64 9, .bool sec, .slice ka kn kc, .slice va vn vc, .slice sa sn sc] 38)) fun x hx _ _ => HX0.out.bel.block x hx)
  have HN := hid (⟨h.n1, h.n2⟩ : ¬ Z b1 ∧ ¬ Z s2)
  have HKL : Hid (k.length = kn) := hk.bs.1
  have hpl := (Array.getElem?_eq_some_iff.1 hp).1
  have hbl := h.ov.is.lt
  have hsl := h.d2.lt
  have o0 := HX0.out.o0 (Below.refl _ _)
  have o2 := HX0.out.o2 (Below.refl _ _)
  have p1 := HX0.out.p1 (Below.refl _ _)
  have p3 := HX0.out.p3 (Below.refl _ _)
  clear hp h hk
  go_enter Tryz.func8, Tryz.ntmps8
  go_wp2_with fail
  obtain ⟨wb, HWB⟩ : ∃ y, Hid (w.alloc (.cells #[.int .i64 9, .bool sec, .slice ka kn kc, .slice va vn vc, .slice sa sn sc] 38) = y) := ⟨_, rfl⟩
  rw [HWB.out] at HX0 HZ1 HK0 o0 o2 p1 p3 ⊢
  have hszb := HX0.out.bel.size
  have hobw : w.heap.size < wb.heap.size := (Array.getElem?_eq_some_iff.1 HX0.out.bo).1
  obtain ⟨ob, HOB⟩ : ∃ y, Hid (w.heap.size = y) := ⟨_, rfl⟩
  refine (keyed_ ka kn kc k wb HK0.out.bs (by omega)).mono ?_
  rintro e w1 ⟨g, d, rfl, hy, hd1, hd2, hg1, hg2, hB1⟩
  clear o0 o2 p1 p3
  have HB1 := hid hB1
  have HY := hid hy
  have HG := hid (⟨hg1, hg2⟩ : wb.heap.size ≤ g ∧ g < w1.heap.size)
  have HDD := hid (⟨hd1, hd2⟩ : kn + 2 ≤ d ∧ d ≤ maxLen)
  have hnd : (kn : Int) ≤ d := by omega
  have hkd : (kn : Int) ≤ (kn : Int) + 2 := by omega
  have hkd2 : (kn : Int) + 2 ≤ d := by omega
  have hsz1 := hB1.size
  clear hB1 hy hg1 hg2 hd1 hd2
  obtain ⟨qq, HQ⟩ : ∃ q, Hid ((look I k).isSome = q) := ⟨_, rfl⟩
  have HZ2 : Hid (Po w1 (fun x => Z x ∧ x < w.heap.size) o b1 b2 q s1 s2 I W I) := HZ1.out.keep (fun x hx _ => HB1.out.block x hx) (fun _ _ hz => hz) HZ1.out.n1 HZ1.out.n2
  go_upto_region 20 with fail
  go_cut [18] from 185 to 185 (fun u18 wx => u18 = .bool qq ∧ Hid (Ov wx o b1 b2 (fun x => (Z x ∧ x < w.heap.size) ∨ w1.heap.size ≤ x) (del k I) W ∧ w1.grownBy wx (some b1)))
  case first =>
    have p1 := HX0.out.p1 HB1.out
    have o2 := HX0.out.o2 HB1.out
    have hpl1 := World.block_lt_of_cell? w1 _ p1
    have hol := World.block_lt_of_cell? w1 _ o2
    have kg := fun wx (hb : Below w1.heap.size w1 wx) => delete_ o b1 b2 (fun x => Z x ∧ x < w.heap.size) I W (some ⟨g, 0, none⟩) kn (kn + 2) k wx (HZ2.out.ov.below hb) ((bs_front HY.out.bs HKL.out).below hb) (by unfold maxLen; omega)
    rw [HQ.out] at kg
    go_region_held (fun wx => wx.cell? ⟨p, 1, none⟩ = some (.pointer (some ⟨o, 0, none⟩)) ∧ wx.cell? ⟨w.heap.size, 2, none⟩ = some (.slice ka kn kc)) (go_keep) (first | (go_at_call 18; refine (kg _ (by first | exact below_drew w1 | exact Below.refl _ _)).mono ?_; rintro e w2 ⟨rfl, ov2, g2⟩; have y0 := (World.cell?_of_block (w := w1) (w' := w2) (a := ⟨p, 1, none⟩) (g2.block p hpl1 (fun e => hpb (Option.some.inj e)))).trans p1; have y1 := (World.cell?_of_block (w := w1) (w' := w2) (a := ⟨w.heap.size, 2, none⟩) (g2.block w.heap.size hol (fun e => by have := Option.some.inj e; omega))).trans o2; have HOV := hid ov2; have HG2 : Hid (w1.grownBy w2 (some b1)) := ⟨g2.os, g2.tape, g2.output, g2.size, g2.block⟩; clear ov2 g2))
    clear p1 o2 hpl1 hol kg y0 y1
    go_wp2_with fail
    go_meet
    exact ⟨rfl, HOV.out.wide (fun x _ hx => .inl hx), HG2.out⟩
  obtain ⟨rfl, HR⟩ := hcut
  have HZ3 := hid (HZ2.out.turnI HR.out.2 HR.out.1)
  have hszc := HR.out.2.size
  have HC : Hid (∀ x, x < w1.heap.size → x ≠ b1 → wc.heap[x]? = w1.heap[x]?) := fun x hx hn => HR.out.2.block x hx (fun e => hn (Option.some.inj e))
  have o2 : wc.cell? ⟨w.heap.size, 2, none⟩ = some (.slice ka kn kc) := (World.cell?_of_block (w := w1) (w' := wc) (a := ⟨w.heap.size, 2, none⟩) (HC.out w.heap.size (by omega) (by omega))).trans (HX0.out.o2 HB1.out)
  have HKC : Hid (Vs wc (fun x => x ≠ b1 ∧ x ≠ s2) ka kn kc k) := ((HK0.out.step fun x hx _ _ => HB1.out.block x hx).step fun x hx hz _ => HC.out x hx hz.1)
  go_wp2_with fail
  refine (marked_ g kn d kn kc ka k 161 162 _ ⟨by obtain ⟨cur, hc⟩ := HY.out.blk; exact ⟨cur, (HC.out g HG.out.2 (by have := HG.out.1; omega)).trans hc⟩, HY.out.bs.same_block (fun ad e _ => by obtain rfl := Option.some.inj e; exact HC.out g HG.out.2 (by have := HG.out.1; omega))⟩ HDD.out.1 HDD.out.2 HKC.out.bs (by omega)).mono ?_
  rintro e w3 ⟨rfl, w4, ys, hb4, hg4, _⟩
  have hs4 := hb4.size
  have hs3 := hg4.size
  have H3 : Hid (∀ x, x < wc.heap.size → x ≠ g → w3.heap[x]? = wc.heap[x]?) := fun x hx hn => (hg4.block x (by omega) (fun e => hn (Option.some.inj e))).trans (hb4.block x hx)
  have HS3 := hid (⟨hg4.os.trans hb4.os, hg4.tape.trans hb4.tape, hg4.output.trans hb4.output, by omega⟩ : w3.os = wc.os ∧ w3.tape = wc.tape ∧ w3.output = wc.output ∧ wc.heap.size ≤ w3.heap.size)
  have HZ4 : Hid (Po w3 (fun x => (Z x ∧ x < w.heap.size) ∨ w1.heap.size ≤ x) o b1 b2 q s1 s2 (del k I) W I) := HZ3.out.keep (fun x hx hz => H3.out x hx (by
    have := HG.out
    rcases hz with (hz | hz) | rfl | rfl
    · have := hz.2; omega
    · omega
    · omega
    · omega)) (fun _ _ hz => hz) HZ3.out.n1 HZ3.out.n2
  have HK3 : Hid (Bs w3 ka kn k) := HK0.out.bs.same_block (fun ad e hn => by
    have hlt := (HK0.out.bs.at_block e hn).1
    have hz := HK0.out.lies ad e hn
    have := HG.out
    rw [H3.out _ (by omega) (by omega), HC.out _ (by omega) hz.1, HB1.out.block _ hlt])
  have p33 : w3.cell? ⟨p, 3, none⟩ = some (.pointer (some ⟨q, 0, none⟩)) := (World.cell?_of_block (w := w1) (w' := w3) (a := ⟨p, 3, none⟩) ((H3.out p (by omega) (by have := HG.out; omega)).trans (HC.out p (by omega) hpb))).trans (HX0.out.p3 HB1.out)
  have o23 : w3.cell? ⟨w.heap.size, 2, none⟩ = some (.slice ka kn kc) := (World.cell?_of_block (w := wc) (w' := w3) (a := ⟨w.heap.size, 2, none⟩) (H3.out w.heap.size (by omega) (by have := HG.out; omega))).trans o2
  clear hb4 hg4 o2 hs4
  go_upto_region 22 with fail
  go_cut [20] from 185 to 185 (fun u20 wx => u20 = .bool qq ∧ Hid (ApS w3 wx (fun x => (Z x ∧ x < w.heap.size) ∨ w1.heap.size ≤ x) s2 (del k I)))
  case first =>
    have hpl3 := World.block_lt_of_cell? w3 _ p33
    have hol := World.block_lt_of_cell? w3 _ o23
    have kg := fun wx (hb : Below w3.heap.size w3 wx) => rdelQ_ (fun x => (Z x ∧ x < w.heap.size) ∨ w1.heap.size ≤ x) q s1 s2 I ka kn kc k wx ((hb.block q (Array.getElem?_eq_some_iff.1 HZ4.out.qo).1).trans HZ4.out.qo) (HZ4.out.d2.on hb) HZ4.out.n2 HZ2.out.ov.tokI hM (HK3.out.below hb) (by omega)
    rw [HQ.out] at kg
    go_region_held (fun wx => wx.cell? ⟨p, 3, none⟩ = some (.pointer (some ⟨q, 0, none⟩)) ∧ wx.cell? ⟨w.heap.size, 2, none⟩ = some (.slice ka kn kc)) (go_keep) (first | (go_at_call 37; refine (kg _ (by first | exact below_drew w3 | exact Below.refl _ _)).mono ?_; rintro e w5 ⟨rfl, ap⟩; have HAP : Hid (ApS w3 w5 (fun x => (Z x ∧ x < w.heap.size) ∨ w1.heap.size ≤ x) s2 (del k I)) := (by obtain ⟨a, c, h1, h2, h3, h4⟩ := ap; exact ⟨a, c, h1, h2, h3, ⟨h4.os, h4.tape, h4.output, h4.size, h4.block⟩⟩); have g5 : w3.grownBy w5 (some s2) := (by obtain ⟨a, c, h1, h2, h3, h4⟩ := HAP.out; exact h4); have y0 := (World.cell?_of_block (w := w3) (w' := w5) (a := ⟨p, 3, none⟩) (g5.block p hpl3 (fun e => hps (Option.some.inj e)))).trans p33; have y1 := (World.cell?_of_block (w := w3) (w' := w5) (a := ⟨w.heap.size, 2, none⟩) (g5.block w.heap.size hol (fun e => by have := Option.some.inj e; omega))).trans o23; clear ap g5))
    clear p33 o23 hpl3 hol kg y0 y1
    go_wp2_with fail
    go_meet
    exact ⟨rfl, HAP.out⟩
  obtain ⟨rfl, HR5⟩ := hcut
  have HF : Hid (AftO w wc Z o b1 b2 q s1 s2 (del k I) W) := by
    obtain ⟨a5, c5, e1, e2, e3, g5⟩ := HR5.out
    refine ⟨_, HZ4.out.turnJ HR5.out, fun x hx => ⟨fun y => ?_, fun y => ⟨.inl (.inl ⟨y, hx⟩), fun e => HN.out.2 (e ▸ y)⟩⟩, ⟨g5.os.trans (HS3.out.1.trans (HR.out.2.os.trans (HB1.out.os.trans HX0.out.bel.os))), g5.tape.trans (HS3.out.2.1.trans (HR.out.2.tape.trans (HB1.out.tape.trans HX0.out.bel.tape))), g5.output.trans (HS3.out.2.2.1.trans (HR.out.2.output.trans (HB1.out.output.trans HX0.out.bel.output))), by have := g5.size; have := HS3.out.2.2.2; omega, fun x hx hn => ?_⟩⟩
    · rcases y.1 with (y | y) | y
      · exact y.1
      · omega
      · have := HS3.out.2.2.2; omega
    · have := HS3.out.2.2.2
      have hgg := HG.out
      rw [g5.block x (by omega) (fun e => hn (.inr (Option.some.inj e))), H3.out x (by omega) (by omega), HC.out x (by omega) (fun e => hn (.inl e)), HB1.out.block x (by omega), HX0.out.bel.block x hx]
  clear p33 o23
  cases qq
  · go_wp2_with fail
    go_ret
    exact ⟨rfl, HF.out⟩
  · go_wp2_with fail
    go_ret
    exact ⟨rfl, HF.out⟩
end Go.Proofs.YteeapmcpbmjpmaaGreat
