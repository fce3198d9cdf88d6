import Derived.Test.YteeapmcpbmjpmaaGreatZV
import Derived.Test.YteeapmcpbmjpmaaGreatXB
import Derived.Deep.CutRange
namespace Go.Proofs.YteeapmcpbmjpmaaGreat
set_option maxRecDepth 100000
open Go.RowKit Go.Shelf Go.Maps
set_option linter.unusedVariables false

/-! Apply at both. -/
theorem endS_eqZ : endS = endS' := rfl
/-- A world cut off behind n blocks. -/
def tr (W : World) (n : Nat) : World := { W with heap := W.heap.extract 0 n }
theorem tr_size {W : World} {n : Nat} (h : n ≤ W.heap.size) : (tr W n).heap.size = n := by simp [tr]; omega
theorem tr_below {W : World} {n : Nat} (h : n ≤ W.heap.size) : Below (tr W n).heap.size (tr W n) W := by
  refine ⟨rfl, rfl, rfl, by rw [tr_size h]; exact h, fun k hk => ?_⟩
  rw [tr_size h] at hk
  show W.heap[k]? = (W.heap.extract 0 n)[k]?
  rw [Array.getElem?_extract]
  simp
  omega
theorem Ln.by {w0 W W' : World} {m b : Nat} {vs vk vv : Value} {ss : List SD} {ks ls es : List LE} (h : Ln w0 W m vs vk vv ss ks ls es) (hg : W.grownBy W' (some b)) (hb : b < w0.heap.size) : Ln (tr W' w0.heap.size) W' m vs vk vv ss ks ls es := by
  have hs : w0.heap.size ≤ W'.heap.size := Nat.le_trans h.bel.size hg.size
  have hk : ∀ x, x < W.heap.size → w0.heap.size ≤ x → W'.heap[x]? = W.heap[x]? := fun x hx h1 => hg.block x hx (fun e => by have := Option.some.inj e; omega)
  have he := tr_size hs
  refine ⟨(hk m h.mlt h.lo).trans h.var, by rw [he]; exact own_at13 h.os (fun q hq => hk q (h.os.lt q hq).2 (h.os.lt q hq).1), by rw [he]; exact own_at13 h.ok (fun q hq => hk q (h.ok.lt q hq).2 (h.ok.lt q hq).1), by rw [he]; exact own_at13 h.ov (fun q hq => hk q (h.ov.lt q hq).2 (h.ov.lt q hq).1), fun e he' => ?_, h.nd, h.kv, tr_below hs, by rw [he]; exact h.lo⟩
  have hy := h.y e he'
  rw [he]
  exact hy.same (hk _ hy.k.lt hy.bk) (hk _ hy.v.lt hy.bv)
theorem apply_yes (t b : Nat) (V U : Nat → Prop) (M : Tab) (a : Option Addr) (n c : Nat) (l : List Sx) (w : World) (h : Tw w t b V M) (hl : Sl w U a n l) (hn : n ≤ 100000000) (hML : M.length ≤ 100000000) (hq : allMay l = true) :
    Calls Tryz.prog 9 #[.pointer (some ⟨t, 0, none⟩), .slice a n c] w fun e w' => e = .returned (.int .i64 0) ∧ Tw w' t b (fun x => V x ∨ w.heap.size ≤ x) (doAll M l) ∧ w.grownBy w' (some b) :=
  (apply_ t b V U M a n c l w h hl hn hML).mono fun e w' hp => by
    rcases hp with ⟨_, h1, h2, h3⟩ | ⟨h1, _⟩
    · exact ⟨h1, h2, h3⟩
    · rw [hq] at h1; cases h1
theorem apply_no (t b : Nat) (V U : Nat → Prop) (M : Tab) (a : Option Addr) (n c : Nat) (l : List Sx) (w : World) (h : Tw w t b V M) (hl : Sl w U a n l) (hn : n ≤ 100000000) (hML : M.length ≤ 100000000) (hq : allMay l = false) :
    Calls Tryz.prog 9 #[.pointer (some ⟨t, 0, none⟩), .slice a n c] w fun e w' => e = .returned (.int .i64 114) ∧ Tw w' t b (fun x => V x ∨ w.heap.size ≤ x) M ∧ w.grownBy w' (some b) :=
  (apply_ t b V U M a n c l w h hl hn hML).mono fun e w' hp => by
    rcases hp with ⟨h1, _⟩ | ⟨_, h1, h2⟩
    · rw [hq] at h1; cases h1
    · exact ⟨h1, (h.below h2).wide fun x _ hx => .inl hx, (grown_of_below h2).but _⟩
theorem rapply_yes (Z U : Nat → Prop) (r : Nat) (M : Tab) (la : Option Addr) (n lc : Nat) (l : List Sx) (w : World) (h : Dq w Z r M) (hZ : ∀ x, Z x → x ≠ r) (hT : Tok M) (hm : M.length + n ≤ 10000000) (hl : Sl w U la n l) (hU : ∀ x, U x → x ≠ r) (hq : allMay l = true) :
    Calls Tryz.prog 54 #[.pointer (some ⟨r, 0, none⟩), .slice la n lc] w fun e w' => e = .returned (.int .i64 0) ∧ ApS w w' Z r (doAll M l) := by
  obtain ⟨a, c, hd, h1, h2⟩ := h
  have hd' : Dd w (fun x => Z x ∧ x < w.heap.size) r a M.length c M := ⟨hd.var, hd.rl.wide fun x hx hz => ⟨hz, hx⟩⟩
  refine (rapply_ _ U r c a M la n lc l w hd' hT hm h1 h2 (fun x hx => ⟨hx.2, hZ x hx.1⟩) hl hU).mono fun e w' hp => ?_
  rcases hp with ⟨_, h1, a', c', h2, h3⟩ | ⟨h1, _⟩
  · exact ⟨h1, a', c', ⟨h2.var, h2.rl.wide fun x _ hx => ⟨hx.1.imp (fun q => q.1) id, hx.2⟩⟩, h3⟩
  · rw [hq] at h1; cases h1
theorem rapply_no (Z U : Nat → Prop) (r : Nat) (M : Tab) (la : Option Addr) (n lc : Nat) (l : List Sx) (w : World) (h : Dq w Z r M) (hZ : ∀ x, Z x → x ≠ r) (hT : Tok M) (hm : M.length + n ≤ 10000000) (hl : Sl w U la n l) (hU : ∀ x, U x → x ≠ r) (hq : allMay l = false) :
    Calls Tryz.prog 54 #[.pointer (some ⟨r, 0, none⟩), .slice la n lc] w fun e w' => e = .returned (.int .i64 114) ∧ ApS w w' Z r M := by
  obtain ⟨a, c, hd, h1, h2⟩ := h
  have hd' : Dd w (fun x => Z x ∧ x < w.heap.size) r a M.length c M := ⟨hd.var, hd.rl.wide fun x hx hz => ⟨hz, hx⟩⟩
  refine (rapply_ _ U r c a M la n lc l w hd' hT hm h1 h2 (fun x hx => ⟨hx.2, hZ x hx.1⟩) hl hU).mono fun e w' hp => ?_
  rcases hp with ⟨h1, _⟩ | ⟨_, h3, h4⟩
  · rw [hq] at h1; cases h1
  · exact ⟨h3, a, c, ⟨(h4.block r (Array.getElem?_eq_some_iff.1 hd.var).1).trans hd.var, (hd.rl.wide (V' := fun x => (Z x ∨ w.heap.size ≤ x) ∧ x ≠ r) fun x _ hx => ⟨.inl hx, hZ x hx⟩).step fun x hx _ _ => h4.block x hx⟩, h1, h2, (grown_of_below h4).but _⟩
/-- What a step leaves of a pair. -/
def Aft (w w' : World) (Z : Nat → Prop) (t b r : Nat) (N : Tab) : Prop := ∃ Z', Pt w' Z' t b r N N ∧ (∀ x, x < w.heap.size → (Z' x ↔ Z x)) ∧ Fz (fun x => x = b ∨ x = r) w w'
set_option maxHeartbeats 8000000 in
theorem papply_yes (Z U : Nat → Prop) (p t b r : Nat) (x1 x3 : Value) (M : Tab) (a : Option Addr) (n c : Nat) (l : List Sx) (w : World) (hp : w.heap[p]? = some (.cells #[.pointer (some ⟨t, 0, none⟩), x1, .pointer (some ⟨r, 0, none⟩), x3] 34 (0, 0))) (h : Pt w Z t b r M M) (hpb : p ≠ b) (hpr : p ≠ r) (hl : Sl w U a n l) (hU : ∀ x, U x → x < w.heap.size ∧ x ≠ b ∧ x ≠ r) (hsh : ∀ s ∈ l, s.k.length ≤ 2000 ∧ s.v.length ≤ 2000) (hM : M.length + n ≤ 10000000) (hq : allMay l = true) :
    Calls Tryz.prog 28 #[.pointer (some ⟨p, 0, none⟩), .slice a n c] w fun e w' => e = .returned (.bool true) ∧ Aft w w' Z t b r (doAll M l) := by
  have HP := hid hp
  have H := hid h
  have HL := hid hl
  have HLN : Hid (l.length = n) := hl.len
  have HU := hid hU
  have HSH := hid hsh
  have HQ := hid hq
  have hpl := (Array.getElem?_eq_some_iff.1 hp).1
  clear hp h hl hU hsh hq
  go_enter Tryz.func28, Tryz.ntmps28
  go_wp2_with fail
  refine (lend_ U a n c l w HL.out (by omega) HSH.out).mono ?_
  rintro e w3 ⟨m, vs, vk, vv, es, rfl, ln, hes⟩
  have HEN : Hid (es.length = n) := by have h := congrArg List.length hes; rw [List.length_map, HLN.out] at h; exact h
  have HES := hid hes
  have HLn := hid ln
  have HB3 := hid ln.bel
  rw [endS_eqZ] at ln
  obtain ⟨gs, cs, hvs, hcs, hcm, hsl⟩ := ln.sl
  rw [HEN.out] at hvs hcs hsl
  have HSM := hid (hsl.cut (k := n) (by omega))
  have hcut : (es.map (·.s) ++ [(⟨[], [], true⟩ : Sx)]).take n = l := by rw [hes, ← HLN.out]; simp
  rw [hcut] at HSM
  have cm0 : w3.cell? ⟨m, 0, none⟩ = some (.slice (some ⟨gs, 0, none⟩) (n + 1) cs) := by
    rw [cell_of_row w3 m 0 _ 82 (0, 0) ln.var, hvs]; rfl
  have CM := hid cm0
  have ko := fun wx (hc : wx.cell? ⟨m, 0, none⟩ = some (.slice (some ⟨gs, 0, none⟩) (n + 1) cs)) => of_ wx m gs n cs hc hcs hcm
  have hmw : w.heap.size ≤ m ∧ m < w3.heap.size := ⟨ln.lo, ln.mlt⟩
  have hbl := H.out.tw.mp.lt
  have hrl := H.out.dd.lt
  have HPT := hid (H.out.keep (w' := w3) (Z' := Z) (fun x hx _ => HB3.out.block x hx) (fun _ _ hz => hz) H.out.zb H.out.zr)
  have HTWZ : Hid (Tw w3 t b (fun x => Z x ∧ x < w.heap.size) M) := (H.out.tw.wide fun x hx hz => ⟨hz, hx⟩).below HB3.out
  have p0 : w3.cell? ⟨p, 0, none⟩ = some (.pointer (some ⟨t, 0, none⟩)) := (HB3.out.cell (p := ⟨p, 0, none⟩) hpl).trans ((cell_of_row _ _ 0 _ _ (0, 0) HP.out).trans rfl)
  have P0 := hid p0
  have ka := fun wx (hb : Below w3.heap.size w3 wx) => apply_yes t b (fun x => Z x ∧ x < w.heap.size) _ M (some ⟨gs, 0, none⟩) n (n + 1) l wx ((HTWZ.out).below hb) (HSM.out.below hb) (by omega) (by omega) HQ.out
  clear ln hes hvs hsl hcut cm0
  go_upto_region 2 with fail
  go_cut [6] from 33 to 33 (fun u6 wx => u6 = .int .i64 0 ∧ Hid (Tw wx t b (fun x => (Z x ∧ x < w.heap.size) ∨ w3.heap.size ≤ x) (doAll M l) ∧ w3.grownBy wx (some b)))
  case first =>
    have cm := CM.out
    go_region_held (fun wx => wx.cell? ⟨p, 0, none⟩ = some (.pointer (some ⟨t, 0, none⟩)) ∧ wx.cell? ⟨m, 0, none⟩ = some (.slice (some ⟨gs, 0, none⟩) (n + 1) cs)) (go_keep) (first
      | (go_at_call 53; refine (ko _ (by first | exact CM.out | exact cm)).mono ?_; rintro e wy ⟨rfl, hw⟩; subst hw)
      | (go_at_call 9; refine (ka _ (by first | exact below_drew w3 | exact Below.refl _ _)).mono ?_; rintro e w4 ⟨rfl, tw4, g4⟩; have y0 := (World.cell?_of_block (w := w3) (w' := w4) (a := ⟨p, 0, none⟩) (g4.block p (by have := HB3.out.size; show p < w3.heap.size; omega) (fun e => hpb (Option.some.inj e)))).trans P0.out; have y1 := (World.cell?_of_block (w := w3) (w' := w4) (a := ⟨m, 0, none⟩) (g4.block m hmw.2 (fun e => by have := Option.some.inj e; omega))).trans CM.out; have HTW := hid tw4; have HG4 : Hid (w3.grownBy w4 (some b)) := ⟨g4.os, g4.tape, g4.output, g4.size, g4.block⟩; clear tw4 g4))
    clear p0 cm y0 y1 ka ko
    go_wp2_with fail
    go_meet
    exact ⟨rfl, HTW.out, HG4.out⟩
  obtain ⟨rfl, HR⟩ := hcut
  have hln' := HLn.out.by HR.out.2 (by have := HB3.out.size; omega)
  rw [endS_eqZ] at hln'
  have HSW : Hid (Sl wc U a n l) := HL.out.step fun x hx hu _ => (HR.out.2.block x (Nat.lt_of_lt_of_le hx HB3.out.size) (fun e => (HU.out x hu).2.1 (Option.some.inj e))).trans (HB3.out.block x hx)
  have kh := held_ (tr wc w.heap.size) wc m vs vk vv es U a n c l hln' HSW.out HES.out (fun x _ hu => ⟨fun e he => ⟨by have := (HU.out x hu).1; have := (HLn.out.y e he).bk; omega, by have := (HU.out x hu).1; have := (HLn.out.y e he).bv; omega⟩, fun f => by have := (HLn.out.os.lt x f).1; have := (HU.out x hu).1; omega⟩) (by omega) HSH.out
  clear hln' p0 ka ko
  go_wp2_with fail
  refine kh.mono ?_
  rintro e w7 ⟨rfl, b7, s7, k7⟩
  have HK7 : Hid (∀ x, x < wc.heap.size → (x < w.heap.size ∨ w3.heap.size ≤ x) → w7.heap[x]? = wc.heap[x]?) := fun x hx hz => k7 x hx (fun e he => ⟨by have := (HLn.out.y e he).bk; have := (HLn.out.y e he).k.lt; omega, by have := (HLn.out.y e he).bv; have := (HLn.out.y e he).v.lt; omega⟩) (fun f => by have := HLn.out.os.lt x f; omega)
  have HZL : Hid (∀ x, Z x → x < w3.heap.size → x < w.heap.size → True) := fun _ _ _ _ => trivial
  have HP7 : Hid (Pt w7 (fun x => (Z x ∧ x < w.heap.size) ∨ w3.heap.size ≤ x) t b r (doAll M l) M) := by
    have h0 : Pt w3 (fun x => Z x ∧ x < w.heap.size) t b r M M := by
      have h1 : Pt w (fun x => Z x ∧ x < w.heap.size) t b r M M := H.out.keep (fun _ _ _ => rfl) (fun x hx hz => ⟨hz, hx⟩) (fun q => H.out.zb q.1) (fun q => H.out.zr q.1)
      exact h1.keep (fun x hx _ => HB3.out.block x hx) (fun _ _ hz => hz) h1.zb h1.zr
    have h2 : Tw wc t b (fun x => (Z x ∧ x < w.heap.size) ∨ w3.heap.size ≤ x) (doAll M l) := HR.out.1
    exact (h0.turnT HR.out.2 h2).keep (fun x hx hz => HK7.out x hx (by
      rcases hz with (hz | hz) | rfl | rfl
      · exact .inl hz.2
      · exact .inr hz
      · exact .inl hbl
      · exact .inl hrl)) (fun _ _ hz => hz) (fun q => by rcases q with q | q; exact H.out.zb q.1; have := HB3.out.size; omega) (fun q => by rcases q with q | q; exact H.out.zr q.1; have := HB3.out.size; omega)
  have HC7 := hid (⟨b7.os, b7.tape, b7.output, s7⟩ : w7.os = wc.os ∧ w7.tape = wc.tape ∧ w7.output = wc.output ∧ wc.heap.size ≤ w7.heap.size)
  have p2 : w7.cell? ⟨p, 2, none⟩ = some (.pointer (some ⟨r, 0, none⟩)) := (World.cell?_of_block (w := w) (w' := w7) (a := ⟨p, 2, none⟩) ((HK7.out p (Nat.lt_of_lt_of_le hpl (Nat.le_trans HB3.out.size HR.out.2.size)) (.inl hpl)).trans ((HR.out.2.block p (Nat.lt_of_lt_of_le hpl HB3.out.size) (fun e => hpb (Option.some.inj e))).trans (HB3.out.block p hpl)))).trans ((cell_of_row _ _ 2 _ _ (0, 0) HP.out).trans rfl)
  have kr := rapply_yes _ U r M a n c l w7 HP7.out.dd (fun x hx e => HP7.out.zr (e ▸ hx)) H.out.tw.tok hM (HSW.out.step fun x hx hu _ => HK7.out x hx (.inl (HU.out x hu).1)) (fun x hx => (HU.out x hx).2.2) HQ.out
  clear kh b7 s7 k7
  go_wp2_with fail
  refine kr.mono ?_
  rintro e w8 ⟨rfl, ap⟩
  have HP8 := hid (HP7.out.turnR ap)
  have HG8 := hid (show w7.grownBy w8 (some r) from by obtain ⟨_, _, _, _, _, g⟩ := ap; exact g)
  have HF : Hid (Aft w w8 Z t b r (doAll M l)) := by
    refine ⟨_, HP8.out, fun x hx => ⟨fun q => ?_, fun q => ⟨.inl (.inl ⟨q, hx⟩), fun e => H.out.zr (e ▸ q)⟩⟩, ⟨HG8.out.os.trans (HC7.out.1.trans (HR.out.2.os.trans HB3.out.os)), HG8.out.tape.trans (HC7.out.2.1.trans (HR.out.2.tape.trans HB3.out.tape)), HG8.out.output.trans (HC7.out.2.2.1.trans (HR.out.2.output.trans HB3.out.output)), Nat.le_trans HB3.out.size (Nat.le_trans HR.out.2.size (Nat.le_trans HC7.out.2.2.2 HG8.out.size)), fun x hx hn => ?_⟩⟩
    · rcases q.1 with (q | q) | q
      · exact q.1
      · have := HB3.out.size; omega
      · have := HB3.out.size; have := HR.out.2.size; have := HC7.out.2.2.2; omega
    · have h3 : x < w3.heap.size := Nat.lt_of_lt_of_le hx HB3.out.size
      have h4 : x < wc.heap.size := Nat.lt_of_lt_of_le h3 HR.out.2.size
      rw [HG8.out.block x (Nat.lt_of_lt_of_le h4 HC7.out.2.2.2) (fun e => hn (.inr (Option.some.inj e))), HK7.out x h4 (.inl hx), HR.out.2.block x h3 (fun e => hn (.inl (Option.some.inj e))), HB3.out.block x hx]
  clear kr ap p2
  go_wp2_with (go_at_call 15; refine (num_ _ _).mono ?_; rintro e wn ⟨rfl, hw⟩; obtain rfl := hw.symm; clear hw)
  go_ret
  exact ⟨by simp, HF.out⟩
set_option maxHeartbeats 8000000 in
theorem papply_no (Z U : Nat → Prop) (p t b r : Nat) (x1 x3 : Value) (M : Tab) (a : Option Addr) (n c : Nat) (l : List Sx) (w : World) (hp : w.heap[p]? = some (.cells #[.pointer (some ⟨t, 0, none⟩), x1, .pointer (some ⟨r, 0, none⟩), x3] 34 (0, 0))) (h : Pt w Z t b r M M) (hpb : p ≠ b) (hpr : p ≠ r) (hl : Sl w U a n l) (hU : ∀ x, U x → x < w.heap.size ∧ x ≠ b ∧ x ≠ r) (hsh : ∀ s ∈ l, s.k.length ≤ 2000 ∧ s.v.length ≤ 2000) (hM : M.length + n ≤ 10000000) (hq : allMay l = false) :
    Calls Tryz.prog 28 #[.pointer (some ⟨p, 0, none⟩), .slice a n c] w fun e w' => e = .returned (.bool true) ∧ Aft w w' Z t b r (M) := by
  have HP := hid hp
  have H := hid h
  have HL := hid hl
  have HLN : Hid (l.length = n) := hl.len
  have HU := hid hU
  have HSH := hid hsh
  have HQ := hid hq
  have hpl := (Array.getElem?_eq_some_iff.1 hp).1
  clear hp h hl hU hsh hq
  go_enter Tryz.func28, Tryz.ntmps28
  go_wp2_with fail
  refine (lend_ U a n c l w HL.out (by omega) HSH.out).mono ?_
  rintro e w3 ⟨m, vs, vk, vv, es, rfl, ln, hes⟩
  have HEN : Hid (es.length = n) := by have h := congrArg List.length hes; rw [List.length_map, HLN.out] at h; exact h
  have HES := hid hes
  have HLn := hid ln
  have HB3 := hid ln.bel
  rw [endS_eqZ] at ln
  obtain ⟨gs, cs, hvs, hcs, hcm, hsl⟩ := ln.sl
  rw [HEN.out] at hvs hcs hsl
  have HSM := hid (hsl.cut (k := n) (by omega))
  have hcut : (es.map (·.s) ++ [(⟨[], [], true⟩ : Sx)]).take n = l := by rw [hes, ← HLN.out]; simp
  rw [hcut] at HSM
  have cm0 : w3.cell? ⟨m, 0, none⟩ = some (.slice (some ⟨gs, 0, none⟩) (n + 1) cs) := by
    rw [cell_of_row w3 m 0 _ 82 (0, 0) ln.var, hvs]; rfl
  have CM := hid cm0
  have ko := fun wx (hc : wx.cell? ⟨m, 0, none⟩ = some (.slice (some ⟨gs, 0, none⟩) (n + 1) cs)) => of_ wx m gs n cs hc hcs hcm
  have hmw : w.heap.size ≤ m ∧ m < w3.heap.size := ⟨ln.lo, ln.mlt⟩
  have hbl := H.out.tw.mp.lt
  have hrl := H.out.dd.lt
  have HPT := hid (H.out.keep (w' := w3) (Z' := Z) (fun x hx _ => HB3.out.block x hx) (fun _ _ hz => hz) H.out.zb H.out.zr)
  have HTWZ : Hid (Tw w3 t b (fun x => Z x ∧ x < w.heap.size) M) := (H.out.tw.wide fun x hx hz => ⟨hz, hx⟩).below HB3.out
  have p0 : w3.cell? ⟨p, 0, none⟩ = some (.pointer (some ⟨t, 0, none⟩)) := (HB3.out.cell (p := ⟨p, 0, none⟩) hpl).trans ((cell_of_row _ _ 0 _ _ (0, 0) HP.out).trans rfl)
  have P0 := hid p0
  have ka := fun wx (hb : Below w3.heap.size w3 wx) => apply_no t b (fun x => Z x ∧ x < w.heap.size) _ M (some ⟨gs, 0, none⟩) n (n + 1) l wx ((HTWZ.out).below hb) (HSM.out.below hb) (by omega) (by omega) HQ.out
  clear ln hes hvs hsl hcut cm0
  go_upto_region 2 with fail
  go_cut [6] from 33 to 33 (fun u6 wx => u6 = .int .i64 114 ∧ Hid (Tw wx t b (fun x => (Z x ∧ x < w.heap.size) ∨ w3.heap.size ≤ x) (M) ∧ w3.grownBy wx (some b)))
  case first =>
    have cm := CM.out
    go_region_held (fun wx => wx.cell? ⟨p, 0, none⟩ = some (.pointer (some ⟨t, 0, none⟩)) ∧ wx.cell? ⟨m, 0, none⟩ = some (.slice (some ⟨gs, 0, none⟩) (n + 1) cs)) (go_keep) (first
      | (go_at_call 53; refine (ko _ (by first | exact CM.out | exact cm)).mono ?_; rintro e wy ⟨rfl, hw⟩; subst hw)
      | (go_at_call 9; refine (ka _ (by first | exact below_drew w3 | exact Below.refl _ _)).mono ?_; rintro e w4 ⟨rfl, tw4, g4⟩; have y0 := (World.cell?_of_block (w := w3) (w' := w4) (a := ⟨p, 0, none⟩) (g4.block p (by have := HB3.out.size; show p < w3.heap.size; omega) (fun e => hpb (Option.some.inj e)))).trans P0.out; have y1 := (World.cell?_of_block (w := w3) (w' := w4) (a := ⟨m, 0, none⟩) (g4.block m hmw.2 (fun e => by have := Option.some.inj e; omega))).trans CM.out; have HTW := hid tw4; have HG4 : Hid (w3.grownBy w4 (some b)) := ⟨g4.os, g4.tape, g4.output, g4.size, g4.block⟩; clear tw4 g4))
    clear p0 cm y0 y1 ka ko
    go_wp2_with fail
    go_meet
    exact ⟨rfl, HTW.out, HG4.out⟩
  obtain ⟨rfl, HR⟩ := hcut
  have hln' := HLn.out.by HR.out.2 (by have := HB3.out.size; omega)
  rw [endS_eqZ] at hln'
  have HSW : Hid (Sl wc U a n l) := HL.out.step fun x hx hu _ => (HR.out.2.block x (Nat.lt_of_lt_of_le hx HB3.out.size) (fun e => (HU.out x hu).2.1 (Option.some.inj e))).trans (HB3.out.block x hx)
  have kh := held_ (tr wc w.heap.size) wc m vs vk vv es U a n c l hln' HSW.out HES.out (fun x _ hu => ⟨fun e he => ⟨by have := (HU.out x hu).1; have := (HLn.out.y e he).bk; omega, by have := (HU.out x hu).1; have := (HLn.out.y e he).bv; omega⟩, fun f => by have := (HLn.out.os.lt x f).1; have := (HU.out x hu).1; omega⟩) (by omega) HSH.out
  clear hln' p0 ka ko
  go_wp2_with fail
  refine kh.mono ?_
  rintro e w7 ⟨rfl, b7, s7, k7⟩
  have HK7 : Hid (∀ x, x < wc.heap.size → (x < w.heap.size ∨ w3.heap.size ≤ x) → w7.heap[x]? = wc.heap[x]?) := fun x hx hz => k7 x hx (fun e he => ⟨by have := (HLn.out.y e he).bk; have := (HLn.out.y e he).k.lt; omega, by have := (HLn.out.y e he).bv; have := (HLn.out.y e he).v.lt; omega⟩) (fun f => by have := HLn.out.os.lt x f; omega)
  have HZL : Hid (∀ x, Z x → x < w3.heap.size → x < w.heap.size → True) := fun _ _ _ _ => trivial
  have HP7 : Hid (Pt w7 (fun x => (Z x ∧ x < w.heap.size) ∨ w3.heap.size ≤ x) t b r (M) M) := by
    have h0 : Pt w3 (fun x => Z x ∧ x < w.heap.size) t b r M M := by
      have h1 : Pt w (fun x => Z x ∧ x < w.heap.size) t b r M M := H.out.keep (fun _ _ _ => rfl) (fun x hx hz => ⟨hz, hx⟩) (fun q => H.out.zb q.1) (fun q => H.out.zr q.1)
      exact h1.keep (fun x hx _ => HB3.out.block x hx) (fun _ _ hz => hz) h1.zb h1.zr
    have h2 : Tw wc t b (fun x => (Z x ∧ x < w.heap.size) ∨ w3.heap.size ≤ x) (M) := HR.out.1
    exact (h0.turnT HR.out.2 h2).keep (fun x hx hz => HK7.out x hx (by
      rcases hz with (hz | hz) | rfl | rfl
      · exact .inl hz.2
      · exact .inr hz
      · exact .inl hbl
      · exact .inl hrl)) (fun _ _ hz => hz) (fun q => by rcases q with q | q; exact H.out.zb q.1; have := HB3.out.size; omega) (fun q => by rcases q with q | q; exact H.out.zr q.1; have := HB3.out.size; omega)
  have HC7 := hid (⟨b7.os, b7.tape, b7.output, s7⟩ : w7.os = wc.os ∧ w7.tape = wc.tape ∧ w7.output = wc.output ∧ wc.heap.size ≤ w7.heap.size)
  have p2 : w7.cell? ⟨p, 2, none⟩ = some (.pointer (some ⟨r, 0, none⟩)) := (World.cell?_of_block (w := w) (w' := w7) (a := ⟨p, 2, none⟩) ((HK7.out p (Nat.lt_of_lt_of_le hpl (Nat.le_trans HB3.out.size HR.out.2.size)) (.inl hpl)).trans ((HR.out.2.block p (Nat.lt_of_lt_of_le hpl HB3.out.size) (fun e => hpb (Option.some.inj e))).trans (HB3.out.block p hpl)))).trans ((cell_of_row _ _ 2 _ _ (0, 0) HP.out).trans rfl)
  have kr := rapply_no _ U r M a n c l w7 HP7.out.dd (fun x hx e => HP7.out.zr (e ▸ hx)) H.out.tw.tok hM (HSW.out.step fun x hx hu _ => HK7.out x hx (.inl (HU.out x hu).1)) (fun x hx => (HU.out x hx).2.2) HQ.out
  clear kh b7 s7 k7
  go_wp2_with fail
  refine kr.mono ?_
  rintro e w8 ⟨rfl, ap⟩
  have HP8 := hid (HP7.out.turnR ap)
  have HG8 := hid (show w7.grownBy w8 (some r) from by obtain ⟨_, _, _, _, _, g⟩ := ap; exact g)
  have HF : Hid (Aft w w8 Z t b r (M)) := by
    refine ⟨_, HP8.out, fun x hx => ⟨fun q => ?_, fun q => ⟨.inl (.inl ⟨q, hx⟩), fun e => H.out.zr (e ▸ q)⟩⟩, ⟨HG8.out.os.trans (HC7.out.1.trans (HR.out.2.os.trans HB3.out.os)), HG8.out.tape.trans (HC7.out.2.1.trans (HR.out.2.tape.trans HB3.out.tape)), HG8.out.output.trans (HC7.out.2.2.1.trans (HR.out.2.output.trans HB3.out.output)), Nat.le_trans HB3.out.size (Nat.le_trans HR.out.2.size (Nat.le_trans HC7.out.2.2.2 HG8.out.size)), fun x hx hn => ?_⟩⟩
    · rcases q.1 with (q | q) | q
      · exact q.1
      · have := HB3.out.size; omega
      · have := HB3.out.size; have := HR.out.2.size; have := HC7.out.2.2.2; omega
    · have h3 : x < w3.heap.size := Nat.lt_of_lt_of_le hx HB3.out.size
      have h4 : x < wc.heap.size := Nat.lt_of_lt_of_le h3 HR.out.2.size
      rw [HG8.out.block x (Nat.lt_of_lt_of_le h4 HC7.out.2.2.2) (fun e => hn (.inr (Option.some.inj e))), HK7.out x h4 (.inl hx), HR.out.2.block x h3 (fun e => hn (.inl (Option.some.inj e))), HB3.out.block x hx]
  clear kr ap p2
  go_wp2_with (go_at_call 15; refine (num_ _ _).mono ?_; rintro e wn ⟨rfl, hw⟩; obtain rfl := hw.symm; clear hw)
  go_ret
  exact ⟨by simp, HF.out⟩
end Go.Proofs.YteeapmcpbmjpmaaGreat
