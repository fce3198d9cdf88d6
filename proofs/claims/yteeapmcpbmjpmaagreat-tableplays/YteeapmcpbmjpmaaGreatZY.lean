import Derived.Test.YteeapmcpbmjpmaaGreatZX
namespace Go.Proofs.YteeapmcpbmjpmaaGreat
set_option maxRecDepth 100000
open Go.RowKit Go.Shelf Go.Maps
set_option linter.unusedVariables false

theorem fb_enc {M : Tab} (h : Tok M) : fb (enc (asS M)) = some M := by
  unfold fb
  rw [gs_enc (asS_ok h)]
  simp only
  rw [if_pos (by simp [asS]), asT_asS]
theorem Vs.notMap {w : World} {V : Nat → Prop} {a : Option Addr} {n c : Nat} {v : List Int} (h : Vs w V a n c v) : Vs w (fun x => V x ∧ ∀ es cl, w.heap[x]? ≠ some (.map es cl)) a n c v := ⟨h.bs, h.nc, h.cm, h.nil, fun ad e hn => ⟨h.lies ad e hn, (h.bs.at_block e hn).2⟩⟩
theorem Mp.notMap {w : World} {b : Nat} {V : Nat → Prop} {M : Tab} (h : Mp w b V M) : Mp w b (fun x => V x ∧ ∀ es cl, w.heap[x]? ≠ some (.map es cl)) M := by
  obtain ⟨D, h1, h2⟩ := h
  exact ⟨D, h1, h2.size, h2.has, fun k v hv => by
    obtain ⟨a, n, c, h3, h4⟩ := h2.val k v hv
    exact ⟨a, n, c, h3, h4.notMap⟩⟩
theorem Tw.notMap {w : World} {t b : Nat} {V : Nat → Prop} {M : Tab} (h : Tw w t b V M) : Tw w t b (fun x => V x ∧ x ≠ b) M := by
  obtain ⟨es, cl, hb⟩ := h.mp.isMap
  exact ⟨h.tbl, h.mp.notMap.wide fun x _ hx => ⟨hx.1, fun e => hx.2 es cl (by rw [e]; exact hb)⟩, h.tok⟩
theorem heap4 {W : World} {m i : Nat} {a b c d u : Value} {T : TypeId} (h : W.heap[m]? = some (.cells #[a, b, c, d] T (0, 0))) : (W.setCell ⟨m, i, none⟩ u).heap[m]? = some (.cells (#[a, b, c, d].setIfInBounds i u) T (0, 0)) := by
  simp [World.setCell, Array.getElem?_modify, h]
theorem frz4 {W : World} {m i : Nat} {cs : Array Value} {T : TypeId} (h : W.heap[m]? = some (.cells cs T (0, 0))) : W.frozen? ⟨m, i, none⟩ = false := by simp [World.frozen?, h]
theorem set_same {W : World} {m i x : Nat} {u : Value} (h : x ≠ m) : (W.setCell ⟨m, i, none⟩ u).heap[x]? = W.heap[x]? := Below.heap_setCell _ _ _ _ h
set_option maxHeartbeats 8000000 in
theorem on12_ (Z : Nat → Prop) (p t b r : Nat) (x1 x3 : Value) (M : Tab) (sec : Bool) (ka va sa : Option Addr) (kn kc vn vc sn sc : Nat) (w : World) (hp : w.heap[p]? = some (.cells #[.pointer (some ⟨t, 0, none⟩), x1, .pointer (some ⟨r, 0, none⟩), x3] 34 (0, 0))) (h : Pt w Z t b r M M) (hpr : p ≠ r) (hpZ : ¬ Z p) (hM : M.length ≤ 700000) :
    Calls Tryz.prog 7 #[.pointer (some ⟨p, 0, none⟩), .agg #[.int .i64 12, .bool sec, .slice ka kn kc, .slice va vn vc, .slice sa sn sc]] w fun e w' => e = .returned (.bool true) ∧ ∃ t' b', w'.heap[p]? = some (.cells #[.pointer (some ⟨t', 0, none⟩), x1, .pointer (some ⟨r, 0, none⟩), x3] 34 (0, 0)) ∧ Pt w' (fun x => (Z x ∧ x < w.heap.size) ∨ (w.heap.size ≤ x ∧ x ≠ b')) t' b' r M M ∧ w.heap.size ≤ b' ∧ Fz (fun x => x = p) w w' := by
  have HX0 : Hid (Bx w (w.alloc (.cells #[.int .i64 12, .bool sec, .slice ka kn kc, .slice va vn vc, .slice sa sn sc] 38)) p t r w.heap.size x1 x3 12 sec (.slice ka kn kc) (.slice va vn vc) (.slice sa sn sc)) := Bx.mk' hp
  have o0 := HX0.out.o0 (Below.refl _ _)
  have p2 := HX0.out.p2 (Below.refl _ _)
  have HTK := hid h.tw.tok
  have hpl := (Array.getElem?_eq_some_iff.1 hp).1
  have hrl := h.dd.lt
  have HD0 := hid (h.dd.on HX0.out.bel)
  have HH := hid h
  obtain ⟨ra, rc, hd, hrc1, hrc2⟩ := HD0.out
  have kr := rbytes_ Z r ra M.length rc M _ hd HTK.out (by omega)
  have HEL : Hid ((enc (asS M)).length ≤ 400000000) := by
    show _ ≤ _
    have h1 := enc_len_all (asS_may HTK.out)
    have h2 : (asS M).length = M.length := by simp [asS]
    omega
  have HOK : Hid (Okb (enc (asS M))) := enc_byte (asS_byte HTK.out)
  have HFB : Hid (fb (enc (asS M)) = some M) := fb_enc HTK.out
  obtain ⟨E, HE⟩ : ∃ E, Hid (enc (asS M) = E) := ⟨_, rfl⟩
  rw [HE.out] at kr HEL HOK HFB
  obtain ⟨wb, HWB⟩ : ∃ y, Hid (w.alloc (.cells #[.int .i64 12, .bool sec, .slice ka kn kc, .slice va vn vc, .slice sa sn sc] 38) = y) := ⟨_, rfl⟩
  clear hp h hd
  go_enter Tryz.func7, Tryz.ntmps7
  go_wp2_with fail
  refine kr.mono ?_
  rw [HWB.out] at HX0 HD0 ⊢
  rintro e w1 ⟨v1, rfl, o1, g1⟩
  obtain ⟨a1, c1, hv, vs1⟩ := Vs.ofOwn o1 HOK.out
  subst hv
  have HB1 := hid g1
  have kf := fromBytes_ a1 E.length c1 E w1 vs1.bs vs1.nil vs1.nc (by have := HEL.out; omega)
  clear kr o1 g1 vs1 p2 o0
  go_wp2_with fail
  refine kf.mono ?_
  rintro e w2 (⟨M2, t', b', hf, rfl, tw2, hb2, ht2, hB2⟩ | ⟨hf, _⟩)
  case inr => rw [HFB.out] at hf; cases hf
  obtain rfl : M = M2 := by rw [HFB.out] at hf; exact Option.some.inj hf
  have hsz1 := HB1.out.size
  have hszb := HX0.out.bel.size
  have HB2 : Hid (Below w.heap.size w w2) := by
    have h1 := bel_bel HB1.out HB1.out.size hB2
    exact bel_bel HX0.out.bel HX0.out.bel.size h1
  have hp2 : w2.heap[p]? = some (.cells #[.pointer (some ⟨t, 0, none⟩), x1, .pointer (some ⟨r, 0, none⟩), x3] 34 (0, 0)) := by
    have h1 := bel_bel HB1.out HB1.out.size hB2
    rw [h1.block p (by omega)]
    exact HX0.out.pr
  have p0 : w2.cell? ⟨p, 0, none⟩ = some (.pointer (some ⟨t, 0, none⟩)) := (cell_of_row _ _ 0 _ _ (0, 0) hp2).trans rfl
  have fz : w2.frozen? ⟨p, 0, none⟩ = false := frz4 hp2
  have HF : Hid ((w2.setCell ⟨p, 0, none⟩ (.pointer (some ⟨t', 0, none⟩))).heap[p]? = some (.cells #[.pointer (some ⟨t', 0, none⟩), x1, .pointer (some ⟨r, 0, none⟩), x3] 34 (0, 0)) ∧ Pt (w2.setCell ⟨p, 0, none⟩ (.pointer (some ⟨t', 0, none⟩))) (fun x => (Z x ∧ x < w.heap.size) ∨ (w.heap.size ≤ x ∧ x ≠ b')) t' b' r M M ∧ w.heap.size ≤ b' ∧ Fz (fun x => x = p) w (w2.setCell ⟨p, 0, none⟩ (.pointer (some ⟨t', 0, none⟩)))) := by
    refine ⟨(heap4 hp2).trans rfl, ⟨?_, ?_, .inr ⟨by omega, ?_⟩, fun q => ?_, fun q => ?_, by omega⟩, by omega, ⟨HB2.out.os, HB2.out.tape, HB2.out.output, by simpa [World.setCell] using HB2.out.size, fun x hx hn => (set_same hn).trans (HB2.out.block x hx)⟩⟩
    · exact tw2.notMap.keepZ (set_same (by omega)) (set_same (by omega)) (fun x hx hz => set_same (by have := hz.1; omega)) (fun x _ hz => .inr ⟨by have := hz.1; omega, hz.2⟩)
    · exact HH.out.dd.keep ((set_same (Ne.symm hpr)).trans (HB2.out.block r hrl)) (fun x hx hz => (set_same (fun (e : x = p) => hpZ (e ▸ hz))).trans (HB2.out.block x hx)) (fun x hx hz => .inl ⟨hz, hx⟩)
    · intro e
      obtain ⟨es, cl, hm⟩ := tw2.mp.isMap
      have := tw2.tbl
      unfold Tbl at this
      rw [e, hm] at this
      cases this
    · rcases q with q | q
      · have := q.2; omega
      · exact q.2 rfl
    · rcases q with q | q
      · exact HH.out.zr q.1
      · omega
  clear kf tw2 hB2 hp2 hf
  go_wp2_with (go_at_call 15; refine (num_ _ _).mono ?_; rintro e wn ⟨rfl, hw⟩; obtain rfl := hw.symm; clear hw)
  go_ret
  exact ⟨rfl, t', b', HF.out⟩
set_option maxHeartbeats 8000000 in
theorem on6_ (Z : Nat → Prop) (p t b r : Nat) (x1 x3 : Value) (M : Tab) (sec : Bool) (ka va sa : Option Addr) (kn kc vn vc sn sc : Nat) (w : World) (hp : w.heap[p]? = some (.cells #[.pointer (some ⟨t, 0, none⟩), x1, .pointer (some ⟨r, 0, none⟩), x3] 34 (0, 0))) (h : Pt w Z t b r M M) (hpb : p ≠ b) (hpr : p ≠ r) (hpZ : ¬ Z p) (hM : M.length ≤ 700000) :
    Calls Tryz.prog 7 #[.pointer (some ⟨p, 0, none⟩), .agg #[.int .i64 6, .bool sec, .slice ka kn kc, .slice va vn vc, .slice sa sn sc]] w fun e w' => e = .returned (.bool true) ∧ ∃ o b1 b2 q s1 s2, w'.heap[p]? = some (.cells #[.pointer (some ⟨t, 0, none⟩), .pointer (some ⟨o, 0, none⟩), .pointer (some ⟨r, 0, none⟩), .pointer (some ⟨q, 0, none⟩)] 34 (0, 0)) ∧ Pt w' (fun x => (Z x ∧ x < w.heap.size) ∨ (w.heap.size ≤ x ∧ x ≠ b1 ∧ x ≠ s2)) t b r M M ∧ Po w' (fun x => (Z x ∧ x < w.heap.size) ∨ (w.heap.size ≤ x ∧ x ≠ b1 ∧ x ≠ s2)) o b1 b2 q s1 s2 M M M ∧ w.heap.size ≤ b1 ∧ w.heap.size ≤ s2 ∧ Fz (fun x => x = p) w w' := by
  have HX0 : Hid (Bx w (w.alloc (.cells #[.int .i64 6, .bool sec, .slice ka kn kc, .slice va vn vc, .slice sa sn sc] 38)) p t r w.heap.size x1 x3 6 sec (.slice ka kn kc) (.slice va vn vc) (.slice sa sn sc)) := Bx.mk' hp
  have o0 := HX0.out.o0 (Below.refl _ _)
  have p0 := HX0.out.p0 (Below.refl _ _)
  have HTK := hid h.tw.tok
  have hpl := (Array.getElem?_eq_some_iff.1 hp).1
  have hrl := h.dd.lt
  have hbl := h.tw.mp.lt
  have HH := hid h
  have HD0 := hid (h.dd.on HX0.out.bel)
  have ko := over_ t b (fun x => Z x ∧ x < w.heap.size) M _ ((h.tw.wide fun x hx hz => ⟨hz, hx⟩).below HX0.out.bel)
  obtain ⟨wb, HWB⟩ : ∃ y, Hid (w.alloc (.cells #[.int .i64 6, .bool sec, .slice ka kn kc, .slice va vn vc, .slice sa sn sc] 38) = y) := ⟨_, rfl⟩
  clear hp h
  go_enter Tryz.func7, Tryz.ntmps7
  go_wp2_with fail
  refine ko.mono ?_
  rw [HWB.out] at HX0 HD0 ⊢
  rintro e w1 ⟨o, b1, b2, rfl, ov, hb1, hb2, ho1, hB1⟩
  have hszb := HX0.out.bel.size
  have hp1 : w1.heap[p]? = some (.cells #[.pointer (some ⟨t, 0, none⟩), x1, .pointer (some ⟨r, 0, none⟩), x3] 34 (0, 0)) := by rw [hB1.block p (by omega)]; exact HX0.out.pr
  have q1 : w1.cell? ⟨p, 1, none⟩ = some x1 := (cell_of_row _ _ 1 _ _ (0, 0) hp1).trans rfl
  have f1 : w1.frozen? ⟨p, 1, none⟩ = false := frz4 hp1
  have HB1 := hid hB1
  have HOV := hid ov
  have hp2 : (w1.setCell ⟨p, 1, none⟩ (.pointer (some ⟨o, 0, none⟩))).heap[p]? = some (.cells #[.pointer (some ⟨t, 0, none⟩), .pointer (some ⟨o, 0, none⟩), .pointer (some ⟨r, 0, none⟩), x3] 34 (0, 0)) := (heap4 hp1).trans rfl
  have HP2 := hid hp2
  have p2 : (w1.setCell ⟨p, 1, none⟩ (.pointer (some ⟨o, 0, none⟩))).cell? ⟨p, 2, none⟩ = some (.pointer (some ⟨r, 0, none⟩)) := (cell_of_row _ _ 2 _ _ (0, 0) hp2).trans rfl
  have HD2 : Hid (Dq (w1.setCell ⟨p, 1, none⟩ (.pointer (some ⟨o, 0, none⟩))) Z r M) := (HD0.out.on HB1.out).keep (set_same (Ne.symm hpr)) (fun x _ hz => set_same (fun (e : x = p) => hpZ (e ▸ hz))) (fun _ _ hz => hz)
  obtain ⟨ra, rc, hd, hrc1, hrc2⟩ := HD2.out
  have kq := rover_ Z r ra M.length rc M _ hd (by omega) (tok_len HTK.out)
  obtain ⟨w2, HW2⟩ : ∃ y, Hid (w1.setCell ⟨p, 1, none⟩ (.pointer (some ⟨o, 0, none⟩)) = y) := ⟨_, rfl⟩
  have HS2 : Hid (w2.heap.size = w1.heap.size) := by rw [← HW2.out]; simp [World.setCell, Hid]
  clear ko ov hB1 hp1 hd p0 o0 hp2
  go_wp2_with fail
  refine kq.mono ?_
  rw [HW2.out] at HP2 HD2 ⊢
  rintro e w3 ⟨q, s1, s2, a', c', a'', c'', rfl, hq3, d1, d2, i1, i2, i3, i4, hB3, j1, j2, j3⟩
  have hs1 := HB1.out.size
  have hs2 := HS2.out
  have hs3 := hB3.size
  have hp3 : w3.heap[p]? = some (.cells #[.pointer (some ⟨t, 0, none⟩), .pointer (some ⟨o, 0, none⟩), .pointer (some ⟨r, 0, none⟩), x3] 34 (0, 0)) := by rw [hB3.block p (by omega)]; exact HP2.out
  have q3 : w3.cell? ⟨p, 3, none⟩ = some x3 := (cell_of_row _ _ 3 _ _ (0, 0) hp3).trans rfl
  have f3 : w3.frozen? ⟨p, 3, none⟩ = false := frz4 hp3
  have z3 : ∀ y, (w3.setCell ⟨p, 3, none⟩ (.pointer (some ⟨q, 0, none⟩))).heap[p]? = y → (w3.setCell ⟨p, 3, none⟩ (.pointer (some ⟨q, 0, none⟩))).heap[p]? = y := fun y hy => hy
  have hp4 : (w3.setCell ⟨p, 3, none⟩ (.pointer (some ⟨q, 0, none⟩))).heap[p]? = some (.cells #[.pointer (some ⟨t, 0, none⟩), .pointer (some ⟨o, 0, none⟩), .pointer (some ⟨r, 0, none⟩), .pointer (some ⟨q, 0, none⟩)] 34 (0, 0)) := (heap4 hp3).trans rfl
  have r1 : (w3.setCell ⟨p, 3, none⟩ (.pointer (some ⟨q, 0, none⟩))).cell? ⟨p, 1, none⟩ = some (.pointer (some ⟨o, 0, none⟩)) := (cell_of_row _ _ 1 _ _ (0, 0) hp4).trans rfl
  have HF : Hid (∀ w4, w4 = w3.setCell ⟨p, 3, none⟩ (.pointer (some ⟨q, 0, none⟩)) → ∃ o b1 b2 q s1 s2, w4.heap[p]? = some (.cells #[.pointer (some ⟨t, 0, none⟩), .pointer (some ⟨o, 0, none⟩), .pointer (some ⟨r, 0, none⟩), .pointer (some ⟨q, 0, none⟩)] 34 (0, 0)) ∧ Pt w4 (fun x => (Z x ∧ x < w.heap.size) ∨ (w.heap.size ≤ x ∧ x ≠ b1 ∧ x ≠ s2)) t b r M M ∧ Po w4 (fun x => (Z x ∧ x < w.heap.size) ∨ (w.heap.size ≤ x ∧ x ≠ b1 ∧ x ≠ s2)) o b1 b2 q s1 s2 M M M ∧ w.heap.size ≤ b1 ∧ w.heap.size ≤ s2 ∧ Fz (fun x => x = p) w w4) := by
    rintro w4 rfl
    have k0 : ∀ x, x < w.heap.size → x ≠ p → (w3.setCell ⟨p, 3, none⟩ (.pointer (some ⟨q, 0, none⟩))).heap[x]? = w.heap[x]? := fun x hx hn => by
      rw [set_same hn, hB3.block x (by omega), ← HW2.out, set_same hn, HB1.out.block x (by omega), HX0.out.bel.block x hx]
    have k1 : ∀ x, x < w1.heap.size → x ≠ p → (w3.setCell ⟨p, 3, none⟩ (.pointer (some ⟨q, 0, none⟩))).heap[x]? = w1.heap[x]? := fun x hx hn => by
      rw [set_same hn, hB3.block x (by omega), ← HW2.out, set_same hn]
    have hbm := HOV.out.is.lt
    have hne12 := HOV.out.ne
    have lo := HOV.out.lt
    have lb2 := HOV.out.was.lt
    refine ⟨o, b1, b2, q, s1, s2, hp4, ?_, ?_, by omega, by omega, ⟨hB3.os.trans ((by rw [← HW2.out]; rfl : w2.os = w1.os).trans (HB1.out.os.trans HX0.out.bel.os)), hB3.tape.trans ((by rw [← HW2.out]; rfl : w2.tape = w1.tape).trans (HB1.out.tape.trans HX0.out.bel.tape)), hB3.output.trans ((by rw [← HW2.out]; rfl : w2.output = w1.output).trans (HB1.out.output.trans HX0.out.bel.output)), by simp [World.setCell]; omega, k0⟩⟩
    · exact HH.out.keep (fun x hx hz => k0 x hx (by
        rcases hz with hz | rfl | rfl
        · exact fun e => hpZ (e ▸ hz)
        · exact Ne.symm hpb
        · exact Ne.symm hpr)) (fun x hx hz => .inl ⟨hz, hx⟩) (fun y => by rcases y with y | y; exact HH.out.zb y.1; omega) (fun y => by rcases y with y | y; exact HH.out.zr y.1; omega)
    · have hZ1 : ∀ x, x < w1.heap.size → (Z x ∧ x < w.heap.size) → ((Z x ∧ x < w.heap.size) ∨ (w.heap.size ≤ x ∧ x ≠ b1 ∧ x ≠ s2)) := fun x _ hz => .inl hz
      have kz : ∀ x, x < w1.heap.size → (Z x ∧ x < w.heap.size) → (w3.setCell ⟨p, 3, none⟩ (.pointer (some ⟨q, 0, none⟩))).heap[x]? = w1.heap[x]? := fun x hx hz => k1 x hx (fun e => hpZ (e ▸ hz.1))
      refine ⟨⟨(k1 o lo (by omega)).trans HOV.out.obj, HOV.out.is.keepZ (k1 b1 hbm (by omega)) kz hZ1, HOV.out.was.keepZ (k1 b2 lb2 (by omega)) kz hZ1, HOV.out.tokI, HOV.out.tokW, HOV.out.ne⟩, (set_same (by omega)).trans hq3, ?_, ?_, .inr ⟨by omega, ?_, by omega⟩, .inr ⟨by omega, fun e => hne12 e.symm, by omega⟩, .inr ⟨by omega, by omega, by omega⟩, .inr ⟨by omega, by omega, by omega⟩, fun y => by rcases y with y | y; have := y.2; omega; exact y.2.1 rfl, fun y => by rcases y with y | y; have := y.2; omega; exact y.2.2 rfl, by omega⟩
      · exact Dq.keep ⟨a', c', d1, i1, i2⟩ (set_same (by omega)) (fun x _ hz => set_same (by have := hz.1; omega)) (fun x _ hz => .inr ⟨by have := hz.1; omega, by have := hz.1; omega, by have := hz.2; omega⟩)
      · exact Dq.keep ⟨a'', c'', d2, i3, i4⟩ (set_same (by omega)) (fun x _ hz => set_same (by have := hz.1; omega)) (fun x _ hz => .inr ⟨by have := hz.1; omega, by have := hz.1; omega, by have := hz.2; omega⟩)
      · intro e
        exact HOV.out.not_map _ _ (by rw [e]; exact (HOV.out.is.isMap.choose_spec).choose_spec)
  clear kq d1 d2 hB3 hp3 hq3 hp4
  go_wp2_with fail
  go_ret
  exact ⟨by simp, HF.out _ rfl⟩
end Go.Proofs.YteeapmcpbmjpmaaGreat
