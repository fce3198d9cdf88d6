import Derived.Test.YtghehfhkiknjhaaUN
namespace Go.Proofs.Ytghehfhkiknjhaa
set_option maxRecDepth 100000
open Go.RowKit Go.Shelf Go.Maps
set_option linter.unusedVariables false

theorem may_at1 {L : List Sx} {k : Nat} (h : allMay L = true) (hk : k < L.length) : mayS (L.getD k default) = true := by
  have hh := may_at h hk
  simpa [allMay] using hh
theorem doAll_ins {M : Tab} {l : List Sx} {k : Nat} (hk : k < l.length) (hg : (l.getD k default).g = false) : ins (l.getD k default).k (l.getD k default).v (doAll M (l.take k)) = doAll M (l.take (k + 1)) := by
  rw [← doAll_step hk]
  simp only [doAll, List.foldl_cons, List.foldl_nil, doS, hg]
  rfl
theorem doAll_del {M : Tab} {l : List Sx} {k : Nat} (hk : k < l.length) (hg : (l.getD k default).g = true) : del (l.getD k default).k (doAll M (l.take k)) = doAll M (l.take (k + 1)) := by
  rw [← doAll_step hk]
  simp only [doAll, List.foldl_cons, List.foldl_nil, doS, hg]
  rfl
theorem look_gone (k : List Int) (M : Tab) : (look (del k M) k).isSome = false := by rw [look_del, if_pos rfl]; rfl
theorem cell_other {w w' : World} {b bl o : Nat} {v : Value} (hg : w.grownBy w' (some b)) (hm : ∃ es cl, w.heap[b]? = some (.map es cl)) (c : w.cell? ⟨bl, o, none⟩ = some v) : w'.cell? ⟨bl, o, none⟩ = some v := by
  refine (World.cell?_of_block (hg.block bl (World.block_lt_of_cell? _ _ c) ?_)).trans c
  intro e
  obtain ⟨es, cl, em⟩ := hm
  obtain rfl := Option.some.inj e
  exact cell_not_map c es cl em
theorem Vs.other {w w' : World} {V : Nat → Prop} {a : Option Addr} {n c b : Nat} {v : List Int} (h : Vs w V a n c v) (hg : w.grownBy w' (some b)) (hm : ∃ es cl, w.heap[b]? = some (.map es cl)) : Vs w' V a n c v :=
  h.step fun x hx _ hnm => hg.block x hx (fun e => by
    obtain ⟨es, cl, em⟩ := hm
    obtain rfl := Option.some.inj e
    exact hnm es cl em)
theorem s_oget {w0 w : World} {o b1 b2 : Nat} {V : Nat → Prop} {I W : Tab} (a : Option Addr) (n c : Nat) (k : List Int) (q : Bool) (B : Below w0.heap.size w0 w) (h : Ov w o b1 b2 V I W) (hk : Bs w a n k) (hn : n ≤ 100000) (hq : (look I k).isSome = q) :
    Calls Try.prog 29 #[.map (some b1), .slice a n c] w fun e w' => ∃ a' m c', e = .returned (.tuple #[.slice a' m c', .bool q]) ∧ Vs w' (Up w0) a' m c' ((look I k).getD []) ∧ Below w0.heap.size w0 w' ∧ Below w.heap.size w w' := by
  refine (s_get a n c _ k ((look I k).getD []) q B h.is h.tokI hk hn rfl hq rfl).mono ?_
  rintro e w1 ⟨a', c', rfl, v, g, bb⟩
  exact ⟨a', _, c', rfl, v, g, bb⟩
/-- The state of done. -/
structure Dn (w0 wr : World) (o b1 b2 : Nat) (I0 W : Tab) (L : List Sx) (k : Nat) (w : World) : Prop where
  ov : Ov wr o b1 b2 (Up w0) (doAll I0 (L.take k)) W
  bel : Below w0.heap.size w0 wr
  gr : w.grownBy wr (some b1)
theorem Dn.below {w0 wr wx w : World} {o b1 b2 : Nat} {I0 W : Tab} {L : List Sx} {k : Nat} (h : Dn w0 wr o b1 b2 I0 W L k w) (hb : Below wr.heap.size wr wx) : Dn w0 wx o b1 b2 I0 W L k w :=
  ⟨h.ov.below hb, bel_bel h.bel h.bel.size hb, h.gr.andThen ((grown_of_below hb).but (some b1)) (fun j e => .inr e)⟩
set_option maxHeartbeats 4000000 in
theorem done_ {w0 : World} (U : Nat → Prop) (o b1 b2 : Nat) (I W : Tab) (a : Option Addr) (n c : Nat) (L : List Sx) (w : World) (B : Below w0.heap.size w0 w) (hb : w0.heap.size ≤ b1) (h : Ov w o b1 b2 (Up w0) I W) (hl : Sl w U a n L) (hn : n ≤ 100000) (hIL : I.length ≤ 100000) (hm : allMay L = true) :
    Calls Try.prog 35 #[.pointer (some ⟨o, 0, none⟩), .slice a n c] w fun e w' => e = .returned (.bool true) ∧ Dn w0 w' o b1 b2 I W L n w := by
  have kn := fun x wx => num_ x wx
  have HO := hid h
  have HL := hid hl
  have HLN : Hid (L.length = n) := hl.len
  have HM := hid hm
  have HS' := hid h.tokI.srt
  have hb' := hb
  have HMP := hid h.is.isMap
  have HBB := hid B
  clear h hl hm B
  go_enter Try.func35, Try.ntmps35
  go_wp2_with fail
  go_loopw [5] (fun i wr => ∃ k : Nat, k ≤ n ∧ i = .int .i64 k ∧ Hid (Dn w0 wr o b1 b2 I W L k w)) (fun i _ => n - (intOf i).toNat)
  case atStart => exact ⟨0, Nat.zero_le _, rfl, ⟨HO.out, HBB.out, ⟨rfl, rfl, rfl, Nat.le_refl _, fun _ _ _ => rfl⟩⟩⟩
  case round =>
    obtain ⟨k, hk, rfl, HD⟩ := hrel
    by_cases hlt : k < n
    · have hI : (k : Int) < n := by omega
      have hkn0 : ¬ (k : Int) < 0 := by omega
      have hkL : k < L.length := by rw [HLN.out]; exact hlt
      obtain ⟨bl, off, ka, kc, va, vc, kn', vn, rfl, hkn, hvn, c0, c1, c2, v1, v2⟩ := (HL.out.other HD.out.gr HMP.out).at hlt
      have hmay := may_at1 HM.out hkL
      have hmk := (mayS_key hmay).2
      rw [← hkn] at hmk
      have hD1 := fun hg => doAll_ins (M := I) hkL hg
      have hD2 := fun hg => doAll_del (M := I) hkL hg
      obtain ⟨s, HS⟩ : ∃ s, Hid (L.getD k default = s) := ⟨_, rfl⟩
      rw [HS.out] at c2 v1 v2 hmay hD1 hD2
      obtain ⟨K, X, g⟩ := s
      simp only at c2 v1 v2 hD1 hD2
      have HIL : Hid ((doAll I (L.take k)).length ≤ 200000) := by have h := len_doAll I HS'.out (L.take k); rw [List.length_take] at h; show _ ≤ _; omega
      obtain ⟨J, HJ⟩ : ∃ J, Hid (doAll I (L.take k) = J) := ⟨_, rfl⟩
      have HOV := hid HD.out.ov
      rw [HJ.out] at HOV HIL hD1 hD2
      have HV1 := hid v1
      have HV2 := hid v2
      have ct := HOV.out.c0
      have HG := hid HD.out.bel
      cases g with
      | true =>
        have HDD := hid (hD2 rfl)
        obtain ⟨q, HQ⟩ : ∃ q, Hid ((look J K).isSome = q) := ⟨_, rfl⟩
        have kg := fun wx (hb : Below wr.heap.size wr wx) => s_oget (w0 := w0) ka kn' kc K q (bel_bel HG.out HG.out.size hb) (HOV.out.below hb) (HV1.out.lift hb (fun _ _ h => h)).bs (by omega) HQ.out
        have HDR := hid (below_drew wr)
        clear hkn hvn v1 v2 c1 hlt hD1 hD2 hmay
        go_wp2_with fail
        go_region_held (fun wx => wx.cell? ⟨o, 0, none⟩ = some (.map (some b1)) ∧ wx.cell? ⟨bl, off + k * 3, none⟩ = some (.slice ka kn' kc)) (go_keep) (first | (go_at_call 29; refine (kg _ (by exact HDR.out)).mono ?_; rintro e w11 ⟨ag, gn, cg, rfl, vg, g, bb⟩; have HBB1 : Hid (Below wr.heap.size wr w11) := HDR.out.trans bb; have y0 := (HBB1.out.cell (World.block_lt_of_cell? _ _ c0)).trans c0; have y1 := (HBB1.out.cell (World.block_lt_of_cell? _ _ ct)).trans ct; clear vg g bb))
        have HD1 := hid (HD.out.below HBB1.out)
        have HOV1 := hid (HOV.out.below HBB1.out)
        have HV1 := hid (HV1.out.lift HBB1.out (fun _ _ h => h))
        clear kg y1 c0 ct c2 HDR
        go_wp2_with fail
        refine (s_del (I' := doAll I (L.take (k + 1))) ka kn' kc K q HD1.out.bel hb HOV1.out HV1.out.bs (by omega) HQ.out HDD.out).mono ?_
        rintro e w12 ⟨rfl, o12, g12, gr12⟩
        have HMP1 := hid HOV1.out.is.isMap
        have c0 := cell_other gr12 HMP1.out y0
        have HV1 := hid (HV1.out.other gr12 HMP1.out)
        have HD2 : Hid (Dn w0 w12 o b1 b2 I W L (k + 1) w) := ⟨o12, g12, HD1.out.gr.andThen gr12 (fun j e => .inr e)⟩
        have ct := o12.c0
        have HLG : Hid ((look (doAll I (L.take (k + 1))) K).isSome = false) := by rw [← HDD.out]; exact look_gone K J
        have kg := fun wx (hb : Below w12.heap.size w12 wx) => s_oget (w0 := w0) ka kn' kc K false (bel_bel HD2.out.bel HD2.out.bel.size hb) (HD2.out.ov.below hb) (HV1.out.lift hb (fun _ _ h => h)).bs (by omega) HLG.out
        have HDR := hid (below_drew w12)
        clear o12 g12 gr12 y0 HMP1
        go_wp2_with fail
        go_region_held (fun wx => wx.cell? ⟨o, 0, none⟩ = some (.map (some b1)) ∧ wx.cell? ⟨bl, off + k * 3, none⟩ = some (.slice ka kn' kc)) (go_keep) (first | (go_at_call 29; refine (kg _ (by exact HDR.out)).mono ?_; rintro e w13 ⟨ag, gn, cg, rfl, vg, g, bb⟩; have HBB2 : Hid (Below w12.heap.size w12 w13) := HDR.out.trans bb; have y0 := (HBB2.out.cell (World.block_lt_of_cell? _ _ c0)).trans c0; have y1 := (HBB2.out.cell (World.block_lt_of_cell? _ _ ct)).trans ct; clear vg g bb))
        have HD3 := hid (HD2.out.below HBB2.out)
        clear kg y0 y1 c0 ct HDR
        go_wp2_with fail
        go_roundw
        case rel => exact ⟨k + 1, by omega, by go_num, HD3⟩
        case measure => simp [intOf]; omega
      | false =>
        have HDD := hid (hD1 rfl)
        have ks := fun wx (hb : Below wr.heap.size wr wx) => s_oset (w0 := w0) (I' := doAll I (L.take (k + 1))) (V := U) ka va kn' kc vn vc K X (bel_bel HG.out HG.out.size hb) (by exact hb') (HOV.out.below hb) (HV1.out.lift hb (fun _ _ h => h)) (HV2.out.lift hb (fun _ _ h => h)) (by have := HIL.out; omega) hmay HDD.out
        have HDR := hid (below_drew wr)
        clear hkn hvn v1 v2 hlt hD1 hD2
        go_wp2_with fail
        go_region_held (fun wx => wx.cell? ⟨bl, off + k * 3, none⟩ = some (.slice ka kn' kc) ∧ wx.cell? ⟨bl, off + k * 3 + 1, none⟩ = some (.slice va vn vc)) (go_keep) (first | (go_at_call 41; refine (ks _ (by exact HDR.out)).mono ?_; rintro e w12 ⟨rfl, o12, g12, gr12⟩; have HMP1 := hid (HOV.out.below HDR.out).is.isMap; have y0 := cell_other gr12 HMP1.out ((HDR.out.cell (World.block_lt_of_cell? _ _ c0)).trans c0); have y1 := cell_other gr12 HMP1.out ((HDR.out.cell (World.block_lt_of_cell? _ _ c1)).trans c1); have HD2 : Hid (Dn w0 w12 o b1 b2 I W L (k + 1) w) := ⟨o12, g12, (HD.out.gr.andThen ((grown_of_below HDR.out).but (some b1)) (fun j e => .inr e)).andThen gr12 (fun j e => .inr e)⟩; clear o12 g12 gr12 HMP1))
        clear ks y0 y1 c0 c1 c2 ct HDR
        go_wp2_with fail
        refine (kn _ _).mono ?_
        rintro e wy ⟨rfl, hw⟩
        rw [hw]
        clear hw wy
        go_wp2_with fail
        go_roundw
        case rel => exact ⟨k + 1, by omega, by go_num, HD2⟩
        case measure => simp [intOf]; omega
    · have hI : ¬ (k : Int) < n := by omega
      obtain rfl : k = n := by omega
      clear hlt hk
      go_wp2_with fail
      go_ret
      exact ⟨rfl, HD.out⟩
end Go.Proofs.Ytghehfhkiknjhaa
