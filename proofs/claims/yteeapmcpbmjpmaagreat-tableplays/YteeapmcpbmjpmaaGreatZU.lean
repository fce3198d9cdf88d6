import Derived.Test.YteeapmcpbmjpmaaGreatXE
import Derived.Test.YteeapmcpbmjpmaaGreatXF
import Derived.Deep.CutRange
namespace Go.Proofs.YteeapmcpbmjpmaaGreat
set_option maxRecDepth 100000
open Go.RowKit Go.Shelf Go.Maps
set_option linter.unusedVariables false

/-! The steps that only read: a list of bytes with marks behind it. -/
set_option maxHeartbeats 1000000 in
theorem keyed_ (a : Option Addr) (n c : Nat) (k : List Int) (w : World) (hk : Bs w a n k) (hn : n ≤ 100000) :
    Calls Tryz.prog 24 #[.slice a n c] w fun e w' => ∃ g d, e = .returned (.slice (some ⟨g, 0, none⟩) (n + 2) d) ∧ Yr w' g (n + 2) (k ++ [161, 162]) ∧ n + 2 ≤ d ∧ d ≤ maxLen ∧ w.heap.size ≤ g ∧ g < w'.heap.size ∧ Below w.heap.size w w' := by
  have k1 := refBytes a n c k w hk (by omega)
  have HKL : Hid (k.length = n) := hk.1
  have HKO := hid hk.2.1
  clear hk
  go_enter Tryz.func24, Tryz.ntmps24
  go_wp2_with fail
  refine k1.mono ?_
  rintro e w1 ⟨v1, rfl, o1, g1⟩
  have HO := hid (o1.alloc (.cells #[.int .u8 161, .int .u8 162] 5))
  have HO1 := hid o1
  have HB := hid (g1.alloc g1.size (.cells #[.int .u8 161, .int .u8 162] 5))
  have HL : Hid (Bs (w1.alloc (.cells #[.int .u8 161, .int .u8 162] 5)) (some ⟨w1.heap.size, 0, none⟩) 2 [161, 162]) := bs_lit w1 [161, 162] (0, 0) (fun z hz => by simp at hz; omega)
  have HSZ : Hid (w.heap.size ≤ (w1.alloc (.cells #[.int .u8 161, .int .u8 162] 5)).heap.size) := HB.out.size
  clear k1 o1 g1
  go_wp2_with (at_builtin; refine wpList_appT rfl _ _ rfl w.heap.size _ n k rfl (by exact HO.out) (some ⟨w1.heap.size, 0, none⟩) 2 2 [161, 162] rfl (by exact HL.out) (by omega) (by exact HSZ.out) ?_; intro v5 w5 o5 g5; have HO5 := hid o5; have HG5 := hid g5; clear o5 g5; refine Hid.out ?_)
  refine hid ?_
  have HB5 : Hid (Below w.heap.size w w5) := HB.out.grown HG5.out HSZ.out (fun p hp => (HO1.out.lt p hp).1)
  have hokb : Okb (k ++ [161, 162]) := fun z hz => by
    rcases List.mem_append.1 hz with h | h
    · exact HKO.out z h
    · simp at h; omega
  obtain ⟨g, cap, hv, h1, h2, h3, _, _⟩ := own_head HO5.out (by omega)
  subst hv
  have HF : Hid (Yr w5 g (n + 2) (k ++ [161, 162]) ∧ g < w5.heap.size) := by
    obtain ⟨a', c', e, hb, _⟩ := own_form HO5.out hokb
    simp at e
    obtain ⟨rfl, rfl⟩ := e
    obtain ⟨_, h | ⟨g', cap', cur, e', _, hg, _⟩⟩ := HO5.out
    · simp at h
    · simp at e'
      obtain ⟨rfl, rfl⟩ := e'
      exact ⟨⟨⟨cur, hg⟩, hb⟩, (Array.getElem?_eq_some_iff.1 hg).1⟩
  have H1 := hid (⟨h1, h2, h3⟩ : n + 2 ≤ cap ∧ cap ≤ maxLen ∧ w.heap.size ≤ g)
  clear h1 h2 h3 hokb
  go_wp2_with fail
  go_ret
  exact ⟨g, cap, rfl, HF.out.1, H1.out.1, H1.out.2.1, H1.out.2.2, HF.out.2, HB5.out⟩
/-- An op's box, and a pair's own cells, from which all later worlds have but grown. -/
structure Bx (w wb : World) (p t r ob : Nat) (x1 x3 : Value) (kd : Int) (sec : Bool) (K V S : Value) : Prop where
  bel : Below w.heap.size w wb
  pr : wb.heap[p]? = some (.cells #[.pointer (some ⟨t, 0, none⟩), x1, .pointer (some ⟨r, 0, none⟩), x3] 34 (0, 0))
  bo : wb.heap[ob]? = some (.cells #[.int .i64 kd, .bool sec, K, V, S] 38 (0, 0))
theorem Bx.mk' {w : World} {p t r : Nat} {x1 x3 : Value} {kd : Int} {sec : Bool} {K V S : Value} (hp : w.heap[p]? = some (.cells #[.pointer (some ⟨t, 0, none⟩), x1, .pointer (some ⟨r, 0, none⟩), x3] 34 (0, 0))) : Bx w (w.alloc (.cells #[.int .i64 kd, .bool sec, K, V, S] 38)) p t r w.heap.size x1 x3 kd sec K V S :=
  ⟨(Below.refl _ _).alloc (Nat.le_refl _) _, (Below.heap_alloc w _ p (Array.getElem?_eq_some_iff.1 hp).1).trans hp, heap_alloc_new w _⟩
section
variable {w wb W : World} {p t r ob : Nat} {x1 x3 : Value} {kd : Int} {sec : Bool} {K V S : Value}
theorem Bx.p0 (h : Bx w wb p t r ob x1 x3 kd sec K V S) (hb : Below wb.heap.size wb W) : W.cell? ⟨p, 0, none⟩ = some (.pointer (some ⟨t, 0, none⟩)) := (hb.cell (p := ⟨p, 0, none⟩) (Array.getElem?_eq_some_iff.1 h.pr).1).trans ((cell_of_row _ _ 0 _ _ (0, 0) h.pr).trans rfl)
theorem Bx.p1 (h : Bx w wb p t r ob x1 x3 kd sec K V S) (hb : Below wb.heap.size wb W) : W.cell? ⟨p, 1, none⟩ = some x1 := (hb.cell (p := ⟨p, 1, none⟩) (Array.getElem?_eq_some_iff.1 h.pr).1).trans ((cell_of_row _ _ 1 _ _ (0, 0) h.pr).trans rfl)
theorem Bx.p2 (h : Bx w wb p t r ob x1 x3 kd sec K V S) (hb : Below wb.heap.size wb W) : W.cell? ⟨p, 2, none⟩ = some (.pointer (some ⟨r, 0, none⟩)) := (hb.cell (p := ⟨p, 2, none⟩) (Array.getElem?_eq_some_iff.1 h.pr).1).trans ((cell_of_row _ _ 2 _ _ (0, 0) h.pr).trans rfl)
theorem Bx.p3 (h : Bx w wb p t r ob x1 x3 kd sec K V S) (hb : Below wb.heap.size wb W) : W.cell? ⟨p, 3, none⟩ = some x3 := (hb.cell (p := ⟨p, 3, none⟩) (Array.getElem?_eq_some_iff.1 h.pr).1).trans ((cell_of_row _ _ 3 _ _ (0, 0) h.pr).trans rfl)
theorem Bx.o0 (h : Bx w wb p t r ob x1 x3 kd sec K V S) (hb : Below wb.heap.size wb W) : W.cell? ⟨ob, 0, none⟩ = some (.int .i64 kd) := (hb.cell (p := ⟨ob, 0, none⟩) (Array.getElem?_eq_some_iff.1 h.bo).1).trans ((cell_of_row _ _ 0 _ _ (0, 0) h.bo).trans rfl)
theorem Bx.o2 (h : Bx w wb p t r ob x1 x3 kd sec K V S) (hb : Below wb.heap.size wb W) : W.cell? ⟨ob, 2, none⟩ = some K := (hb.cell (p := ⟨ob, 2, none⟩) (Array.getElem?_eq_some_iff.1 h.bo).1).trans ((cell_of_row _ _ 2 _ _ (0, 0) h.bo).trans rfl)
theorem Bx.o3 (h : Bx w wb p t r ob x1 x3 kd sec K V S) (hb : Below wb.heap.size wb W) : W.cell? ⟨ob, 3, none⟩ = some V := (hb.cell (p := ⟨ob, 3, none⟩) (Array.getElem?_eq_some_iff.1 h.bo).1).trans ((cell_of_row _ _ 3 _ _ (0, 0) h.bo).trans rfl)
theorem Bx.o4 (h : Bx w wb p t r ob x1 x3 kd sec K V S) (hb : Below wb.heap.size wb W) : W.cell? ⟨ob, 4, none⟩ = some S := (hb.cell (p := ⟨ob, 4, none⟩) (Array.getElem?_eq_some_iff.1 h.bo).1).trans ((cell_of_row _ _ 4 _ _ (0, 0) h.bo).trans rfl)
end
theorem Tw.cellT {w : World} {t b : Nat} {V : Nat → Prop} {M : Tab} (h : Tw w t b V M) : w.cell? ⟨t, 0, none⟩ = some (.map (some b)) := h.tbl.cell
end Go.Proofs.YteeapmcpbmjpmaaGreat
namespace Go.Proofs.YteeapmcpbmjpmaaGreat
set_option maxRecDepth 100000
open Go.RowKit Go.Shelf Go.Maps
set_option linter.unusedVariables false

/-! onTable: the kinds that only read. -/
theorem Dq.on {w w' : World} {Z : Nat → Prop} {r : Nat} {M : Tab} (h : Dq w Z r M) (hb : Below w.heap.size w w') : Dq w' Z r M := h.keep (hb.block r h.lt) (fun x hx _ => hb.block x hx) (fun _ _ hz => hz)
theorem tok_len {M : Tab} (h : Tok M) : ∀ p ∈ M, p.1.length ≤ 100000000 ∧ p.2.length ≤ 100000000 := fun p hp => by
  have h1 := (h.key p hp).2.2
  have h2 := (h.val p hp).2
  omega
theorem look_lenZ {M : Tab} (h : Tok M) (k : List Int) : ((look M k).getD []).length ≤ 480 := by
  cases e : look M k with
  | none => simp
  | some v => exact (h.val _ (look_mem e)).2
theorem look_okbZ {M : Tab} (h : Tok M) (k : List Int) : Okb ((look M k).getD []) := by
  cases e : look M k with
  | none => exact fun z hz => by simp at hz
  | some v => exact (h.val _ (look_mem e)).1
theorem bs_front {w : World} {a : Option Addr} {n m : Nat} {k x : List Int} (h : Bs w a (n + m) (k ++ x)) (hk : k.length = n) : Bs w a n k := by
  refine ⟨hk, fun z hz => h.2.1 z (List.mem_append.2 (.inl hz)), ?_⟩
  rcases h.2.2 with h0 | ⟨b, off, e, hc⟩
  · exact .inl (by omega)
  · refine .inr ⟨b, off, e, fun i hi => ?_⟩
    rw [hc i (by omega)]
    simp [List.getD, List.getElem?_append_left (show i < k.length by omega)]
/-- The document's Get, its answer as a list that may be none. -/
theorem rgetQ_ (Z : Nat → Prop) (r : Nat) (M : Tab) (ka : Option Addr) (kn kc : Nat) (k : List Int) (w : World) (h : Dq w Z r M) (hT : Tok M) (hM : M.length ≤ 10000000) (hk : Bs w ka kn k) (hkn : kn ≤ 100000) :
    Calls Tryz.prog 26 #[.pointer (some ⟨r, 0, none⟩), .slice ka kn kc] w fun e w' => ∃ a n c, e = .returned (.tuple #[.slice a n c, .bool (look M k).isSome]) ∧ Bs w' a n ((look M k).getD []) ∧ n ≤ 480 ∧ Below w.heap.size w w' := by
  obtain ⟨a, c, hd, h1, h2⟩ := h
  have hl := look_lenZ hT k
  refine (rget_ Z r a M.length c M ka kn kc k w hd hT.srt (tok_len hT) (by omega) hk (by omega)).mono ?_
  rintro e w' (⟨v, a', c', e1, rfl, hv, hb⟩ | ⟨e1, rfl, hb⟩)
  · rw [e1] at hl ⊢
    exact ⟨a', _, c', rfl, hv.bs, hl, hb⟩
  · rw [e1]
    exact ⟨none, 0, 0, rfl, ⟨rfl, fun z hz => by simp at hz, .inl rfl⟩, by omega, hb⟩
set_option maxHeartbeats 8000000 in
theorem on1_ (Z : Nat → Prop) (p t b r : Nat) (x1 x3 : Value) (M : Tab) (sec : Bool) (ka va sa : Option Addr) (kn kc vn vc sn sc : Nat) (k : List Int) (w : World) (hp : w.heap[p]? = some (.cells #[.pointer (some ⟨t, 0, none⟩), x1, .pointer (some ⟨r, 0, none⟩), x3] 34 (0, 0))) (h : Pt w Z t b r M M) (hM : M.length ≤ 10000000) (hk : Bs w ka kn k) (hkn : kn ≤ 2000) (hkc : kn ≤ kc ∧ kc ≤ maxLen) :
    Calls Tryz.prog 7 #[.pointer (some ⟨p, 0, none⟩), .agg #[.int .i64 1, .bool sec, .slice ka kn kc, .slice va vn vc, .slice sa sn sc]] w fun e w' => e = .returned (.bool true) ∧ Below w.heap.size w w' := by
  have HX0 : Hid (Bx w (w.alloc (.cells #[.int .i64 1, .bool sec, .slice ka kn kc, .slice va vn vc, .slice sa sn sc] 38)) p t r w.heap.size x1 x3 1 sec (.slice ka kn kc) (.slice va vn vc) (.slice sa sn sc)) := Bx.mk' hp
  have HT0 := hid (h.tw.below HX0.out.bel)
  have HD0 := hid (h.dd.on HX0.out.bel)
  have HK0 := hid (hk.below HX0.out.bel)
  have HTK := hid h.tw.tok
  have HKL : Hid (k.length = kn) := hk.1
  have o0 := HX0.out.o0 (Below.refl _ _)
  have o2 := HX0.out.o2 (Below.refl _ _)
  clear hp h hk
  go_enter Tryz.func7, Tryz.ntmps7
  go_wp2_with fail
  obtain ⟨wb, HWB⟩ : ∃ y, Hid (w.alloc (.cells #[.int .i64 1, .bool sec, .slice ka kn kc, .slice va vn vc, .slice sa sn sc] 38) = y) := ⟨_, rfl⟩
  obtain ⟨ob, HOB⟩ : ∃ y, Hid (w.heap.size = y) := ⟨_, rfl⟩
  rw [HWB.out] at HX0 HT0 HD0 HK0 o0 o2 ⊢
  rw [HOB.out] at HX0 o0 o2 ⊢
  refine (keyed_ ka kn kc k wb HK0.out (by omega)).mono ?_
  rintro e w1 ⟨g, d, rfl, hy, hd1, hd2, hg1, hg2, hB1⟩
  clear o0 o2
  have HB1 := hid hB1
  have HY := hid hy
  have HG := hid (⟨hg1, hg2⟩ : wb.heap.size ≤ g ∧ g < w1.heap.size)
  have HDD := hid (⟨hd1, hd2⟩ : kn + 2 ≤ d ∧ d ≤ maxLen)
  have hnd : (kn : Int) ≤ d := by omega
  have hkd : (kn : Int) ≤ (kn : Int) + 2 := by omega
  have hkd2 : (kn : Int) + 2 ≤ d := by omega
  clear hB1 hy hg1 hg2 hd1 hd2
  obtain ⟨q, HQ⟩ : ∃ q, Hid ((look M k).isSome = q) := ⟨_, rfl⟩
  obtain ⟨v, HV⟩ : ∃ v, Hid ((look M k).getD [] = v) := ⟨_, rfl⟩
  have HVL : Hid (v.length ≤ 480) := by rw [← HV.out]; exact look_lenZ HTK.out k
  have HVO : Hid (Okb v) := by rw [← HV.out]; exact look_okbZ HTK.out k
  go_upto_region 4 with fail
  go_cut [6, 7] from 189 to 189 (fun u6 u7 wx => ∃ (a : Option Addr) (c : Nat), u6 = .slice a v.length c ∧ u7 = .bool q ∧ Hid (Below w1.heap.size w1 wx ∧ Vs wx (fun x => w1.heap.size ≤ x) a v.length c v))
  case first =>
    have p0 := HX0.out.p0 HB1.out
    have t0 := (HT0.out.below HB1.out).cellT
    have o2 := HX0.out.o2 HB1.out
    have hpl := World.block_lt_of_cell? w1 _ p0
    have htl := World.block_lt_of_cell? w1 _ t0
    have hol := World.block_lt_of_cell? w1 _ o2
    have kg := fun wx (hb : Below w1.heap.size w1 wx) => get_ b Z M (some ⟨g, 0, none⟩) kn (kn + 2) k wx ((HT0.out.below HB1.out).mp.below hb) HTK.out ((bs_front HY.out.bs HKL.out).below hb) (by unfold maxLen; omega)
    rw [HQ.out, HV.out] at kg
    go_region_held (fun wx => wx.cell? ⟨p, 0, none⟩ = some (.pointer (some ⟨t, 0, none⟩)) ∧ wx.cell? ⟨t, 0, none⟩ = some (.map (some b)) ∧ wx.cell? ⟨ob, 2, none⟩ = some (.slice ka kn kc)) (go_keep) (first | (go_at_call 12; refine (kg _ (by first | exact Below.refl _ _ | exact below_drew w1)).mono ?_; rintro e w2 ⟨u, rfl, o2', gq⟩; obtain ⟨a, c, hu, vs⟩ := Vs.ofOwn o2' HVO.out; subst hu; have hb2 : Below w1.heap.size w1 w2 := ⟨gq.os, gq.tape, gq.output, gq.size, gq.block⟩; have y0 := (hb2.cell (p := ⟨p, 0, none⟩) hpl).trans p0; have y1 := (hb2.cell (p := ⟨t, 0, none⟩) htl).trans t0; have y2 := (hb2.cell (p := ⟨ob, 2, none⟩) hol).trans o2; have HB2 := hid hb2; have HVS := hid vs; clear gq hb2 o2' vs))
    clear p0 t0 o2 hpl htl hol kg y0 y1 y2
    go_wp2_with fail
    go_meet
    exact ⟨a, c, rfl, rfl, HB2.out, HVS.out⟩
  obtain ⟨a, c, rfl, rfl, HR⟩ := hcut
  have HB2 : Hid (Below wb.heap.size wb wc) := bel_bel HB1.out HB1.out.size HR.out.1
  have o2 := HX0.out.o2 HB2.out
  go_wp2_with fail
  refine (marked_ g kn d kn kc ka k 161 162 _ ⟨by obtain ⟨cur, hc⟩ := HY.out.blk; exact ⟨cur, (HR.out.1.block g HG.out.2).trans hc⟩, HY.out.bs.below HR.out.1⟩ HDD.out.1 HDD.out.2 (HK0.out.below HB2.out) (by omega)).mono ?_
  rintro e w3 ⟨rfl, w4, ys, hb4, hg4, _⟩
  have HB3 : Hid (Below wb.heap.size wb w3) := (bel_bel HB2.out HB2.out.size hb4).grown hg4 (Nat.le_trans HB2.out.size hb4.size) (fun q hq => by obtain rfl := Option.some.inj hq; exact HG.out.1)
  have HVS3 : Hid (Bs w3 a v.length v) := by
    have h1 := HR.out.2.step (w' := w4) (fun x hx _ _ => hb4.block x hx)
    have h2 := h1.step (w' := w3) (fun x hx hz _ => hg4.block x hx (fun e => by have := Option.some.inj e; have := HG.out.2; omega))
    exact h2.bs
  clear hb4 hg4 o2 HR
  go_upto_region 6 with fail
  go_cut [9, 10] from 189 to 189 (fun u9 u10 wx => ∃ (a' : Option Addr) (n' c' : Nat), u9 = .slice a' n' c' ∧ u10 = .bool q ∧ Hid (Below w3.heap.size w3 wx ∧ Bs wx a' n' v ∧ n' ≤ 480))
  case first =>
    have p2 := HX0.out.p2 HB3.out
    have o2 := HX0.out.o2 HB3.out
    have hpl := World.block_lt_of_cell? w3 _ p2
    have hol := World.block_lt_of_cell? w3 _ o2
    have kg := fun wx (hb : Below w3.heap.size w3 wx) => rgetQ_ Z r M ka kn kc k wx ((HD0.out.on HB3.out).on hb) HTK.out hM ((HK0.out.below HB3.out).below hb) (by omega)
    rw [HQ.out, HV.out] at kg
    go_region_held (fun wx => wx.cell? ⟨p, 2, none⟩ = some (.pointer (some ⟨r, 0, none⟩)) ∧ wx.cell? ⟨ob, 2, none⟩ = some (.slice ka kn kc)) (go_keep) (first | (go_at_call 26; refine (kg _ (by first | exact Below.refl _ _ | exact below_drew w3)).mono ?_; rintro e w5 ⟨a', n', c', rfl, hbs, hn', gq⟩; have hb5 : Below w3.heap.size w3 w5 := ⟨gq.os, gq.tape, gq.output, gq.size, gq.block⟩; have y0 := (hb5.cell (p := ⟨p, 2, none⟩) hpl).trans p2; have y2 := (hb5.cell (p := ⟨ob, 2, none⟩) hol).trans o2; have HB5 := hid hb5; have HBS := hid hbs; clear gq hb5 hbs))
    clear p2 o2 hpl hol kg y0 y2
    go_wp2_with fail
    go_meet
    exact ⟨a', n', c', rfl, rfl, HB5.out, HBS.out, hn'⟩
  obtain ⟨a', n', c', rfl, rfl, HR⟩ := hcut
  go_wp2_with fail
  refine (same_d a a' v.length c n' c' v v _ (HVS3.out.below HR.out.1) HR.out.2.1 (by have := HVL.out; unfold maxLen; omega) (by have := HR.out.2.2; unfold maxLen; omega)).mono ?_
  rintro e w6 ⟨rfl, dr⟩
  rw [sameB_self]
  have HB6 : Hid (Below w.heap.size w w6) := by
    have h1 := bel_bel HB3.out HB3.out.size HR.out.1
    have h2 := bel_bel h1 h1.size dr.below
    exact bel_bel HX0.out.bel HX0.out.bel.size h2
  clear dr
  cases q
  · go_wp2_with fail
    go_ret
    exact ⟨rfl, HB6.out⟩
  · go_wp2_with fail
    go_ret
    exact ⟨rfl, HB6.out⟩
end Go.Proofs.YteeapmcpbmjpmaaGreat
