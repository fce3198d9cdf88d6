import Derived.Test.YteeapmcpbmjpmaaGreatUA
namespace Go.Proofs.YteeapmcpbmjpmaaGreat
set_option maxRecDepth 100000
open Go.RowKit Go.Shelf Go.Maps
set_option linter.unusedVariables false

theorem run_equalIn_map13 (w : World) (d b : Nat) : (Op.equalIn (d + 1) 50 (.map (some b)) (.map none)).run Tryz.prog w = .ok false w := by
  simp [Op.equalIn, run_underlying Tryz.underlying50]
theorem run_eql_map_nil13 (w : World) (b : Nat) : (binOp .eql 50 (.map (some b)) (.map none)).run Tryz.prog w = .ok (.bool false) w := by
  simp only [binOp]
  simp [show Op.equal 50 (.map (some b)) (.map none) = Op.equalIn (9999 + 1) 50 (.map (some b)) (.map none) from rfl, run_equalIn_map13 w 9999 b]
theorem run_maps_clone13 {w : World} {r : Nat} {es : Array MapEntry} {clock : Nat} (t : TypeId) (hb : w.heap[r]? = some (.map es clock)) :
    (Extern.MapsClone.clone #[.iface t (.map (some r))]).run Tryz.prog w = .ok (.iface t (.map (some w.heap.size))) (w.alloc (.map es clock)) := by
  have e : Extern.MapsClone.clone #[.iface t (.map (some r))] = (getObj r >>= fun o => match o with
      | .map entries clock => (newObj (.map entries clock) >>= fun n => pure (.iface t (.map (some n))))
      | _ => stuck "maps.clone: a map expected") := rfl
  rw [e]
  simp [MapKept.run_getObj_map hb, Result.andThen, go_sem]
theorem run_typeAssert13 (w : World) (xT : TypeId) (v : Value) : (Instr.typeAssert (.iface 50 v) xT 50 false).run Tryz.prog w = .ok v w := by
  simp [Instr.typeAssert, run_underlying Tryz.underlying50, go_sem, Result.andThen]
set_option maxHeartbeats 2000000 in
theorem mclone_ (b : Nat) (V : Nat → Prop) (M : Tab) (w : World) (h : Mp w b V M) :
    Calls Tryz.prog 46 #[.map (some b)] w fun e w' => e = .returned (.map (some w.heap.size)) ∧ Mp w' w.heap.size V M ∧ Below w.heap.size w w' ∧ w'.heap.size = w.heap.size + 1 := by
  obtain ⟨D, ⟨es, clock, hb, F, hs, hD⟩, hDm⟩ := h
  have hq := fun w => run_eql_map_nil13 w b
  have hrc := run_maps_clone13 (w := w) 50 hb
  have HB : Hid (Below w.heap.size w (w.alloc (.map es clock))) := (Below.refl _ w).alloc (Nat.le_refl _) _
  have HM : Hid (Mp (w.alloc (.map es clock)) w.heap.size V M) := ⟨D, ⟨es, clock, (MapKept.heap_alloc w _).1, F, hs, hD⟩, hDm.step fun x hx _ _ => HB.out.block x hx⟩
  clear hb F hs hD hDm
  go_enter Tryz.func46, Tryz.ntmps46
  go_wp2
  rw [run_callFunc_extern Tryz.func62 (by kernel_rfl) (by kernel_rfl) (by kernel_rfl) (e := Extern.MapsClone.clone) (by kernel_rfl), hrc]
  simp only [Result.andThen]
  rw [Oper.upon_value]
  go_wp2
  rw [run_typeAssert13]
  simp only [Result.andThen]
  rw [Oper.upon_value]
  go_wp2
  go_ret
  exact ⟨rfl, HM.out, HB.out, by simp⟩
/-- Changes over a table. -/
structure Ov (w : World) (o b1 b2 : Nat) (V : Nat → Prop) (I W : Tab) : Prop where
  obj : w.heap[o]? = some (.cells #[.map (some b1), .map (some b2)] 75 (0, 0))
  is : Mp w b1 V I
  was : Mp w b2 V W
  tokI : Tok I
  tokW : Tok W
  ne : b1 ≠ b2
theorem Ov.c0 {w : World} {o b1 b2 : Nat} {V : Nat → Prop} {I W : Tab} (h : Ov w o b1 b2 V I W) : w.cell? ⟨o, 0, none⟩ = some (.map (some b1)) := by rw [cell_of_row w o 0 _ 75 (0, 0) h.obj]; rfl
theorem Ov.c1 {w : World} {o b1 b2 : Nat} {V : Nat → Prop} {I W : Tab} (h : Ov w o b1 b2 V I W) : w.cell? ⟨o, 1, none⟩ = some (.map (some b2)) := by rw [cell_of_row w o 1 _ 75 (0, 0) h.obj]; rfl
theorem Ov.lt {w : World} {o b1 b2 : Nat} {V : Nat → Prop} {I W : Tab} (h : Ov w o b1 b2 V I W) : o < w.heap.size := (Array.getElem?_eq_some_iff.1 h.obj).1
theorem Ov.below {w w' : World} {o b1 b2 : Nat} {V : Nat → Prop} {I W : Tab} (h : Ov w o b1 b2 V I W) (hb : Below w.heap.size w w') : Ov w' o b1 b2 V I W := ⟨(hb.block o h.lt).trans h.obj, h.is.below hb, h.was.below hb, h.tokI, h.tokW, h.ne⟩
theorem Ov.wide {w : World} {o b1 b2 : Nat} {V V' : Nat → Prop} {I W : Tab} (h : Ov w o b1 b2 V I W) (hV : ∀ x, x < w.heap.size → V x → V' x) : Ov w o b1 b2 V' I W := ⟨h.obj, h.is.wide hV, h.was.wide hV, h.tokI, h.tokW, h.ne⟩
theorem Ov.not_map {w : World} {o b1 b2 : Nat} {V : Nat → Prop} {I W : Tab} (h : Ov w o b1 b2 V I W) (es : Array MapEntry) (cl : Nat) : w.heap[o]? ≠ some (.map es cl) := by
  intro e
  rw [h.obj] at e
  cases e
/-- It stands while another map is written. -/
theorem Ov.other {w w' : World} {o b1 b2 b' : Nat} {V : Nat → Prop} {I W : Tab} (h : Ov w o b1 b2 V I W) (hg : w.grownBy w' (some b')) (hm : ∃ es cl, w.heap[b']? = some (.map es cl)) (h1 : b1 ≠ b') (h2 : b2 ≠ b') : Ov w' o b1 b2 V I W :=
  ⟨(hg.block o h.lt (by
    obtain ⟨es, cl, e⟩ := hm
    intro f
    obtain rfl := Option.some.inj f
    exact h.not_map es cl e)).trans h.obj, h.is.other hg hm h1, h.was.other hg hm h2, h.tokI, h.tokW, h.ne⟩
/-- Its own map is written. -/
theorem Ov.turn {w w' : World} {o b1 b2 : Nat} {V V' : Nat → Prop} {I I' W : Tab} (h : Ov w o b1 b2 V I W) (hg : w.grownBy w' (some b1)) (hm : Mp w' b1 V' I') (hT : Tok I') (hV : ∀ x, x < w.heap.size → V x → V' x) : Ov w' o b1 b2 V' I' W :=
  ⟨(hg.block o h.lt (by
    obtain ⟨es, cl, e⟩ := h.is.isMap
    intro f
    obtain rfl := Option.some.inj f
    exact h.not_map es cl e)).trans h.obj, hm, (h.was.wide hV).other hg h.is.isMap (Ne.symm h.ne), hT, h.tokW, h.ne⟩
set_option maxHeartbeats 1000000 in
theorem over_ (t b : Nat) (V : Nat → Prop) (M : Tab) (w : World) (h : Tw w t b V M) :
    Calls Tryz.prog 17 #[.pointer (some ⟨t, 0, none⟩)] w fun e w' => ∃ o b1 b2, e = .returned (.pointer (some ⟨o, 0, none⟩)) ∧ Ov w' o b1 b2 V M M ∧ w.heap.size ≤ b1 ∧ w.heap.size ≤ b2 ∧ w.heap.size ≤ o ∧ Below w.heap.size w w' := by
  have ct := h.tbl.cell
  have HT := hid h
  have k1 := fun wx (hM : Mp wx b V M) => mclone_ b V M wx hM
  have hlt := h.tbl.lt
  clear h
  go_enter Tryz.func17, Tryz.ntmps17
  go_wp2_with fail
  have HM0 : Hid (Mp w.drew b V M) := HT.out.mp.below (below_drew w)
  have HTB : Hid (∀ wx, Below w.heap.size w wx → wx.cell? ⟨t, 0, none⟩ = some (.map (some b))) := fun wx hb => (HT.out.below hb).tbl.cell
  go_region_held (fun wx => wx.cell? ⟨t, 0, none⟩ = some (.map (some b))) (go_keep) (first
    | (go_at_call 46; have HQ := G1; refine (k1 _ (by exact HT.out.mp.below HQ.out)).mono ?_; rintro e w2 ⟨rfl, m2, g2, s2⟩; have HG2 : Hid (Below w.heap.size w w2) := bel_bel HQ.out HQ.out.size g2; have y2 := HTB.out w2 HG2.out; have HM2 := hid m2; have HM1 := hid (M1.out.below g2); have HSS : Hid (w.heap.size < w1.heap.size ∧ w2.heap.size = w1.heap.size + 1) := ⟨HS1.out, s2⟩; clear m2 g2 s2 y1 M1 G1 HS1)
    | (go_at_call 46; refine (k1 _ (by exact HM0.out)).mono ?_; rintro e w1 ⟨rfl, m1, g1, s1⟩; have G1 : Hid (Below w.heap.size w w1) := ⟨g1.os, g1.tape, g1.output, g1.size, g1.block⟩; have y1 := HTB.out w1 G1.out; have M1 := hid m1; have HS1 : Hid (w.heap.size < w1.heap.size) := (by have s1 : w1.heap.size = w.heap.size + 1 := s1; show _ < _; omega); clear m1 g1 s1))
  go_wp2_with fail
  go_ret
  have hsz := HG2.out.size
  have hss := HSS.out
  have hM1 : Mp (w2.alloc (.cells #[.map (some w.heap.size), .map (some w1.heap.size)] 75)) w.heap.size V M := HM1.out.below ((Below.refl _ w2).alloc (Nat.le_refl _) _)
  have hM2 := HM2.out.below ((Below.refl _ w2).alloc (Nat.le_refl _) (.cells #[.map (some w.heap.size), .map (some w1.heap.size)] 75))
  have hob := heap_alloc_new w2 (.cells #[.map (some w.heap.size), .map (some w1.heap.size)] 75)
  have hov : Ov (w2.alloc (.cells #[.map (some w.heap.size), .map (some w1.heap.size)] 75)) w2.heap.size w.heap.size w1.heap.size V M M := ⟨hob, hM1, hM2, HT.out.tok, HT.out.tok, by omega⟩
  have hBF := HG2.out.alloc hsz (.cells #[.map (some w.heap.size), .map (some w1.heap.size)] 75)
  first | exact ⟨w2.heap.size, w.heap.size, w1.heap.size, rfl, hov, Nat.le_refl _, by omega, by omega, hBF⟩ | exact ⟨w2.heap.size, rfl, w.heap.size, w1.heap.size, hov, Nat.le_refl _, by omega, by omega, hBF⟩
set_option maxHeartbeats 1000000 in
theorem delete_ (o b1 b2 : Nat) (V : Nat → Prop) (I W : Tab) (a : Option Addr) (n c : Nat) (k : List Int) (w : World) (h : Ov w o b1 b2 V I W) (hk : Bs w a n k) (hn : n ≤ maxLen) :
    Calls Tryz.prog 18 #[.pointer (some ⟨o, 0, none⟩), .slice a n c] w fun e w' => e = .returned (.bool (look I k).isSome) ∧ Ov w' o b1 b2 V (del k I) W ∧ w.grownBy w' (some b1) := by
  have c0 := h.c0
  have k1 := fun wx (hM : Mp wx b1 V I) (hK : Bs wx a n k) => drop_ b1 V I a n c k wx hM h.tokI hK hn
  obtain ⟨q, HQ⟩ : ∃ q, Hid ((look I k).isSome = q) := ⟨_, rfl⟩
  rw [HQ.out] at k1 ⊢
  have H := hid h
  have HK := hid hk
  clear h hk
  go_enter Tryz.func18, Tryz.ntmps18
  go_wp2_with fail
  refine (k1 _ H.out.is HK.out).mono ?_
  rintro e w1 ⟨rfl, m1, g1⟩
  have M1 := hid m1
  have G1 := hid g1
  clear m1 g1 k1 c0
  go_wp2_with fail
  go_ret
  exact ⟨rfl, H.out.turn G1.out M1.out (H.out.tokI.del k) (fun _ _ h => h), G1.out⟩
set_option maxHeartbeats 1000000 in
theorem set_ (o b1 b2 : Nat) (V : Nat → Prop) (I W : Tab) (a p : Option Addr) (n c m d : Nat) (k v : List Int) (w : World) (h : Ov w o b1 b2 V I W) (hk : Bs w a n k) (hnc : n ≤ c) (hcm : c ≤ maxLen) (hv : Bs w p m v) (hp : p = none → d = 0) (hmd : m ≤ d) (hdm : d ≤ maxLen) (hIL : I.length ≤ 1000000000) :
    Calls Tryz.prog 19 #[.pointer (some ⟨o, 0, none⟩), .slice a n c, .slice p m d] w fun e w' => (mayS ⟨k, v, false⟩ = true ∧ e = .returned (.int .i64 0) ∧ Ov w' o b1 b2 (fun x => V x ∨ w.heap.size ≤ x) (ins k v I) W ∧ w.grownBy w' (some b1)) ∨ (mayS ⟨k, v, false⟩ = false ∧ e = .returned (.int .i64 114) ∧ Below w.heap.size w w') := by
  have c0 := h.c0
  have k0 := fun wx => mayBe_ a p c d ⟨k, v, false⟩ wx (by rw [hk.1]; omega) (by rw [hv.1]; omega)
  simp only [hk.1, hv.1] at k0
  have k1 := fun (hm : mayS ⟨k, v, false⟩ = true) wx (hM : Mp wx b1 V I) (hK : Bs wx a n k) (hV : Bs wx p m v) => put_ b1 V I a p n c m d k v wx hM h.tokI hK (by omega) hV hp hmd (by have := mayS_val hm; simp only at this; have := hV.1; omega) hIL
  have H := hid h
  have HK := hid hk
  have HV := hid hv
  clear h hk hv
  cases hm : mayS ⟨k, v, false⟩ with
  | false =>
    rw [hm] at k0
    clear k1 hm
    go_enter Tryz.func19, Tryz.ntmps19
    go_wp2_with fail
    refine (k0 _).mono ?_
    rintro e w1 ⟨rfl, g1⟩
    clear k0
    go_wp2_with fail
    go_ret
    exact .inr ⟨trivial, rfl, g1⟩
  | true =>
    have k1 := k1 hm
    have HM := hid hm
    rw [hm] at k0
    clear hm
    go_enter Tryz.func19, Tryz.ntmps19
    go_wp2_with fail
    refine (k0 _).mono ?_
    rintro e w1 ⟨rfl, g1⟩
    have H1 := hid (H.out.below g1)
    have G1 := hid g1
    have c1 := H1.out.c0
    clear k0 g1 c0
    go_wp2_with fail
    refine (k1 _ H1.out.is (HK.out.below G1.out) (HV.out.below G1.out)).mono ?_
    rintro e w2 ⟨rfl, m2, g2⟩
    have HO : Hid (Ov w2 o b1 b2 (fun x => V x ∨ w.heap.size ≤ x) (ins k v I) W) := H1.out.turn g2 (m2.wide fun x _ h => h.elim .inl fun h => .inr (Nat.le_trans G1.out.size h)) (H.out.tokI.ins ⟨HK.out.2.1, mayS_key HM.out⟩ ⟨HV.out.2.1, mayS_val HM.out⟩) (fun x _ h => .inl h)
    have HG : Hid (w.grownBy w2 (some b1)) := ((grown_of_below G1.out).but (some b1)).andThen g2 (fun j e => .inr e)
    clear m2 g2 k1 c1
    go_wp2_with fail
    go_ret
    exact .inl ⟨trivial, rfl, HO.out, HG.out⟩
end Go.Proofs.YteeapmcpbmjpmaaGreat
