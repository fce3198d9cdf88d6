import Derived.Test.YtcbmgpmjnehjdaaGreatRI
namespace Go.Proofs.YtcbmgpmjnehjdaaGreat
set_option maxRecDepth 100000
open Go.RowKit
set_option linter.unusedVariables false

/-- What a row says of a lane. -/
def yK (k : List Int) : List Int := k.drop 1
def yS (v : List Int) : Int := v.getD 0 0
def yok (k v : List Int) : Bool := decide (k.length = 33 ∧ v.length = 37) && (lok 32 (yS v) (rdN v 1 4) (rdN v 5 4) (qs (v.drop 25)) (qn (v.drop 25)) && (gok (v.drop 25) && (sameB (lK (yK k)) k && sameB (lV (yS v) (rdN v 1 4) (rdN v 5 4) (rdN v 9 8) (rdN v 17 8) (qs (v.drop 25)) (qn (v.drop 25))) v)))
/-- The rest of bytes that can be read. -/
theorem bs_rest {w : World} {b off n c m : Nat} {zs : List Int} (h : Bs w (some ⟨b, off, none⟩) n zs) (hm : m < n) : Bs w (some ⟨b, off + m, none⟩) (n - m) (zs.drop m) := by
  refine ⟨by rw [List.length_drop, h.1], fun z hz => h.2.1 z (List.mem_of_mem_drop hz), .inr ⟨b, off + m, rfl, fun i hi => ?_⟩⟩
  rcases h.2.2 with h0 | ⟨b', off', e, hc⟩
  · omega
  · simp only [Option.some.injEq, Addr.mk.injEq] at e
    obtain ⟨rfl, rfl, -⟩ := e
    have := hc (m + i) (by omega)
    rw [show off + m + i = off + (m + i) from by omega, this]
    simp only [List.getD, List.getElem?_drop]
theorem Lm.set8 {w : World} {g : Nat} {a : Option Addr} {m c : Nat} {S C N D E s n : Int} (h : Lm w g a m c S C N D E s n) (a' : Option Addr) (m' c' : Nat) (S' C' N' D' E' s' n' : Int) :
    Lm ((((((((w.setCell ⟨g, 0, none⟩ (.slice a' m' c')).setCell ⟨g, 1, none⟩ (.int .i64 S')).setCell ⟨g, 2, none⟩ (.int .i64 C')).setCell ⟨g, 3, none⟩ (.int .i64 N')).setCell ⟨g, 4, none⟩ (.int .u64 D')).setCell ⟨g, 5, none⟩ (.int .u64 E')).setCell ⟨g, 6, none⟩ (.int .i64 s')).setCell ⟨g, 7, none⟩ (.int .i64 n')) g a' m' c' S' C' N' D' E' s' n' := by
  unfold Lm at *
  simp [World.setCell, Array.getElem?_modify, h]
theorem set8_other {w : World} {g j : Nat} (h : j ≠ g) (v0 v1 v2 v3 v4 v5 v6 v7 : Value) : ((((((((w.setCell ⟨g, 0, none⟩ v0).setCell ⟨g, 1, none⟩ v1).setCell ⟨g, 2, none⟩ v2).setCell ⟨g, 3, none⟩ v3).setCell ⟨g, 4, none⟩ v4).setCell ⟨g, 5, none⟩ v5).setCell ⟨g, 6, none⟩ v6).setCell ⟨g, 7, none⟩ v7).heap[j]? = w.heap[j]? := by
  simp [World.setCell, Array.getElem?_modify, Ne.symm h]
theorem set8_bel {B g : Nat} {a w : World} (h : Below B a w) (hg : B ≤ g) (v0 v1 v2 v3 v4 v5 v6 v7 : Value) : Below B a ((((((((w.setCell ⟨g, 0, none⟩ v0).setCell ⟨g, 1, none⟩ v1).setCell ⟨g, 2, none⟩ v2).setCell ⟨g, 3, none⟩ v3).setCell ⟨g, 4, none⟩ v4).setCell ⟨g, 5, none⟩ v5).setCell ⟨g, 6, none⟩ v6).setCell ⟨g, 7, none⟩ v7) :=
  (((((((h.setCell (p := ⟨g, 0, none⟩) hg v0).setCell (p := ⟨g, 1, none⟩) hg v1).setCell (p := ⟨g, 2, none⟩) hg v2).setCell (p := ⟨g, 3, none⟩) hg v3).setCell (p := ⟨g, 4, none⟩) hg v4).setCell (p := ⟨g, 5, none⟩) hg v5).setCell (p := ⟨g, 6, none⟩) hg v6).setCell (p := ⟨g, 7, none⟩) hg v7
/-- A lane that is being filled: its block, made since W, and the bytes of its key beside it. -/
structure Lf (W X : World) (G : Nat) (a : Option Addr) (c : Nat) (k : List Int) (S C N D E s n : Int) : Prop where
  lm : Lm X G a 32 c S C N D E s n
  bw : Bw W X
  vs : Vs X (fun x => W.heap.size ≤ x ∧ x ≠ G) a 32 c k
  ge : W.heap.size ≤ G
theorem Lf.put {W X : World} {G : Nat} {a : Option Addr} {c : Nat} {k : List Int} {S C N D E s n : Int} (h : Lf W X G a c k S C N D E s n) (i : Nat) (u : Value) {S' C' N' D' E' s' n' : Int} (hl : Lm (X.setCell ⟨G, i, none⟩ u) G a 32 c S' C' N' D' E' s' n') : Lf W (X.setCell ⟨G, i, none⟩ u) G a c k S' C' N' D' E' s' n' :=
  ⟨hl, Below.setCell h.bw (p := ⟨G, i, none⟩) h.ge u, h.vs.step fun x _ hx _ => Below.heap_setCell _ _ _ _ hx.2, h.ge⟩
section
variable {W X : World} {G : Nat} {a : Option Addr} {c : Nat} {k : List Int} {S C N D E s n : Int}
theorem Lf.p2 (h : Lf W X G a c k S C N D E s n) (z : Int) : Lf W (X.setCell ⟨G, 2, none⟩ (.int .i64 z)) G a c k S z N D E s n := h.put 2 _ (by have := h.lm; unfold Lm at *; simp [World.setCell, Array.getElem?_modify, this])
theorem Lf.p3 (h : Lf W X G a c k S C N D E s n) (z : Int) : Lf W (X.setCell ⟨G, 3, none⟩ (.int .i64 z)) G a c k S C z D E s n := h.put 3 _ (by have := h.lm; unfold Lm at *; simp [World.setCell, Array.getElem?_modify, this])
theorem Lf.p4 (h : Lf W X G a c k S C N D E s n) (z : Int) : Lf W (X.setCell ⟨G, 4, none⟩ (.int .u64 z)) G a c k S C N z E s n := h.put 4 _ (by have := h.lm; unfold Lm at *; simp [World.setCell, Array.getElem?_modify, this])
theorem Lf.p5 (h : Lf W X G a c k S C N D E s n) (z : Int) : Lf W (X.setCell ⟨G, 5, none⟩ (.int .u64 z)) G a c k S C N D z s n := h.put 5 _ (by have := h.lm; unfold Lm at *; simp [World.setCell, Array.getElem?_modify, this])
theorem Lf.p6 (h : Lf W X G a c k S C N D E s n) (z : Int) : Lf W (X.setCell ⟨G, 6, none⟩ (.int .i64 z)) G a c k S C N D E z n := h.put 6 _ (by have := h.lm; unfold Lm at *; simp [World.setCell, Array.getElem?_modify, this])
theorem Lf.p7 (h : Lf W X G a c k S C N D E s n) (z : Int) : Lf W (X.setCell ⟨G, 7, none⟩ (.int .i64 z)) G a c k S C N D E s z := h.put 7 _ (by have := h.lm; unfold Lm at *; simp [World.setCell, Array.getElem?_modify, this])
theorem Lf.on {X' : World} (h : Lf W X G a c k S C N D E s n) (hb : Below X.heap.size X X') : Lf W X' G a c k S C N D E s n := ⟨h.lm.kept hb, Bw.on h.bw hb, h.vs.step fun x hx _ _ => hb.block x hx, h.ge⟩
end
theorem rdN_bound {v : List Int} (hb : ∀ z ∈ v, 0 ≤ z ∧ z ≤ 255) (p n : Nat) : 0 ≤ rdN v p n ∧ rdN v p n < 256 ^ n := by
  unfold rdN
  split
  · rename_i h
    have := val_bound ((v.drop p).take n) (fun z hz => hb z (List.mem_of_mem_drop (List.mem_of_mem_take hz)))
    rwa [List.length_take, List.length_drop, Nat.min_eq_left (by omega)] at this
  · exact ⟨by omega, Int.pow_pos (by omega)⟩
theorem q_bound {l : List Int} (hb : ∀ z ∈ l, 0 ≤ z ∧ z ≤ 255) : i64r (qs l) ∧ i64r (qn l) := by
  unfold i64r qs qn
  by_cases h : gok l = true
  · have hq := of_decide_eq_true (show decide _ = true from h)
    have h1 := (val_bound (l.take 8) (fun z hz => hb z (List.mem_of_mem_take hz))).1
    have h2 := (val_bound (l.drop 8) (fun z hz => hb z (List.mem_of_mem_drop hz))).1
    rw [if_pos h, if_pos h]
    unfold gs gn at *
    omega
  · rw [if_neg h, if_neg h]
    omega
theorem wr64 {x : Int} (h : 0 ≤ x ∧ x < 4294967296) : IntKind.i64.wrap x = x := by simp [IntKind.wrap, IntKind.bits, IntKind.signed]; omega
/-- The lane of a row, as it is answered. -/
def Ga (w : World) (k v : List Int) (e : Ending) (w' : World) : Prop := (∃ a c, (if yok k v then e = .returned (.tuple #[.agg #[.slice a 32 c, .int .i64 (yS v), .int .i64 (rdN v 1 4), .int .i64 (rdN v 5 4), .int .u64 (rdN v 9 8), .int .u64 (rdN v 17 8), .int .i64 (qs (v.drop 25)), .int .i64 (qn (v.drop 25))], .int .i64 0]) ∧ Vs w' (fun x => w.heap.size ≤ x) a 32 c (yK k) else e = .returned (.tuple #[.agg #[.slice none 0 0, .int .i64 0, .int .i64 0, .int .i64 0, .int .u64 0, .int .u64 0, .int .i64 0, .int .i64 0], .int .i64 114]))) ∧ Below w.heap.size w w'
set_option maxHeartbeats 1000000 in
/-- The document's GetLane. -/
theorem rgetLane_ (ka va : Option Addr) (kn kc vn vc : Nat) (k v : List Int) (w : World) (hk : Bs w ka kn k) (hv : Bs w va vn v) (h1 : kn ≤ kc) (h2 : vn ≤ vc) (h3 : kc ≤ maxLen) (h4 : vc ≤ maxLen) (hok : kn = 33 ∧ vn = 37) :
    Calls Tryz.prog 30 #[.agg #[.slice ka kn kc, .slice va vn vc]] w fun e w' => Ga w k v e w' := by
  obtain ⟨rfl, rfl⟩ := hok
  obtain ⟨kb, ko, rfl⟩ : ∃ b o, ka = some ⟨b, o, none⟩ := by
    rcases hk.2.2 with h0 | ⟨b, off, e, hc⟩
    · omega
    · exact ⟨b, off, e⟩
  obtain ⟨vb, vo, rfl⟩ : ∃ b o, va = some ⟨b, o, none⟩ := by
    rcases hv.2.2 with h0 | ⟨b, off, e, hc⟩
    · omega
    · exact ⟨b, off, e⟩
  unfold maxLen at h3 h4
  have hkc : ¬ kc = 1 := by omega
  have hvc : ¬ vc = 25 := by omega
  have BA : Below w.heap.size w ((w.alloc (.cells #[.slice (some ⟨kb, ko, none⟩) 33 kc, .slice (some ⟨vb, vo, none⟩) 37 vc] 54)).alloc (.cells #[.slice none 0 0, .int .i64 0, .int .i64 0, .int .i64 0, .int .u64 0, .int .u64 0, .int .i64 0, .int .i64 0] 64)) := ((Below.refl _ _).alloc (Nat.le_refl _) _).alloc (by simp) _
  have m1 : ((w.alloc (.cells #[.slice (some ⟨kb, ko, none⟩) 33 kc, .slice (some ⟨vb, vo, none⟩) 37 vc] 54)).alloc (.cells #[.slice none 0 0, .int .i64 0, .int .i64 0, .int .i64 0, .int .u64 0, .int .u64 0, .int .i64 0, .int .i64 0] 64)).heap[w.heap.size]? = some (.cells #[.slice (some ⟨kb, ko, none⟩) 33 kc, .slice (some ⟨vb, vo, none⟩) 37 vc] 54 (0, 0)) := (Below.heap_alloc _ _ _ (by simp)).trans (heap_alloc_new w _)
  have m2 := Lm.new (w.alloc (.cells #[.slice (some ⟨kb, ko, none⟩) 33 kc, .slice (some ⟨vb, vo, none⟩) 37 vc] 54)) none 0 0 0 0 0 0 0 0 0
  rw [World.size_alloc] at m2
  have HBA := hid BA
  have HM1 := hid m1
  have HM2 := hid m2
  have HK := hid hk
  have HV := hid hv
  clear BA m1 m2 hk hv
  have y0 := (two_cell HM1.out).1
  have y1 := (two_cell HM1.out).2
  have y2 : ((w.alloc (.cells #[.slice (some ⟨kb, ko, none⟩) 33 kc, .slice (some ⟨vb, vo, none⟩) 37 vc] 54)).alloc (.cells #[.slice none 0 0, .int .i64 0, .int .i64 0, .int .i64 0, .int .u64 0, .int .u64 0, .int .i64 0, .int .i64 0] 64)).cell? ⟨vb, vo, none⟩ = some (.int .u8 (yS v)) := by
    rcases (HV.out.below HBA.out).2.2 with h0 | ⟨b, off, e, hc⟩
    · omega
    · simp only [Option.some.injEq, Addr.mk.injEq] at e
      obtain ⟨rfl, rfl, -⟩ := e
      exact hc 0 (by omega)
  have hSb := getD_byte6 HV.out.2.1 0
  obtain ⟨S, HS⟩ : ∃ S, Hid (yS v = S) := ⟨_, rfl⟩
  have hSb : 0 ≤ S ∧ S ≤ 255 := by rw [← HS.out]; exact hSb
  rw [HS.out] at y2
  have x0 := World.new_ne _ _ y0
  have x1 := World.new_ne _ _ y1
  have x2 := World.new_ne _ _ y2
  have HWS : Hid (((w.alloc (.cells #[.slice (some ⟨kb, ko, none⟩) 33 kc, .slice (some ⟨vb, vo, none⟩) 37 vc] 54)).alloc (.cells #[.slice none 0 0, .int .i64 0, .int .i64 0, .int .i64 0, .int .u64 0, .int .u64 0, .int .i64 0, .int .i64 0] 64)).heap.size = w.heap.size + 2) := by show _ = _; simp
  generalize HW : ((w.alloc (.cells #[.slice (some ⟨kb, ko, none⟩) 33 kc, .slice (some ⟨vb, vo, none⟩) 37 vc] 54)).alloc (.cells #[.slice none 0 0, .int .i64 0, .int .i64 0, .int .i64 0, .int .u64 0, .int .u64 0, .int .i64 0, .int .i64 0] 64)) = W at *
  have kby : ∀ wx, Bw W wx → Calls Tryz.prog 27 #[.slice (some ⟨kb, ko + 1, none⟩) 32 (kc - 1)] wx fun e w' => ∃ z, e = .returned z ∧ w'.ownsRow wx.heap.size 5 1 z 32 (cells (k.drop 1)) ∧ Bw W w' ∧ Below wx.heap.size wx w' := fun wx h => (refBytes (some ⟨kb, ko + 1, none⟩) 32 (kc - 1) (k.drop 1) wx (((bs_rest (c := 0) HK.out (by omega)).below HBA.out).below h) (by omega)).mono fun e w' ⟨z, e1, o1, b1⟩ => ⟨z, e1, o1, h.on b1, b1⟩
  have HDB : Hid (Okb (k.drop 1)) := fun z hz => HK.out.2.1 z (List.mem_of_mem_drop hz)
  have hwS : IntKind.i64.wrap S = S := by simp [IntKind.wrap, IntKind.bits, IntKind.signed]; omega
  have BW0 : Bw W { W with drawn := W.drawn + 1 } := Bw.drew W
  have BW1 := fun o => Bw.on BW0 ((Below.refl ({ W with drawn := W.drawn + 1 } : World).heap.size _).alloc (Nat.le_refl _) o)
  go_enter Tryz.func30, Tryz.ntmps30
  go_wp2_with fail
  clear HW
  go_region_held (fun wx => wx.cell? ⟨w.heap.size, 0, none⟩ = some (.slice (some ⟨kb, ko, none⟩) 33 kc) ∧ wx.cell? ⟨w.heap.size, 1, none⟩ = some (.slice (some ⟨vb, vo, none⟩) 37 vc) ∧ wx.cell? ⟨vb, vo, none⟩ = some (.int .u8 S)) (go_keep) (first | (go_at_call 27; refine (kby _ (by exact BW1 _)).mono ?_; rintro en w2 ⟨v2, rfl, o2, g2, g3⟩; have u0 := Bw.cell g2 y0; have u1 := Bw.cell g2 y1; have u2 := Bw.cell g2 y2; obtain ⟨a2, c2, rfl, vs2⟩ := Vs.ofOwn o2 HDB.out; have HO2 := hid vs2; clear vs2; have HG2 := hid g2; have HG3 := hid g3; have L2 : Lm w2 W.heap.size none 0 0 0 0 0 0 0 0 0 := (Lm.new { W with drawn := W.drawn + 1 } none 0 0 0 0 0 0 0 0 0).kept g3; have z0 := L2.c0; have f0 := L2.fz 0; have z1 := L2.c1; have f1 := L2.fz 1; have z2 := L2.c2; have f2 := L2.fz 2; have z3 := L2.c3; have f3 := L2.fz 3; have z4 := L2.c4; have f4 := L2.fz 4; have z5 := L2.c5; have f5 := L2.fz 5; have z6 := L2.c6; have f6 := L2.fz 6; have z7 := L2.c7; have f7 := L2.fz 7; have HL2 := hid L2; clear L2; clear o2 g2 g3) | (go_at_call 27; refine (kby _ (by exact BW0)).mono ?_; rintro en w2 ⟨v2, rfl, o2, g2, g3⟩; have u0 := Bw.cell g2 y0; have u1 := Bw.cell g2 y1; have u2 := Bw.cell g2 y2; obtain ⟨a2, c2, rfl, vs2⟩ := Vs.ofOwn o2 HDB.out; have HO2 := hid vs2; clear vs2; have HG2 := hid g2; have HG3 := hid g3; clear o2 g2 g3))
  · have L : Lf W (w2.alloc (.cells #[.slice a2 32 c2, .int .i64 S, .int .i64 0, .int .i64 0, .int .u64 0, .int .u64 0, .int .i64 0, .int .i64 0] 64)) w2.heap.size a2 c2 (k.drop 1) S 0 0 0 0 0 0 := by
      refine ⟨Lm.new w2 a2 32 c2 S 0 0 0 0 0 0, Bw.on HG2.out ((Below.refl _ _).alloc (Nat.le_refl _) _), ?_, Below.size HG2.out⟩
      exact (HO2.out.wide (V' := fun x => W.heap.size ≤ x ∧ x ≠ w2.heap.size) fun x hx h => ⟨h, by omega⟩).step fun x hx _ _ => Below.heap_alloc _ _ _ hx
    have HSB := hid hSb
    have HL := hid L
    generalize w2.alloc (.cells #[.slice a2 32 c2, .int .i64 S, .int .i64 0, .int .i64 0, .int .u64 0, .int .u64 0, .int .i64 0, .int .i64 0] 64) = X at HL ⊢
    generalize w2.heap.size = G at HL ⊢
    clear L HO2 HG2 HG3 u0 u1 u2 BW0 BW1 y2 x0 x1 x2 hwS hSb hkc HDB kby
    have HBV := hid (HV.out.below HBA.out)
    have bC := rdN_bound HV.out.2.1 1 4
    have bN := rdN_bound HV.out.2.1 5 4
    have bD := rdN_bound HV.out.2.1 9 8
    have bE := rdN_bound HV.out.2.1 17 8
    have kr1 := fun wx (h : Bw W wx) => rread15_ (some ⟨vb, vo, none⟩) 37 vc 1 4 v wx (HBV.out.below h) (by unfold maxLen; omega) (by omega) (by omega)
    have kr2 := fun wx (h : Bw W wx) => rread15_ (some ⟨vb, vo, none⟩) 37 vc 5 4 v wx (HBV.out.below h) (by unfold maxLen; omega) (by omega) (by omega)
    have kr3 := fun wx (h : Bw W wx) => rread15_ (some ⟨vb, vo, none⟩) 37 vc 9 8 v wx (HBV.out.below h) (by unfold maxLen; omega) (by omega) (by omega)
    have kr4 := fun wx (h : Bw W wx) => rread15_ (some ⟨vb, vo, none⟩) 37 vc 17 8 v wx (HBV.out.below h) (by unfold maxLen; omega) (by omega) (by omega)
    obtain ⟨C, HC⟩ : ∃ x, Hid (rdN v 1 4 = x) := ⟨_, rfl⟩
    obtain ⟨N, HN⟩ : ∃ x, Hid (rdN v 5 4 = x) := ⟨_, rfl⟩
    obtain ⟨D, HD⟩ : ∃ x, Hid (rdN v 9 8 = x) := ⟨_, rfl⟩
    obtain ⟨E, HE⟩ : ∃ x, Hid (rdN v 17 8 = x) := ⟨_, rfl⟩
    rw [HC.out] at bC kr1
    rw [HN.out] at bN kr2
    rw [HD.out] at bD kr3
    rw [HE.out] at bE kr4
    have Y1 := Bw.cell HL.out.bw y1
    go_wp2_with fail
    refine (kr1 _ HL.out.bw).mono ?_
    rintro e wy ⟨rfl, hw⟩
    rw [hw]
    clear hw wy kr1
    have hwC := wr64 bC
    have p2 := HL.out.lm.c2
    have f2 := HL.out.lm.fz 2
    have HL2 := hid (HL.out.p2 C)
    have Y2 := Bw.cell HL2.out.bw y1
    clear Y1
    go_wp2_with fail
    clear p2 f2 Y2 hwC HL
    refine (kr2 _ HL2.out.bw).mono ?_
    rintro e wy ⟨rfl, hw⟩
    rw [hw]
    clear hw wy kr2
    have hwN := wr64 bN
    have p3 := HL2.out.lm.c3
    have f3 := HL2.out.lm.fz 3
    have HL3 := hid (HL2.out.p3 N)
    have Y3 := Bw.cell HL3.out.bw y1
    go_wp2_with fail
    clear p3 f3 Y3 hwN HL2
    refine (kr3 _ HL3.out.bw).mono ?_
    rintro e wy ⟨rfl, hw⟩
    rw [hw]
    clear hw wy kr3
    have p4 := HL3.out.lm.c4
    have f4 := HL3.out.lm.fz 4
    have HL4 := hid (HL3.out.p4 D)
    have Y4 := Bw.cell HL4.out.bw y1
    go_wp2_with fail
    clear p4 f4 Y4 HL3
    refine (kr4 _ HL4.out.bw).mono ?_
    rintro e wy ⟨rfl, hw⟩
    rw [hw]
    clear hw wy kr4
    have p5 := HL4.out.lm.c5
    have f5 := HL4.out.lm.fz 5
    have HL5 := hid (HL4.out.p5 E)
    have Y5 := Bw.cell HL5.out.bw y1
    go_wp2_with fail
    clear p5 f5 Y5 HL4
    generalize ((((X.setCell ⟨G, 2, none⟩ (.int .i64 C)).setCell ⟨G, 3, none⟩ (.int .i64 N)).setCell ⟨G, 4, none⟩ (.int .u64 D)).setCell ⟨G, 5, none⟩ (.int .u64 E)) = X5 at HL5 ⊢
    clear X
    have kg := refGet_ (some ⟨vb, vo + 25, none⟩) 12 (vc - 25) (v.drop 25) X5 ((bs_rest (c := 0) HBV.out (by omega)).below HL5.out.bw) (by unfold maxLen; omega)
    have bq := q_bound (fun z hz => HV.out.2.1 z (List.mem_of_mem_drop hz) : ∀ z ∈ v.drop 25, 0 ≤ z ∧ z ≤ 255)
    obtain ⟨s, Hs⟩ : ∃ x, Hid (qs (v.drop 25) = x) := ⟨_, rfl⟩
    obtain ⟨n, Hn⟩ : ∃ x, Hid (qn (v.drop 25) = x) := ⟨_, rfl⟩
    obtain ⟨f, Hf⟩ : ∃ x, Hid (qe (v.drop 25) = x) := ⟨_, rfl⟩
    rw [Hs.out, Hn.out, Hf.out] at kg
    rw [Hs.out, Hn.out] at bq
    refine kg.mono ?_
    rintro e w6 ⟨rfl, g6⟩
    have HL6 := hid ((HL5.out.on g6).on (snew1 w6 s n))
    clear kg g6 HL5
    have p6 := HL6.out.lm.c6
    have p7 := HL6.out.lm.c7
    have f6 := HL6.out.lm.fz 6
    have f7 := HL6.out.lm.fz 7
    have HL8 := hid ((HL6.out.p6 s).p7 n)
    have d0 := HL8.out.lm.c0
    have d1 := HL8.out.lm.c1
    have d2 := HL8.out.lm.c2
    have d3 := HL8.out.lm.c3
    have d4 := HL8.out.lm.c4
    have d5 := HL8.out.lm.c5
    have d6 := HL8.out.lm.c6
    have d7 := HL8.out.lm.c7
    go_wp2_with fail
    clear d0 d1 d2 d3 d4 d5 d6 d7 p6 p7 f6 f7 HL6
    generalize (((w6.alloc (.cells #[.int .i64 s, .int .i64 n] 62)).setCell ⟨G, 6, none⟩ (.int .i64 s)).setCell ⟨G, 7, none⟩ (.int .i64 n)) = X8 at HL8 ⊢
    have hS64 : i64r S := by unfold i64r; have := HSB.out; omega
    have hC64 : i64r C := by unfold i64r; omega
    have hN64 : i64r N := by unfold i64r; omega
    have hD64 : u64r D := by unfold u64r; omega
    have hE64 : u64r E := by unfold u64r; omega
    have kp := rputLane_ a2 32 c2 (k.drop 1) S C N D E s n X8 HL8.out.vs.bs (by unfold maxLen; omega) hS64 hC64 hN64 hD64 hE64 bq.1 bq.2
    clear hS64 hC64 hN64 hD64 hE64 bq
    obtain ⟨b1, Hb1⟩ : ∃ x, Hid (lok 32 S C N s n = x) := ⟨_, rfl⟩
    obtain ⟨b2, Hb2⟩ : ∃ x, Hid (gok (v.drop 25) = x) := ⟨_, rfl⟩
    obtain ⟨RK, HRK⟩ : ∃ x, Hid (lRK (k.drop 1) S C N s n = x) := ⟨_, rfl⟩
    obtain ⟨RV, HRV⟩ : ∃ x, Hid (lRV (k.drop 1) S C N D E s n = x) := ⟨_, rfl⟩
    obtain ⟨RE, HRE⟩ : ∃ x, Hid (lRE (k.drop 1) S C N s n = x) := ⟨_, rfl⟩
    obtain ⟨r, Hr⟩ : ∃ x, Hid ((sameB RK k && sameB RV v) = x) := ⟨_, rfl⟩
    have hd1 : (k.drop 1).length = 32 := by rw [List.length_drop, HK.out.1]
    have HE1 : Hid (RE = if b1 then 0 else 114) := by show _ = _; rw [← HRE.out, ← Hb1.out]; unfold lRE; rw [hd1]
    have HE2 : Hid (f = if b2 then 0 else 60) := by show _ = _; rw [← Hf.out, ← Hb2.out]; rfl
    have HY : Hid (yok k v = (b1 && (b2 && r))) := by
      show _ = _
      unfold yok
      rw [HS.out, HC.out, HN.out, HD.out, HE.out, Hs.out, Hn.out, Hb1.out, Hb2.out, decide_eq_true ⟨HK.out.1, HV.out.1⟩, Bool.true_and]
      cases b1
      · rfl
      · have e1 : RK = lK (yK k) := by rw [← HRK.out]; unfold lRK; rw [hd1, Hb1.out]; rfl
        have e2 : RV = lV S C N D E s n := by rw [← HRV.out]; unfold lRV; rw [hd1, Hb1.out]; rfl
        rw [← Hr.out, e1, e2]
    rw [HRK.out, HRV.out, HRE.out] at kp
    refine kp.mono ?_
    rintro e w9 ⟨pa, pc, qa, qc, rfl, vk, vv, g9⟩
    obtain ⟨pk, Hpk⟩ : ∃ x : Nat, Hid (RK.length = x) := ⟨_, rfl⟩
    obtain ⟨pv, Hpv⟩ : ∃ x : Nat, Hid (RV.length = x) := ⟨_, rfl⟩
    rw [Hpk.out] at vk
    rw [Hpv.out] at vv
    rw [Hpk.out, Hpv.out]
    have B9 : Below w9.heap.size w9 (w9.alloc (.cells #[.slice pa pk pc, .slice qa pv qc] 54)) := (Below.refl _ _).alloc (Nat.le_refl _) _
    have HL9 := hid ((HL8.out.on g9).on B9)
    have G0 := Bw.cell HL9.out.bw y0
    have G1 := Bw.cell HL9.out.bw y1
    have ks := sameRow_ pa qa (some ⟨kb, ko, none⟩) (some ⟨vb, vo, none⟩) pk pc pv qc 33 kc 37 vc RK RV k v _ (vk.bs.below B9) (vv.bs.below B9) ((HK.out.below HBA.out).below HL9.out.bw) (HBV.out.below HL9.out.bw) (Nat.le_trans vk.nc vk.cm) (Nat.le_trans vv.nc vv.cm) (by unfold maxLen; omega) (by unfold maxLen; omega)
    rw [Hr.out] at ks
    clear vk vv g9 B9 HL8 kp
    go_wp2_with fail
    clear G0 G1
    refine ks.mono ?_
    rintro e w10 ⟨rfl, g10⟩
    have HLT := hid (HL9.out.on g10)
    clear ks g10 HL9
    have HZ := hid (HM2.out.kept HLT.out.bw)
    have d0 := HLT.out.lm.c0
    have d1 := HLT.out.lm.c1
    have d2 := HLT.out.lm.c2
    have d3 := HLT.out.lm.c3
    have d4 := HLT.out.lm.c4
    have d5 := HLT.out.lm.c5
    have d6 := HLT.out.lm.c6
    have d7 := HLT.out.lm.c7
    have e1 := HE1.out
    have e2 := HE2.out
    have HBX := hid (bel_bel HBA.out HBA.out.size HLT.out.bw)
    cases b1 <;> cases b2 <;> cases r <;> simp only [if_true, if_false, Bool.false_eq_true] at e1 e2 <;> subst e1 e2
    case true.true.true =>
      clear HE1 HE2
      go_wp2_with (refine wpList_sln rfl rfl _ _ rfl (w.heap.size + 1) a2 32 c2 S C N D E s n rfl rfl (by with_reducible exact HZ.out) ?_)
      refine bodyPost_ret (v := .tuple #[.agg #[.slice a2 32 c2, .int .i64 S, .int .i64 C, .int .i64 N, .int .u64 D, .int .u64 E, .int .i64 s, .int .i64 n], .int .i64 0]) ?_ rfl ⟨⟨a2, c2, ?_⟩, bel_row HBX.out (Nat.le_succ _) _⟩
      · exact results_ln rfl _ _ (w.heap.size + 1) a2 32 c2 S C N D E s n _ rfl rfl (HZ.out.row a2 32 c2 S C N D E s n)
      · have hy : yok k v = true := HY.out
        rw [hy, HS.out, HC.out, HN.out, HD.out, HE.out, Hs.out, Hn.out, if_pos rfl]
        refine ⟨rfl, ?_⟩
        exact (HLT.out.vs.step fun x _ hV _ => setRow_other _ _ _ _ (by have := HWS.out; omega)).wide fun x _ hx => by have := HWS.out; omega
    all_goals
      clear HE1 HE2
      go_wp2_with (refine wpList_sln rfl rfl _ _ rfl (w.heap.size + 1) none 0 0 0 0 0 0 0 0 0 rfl rfl (by with_reducible exact HZ.out) ?_)
      refine bodyPost_ret (v := .tuple #[.agg #[.slice none 0 0, .int .i64 0, .int .i64 0, .int .i64 0, .int .u64 0, .int .u64 0, .int .i64 0, .int .i64 0], .int .i64 114]) ?_ rfl ⟨⟨none, 0, ?_⟩, bel_row HBX.out (Nat.le_succ _) _⟩
      · exact results_ln rfl _ _ (w.heap.size + 1) none 0 0 0 0 0 0 0 0 0 _ rfl rfl (HZ.out.row none 0 0 0 0 0 0 0 0 0)
      · have hy : yok k v = false := HY.out
        rw [hy]
        exact rfl
  · have L : Lf W ((((((((w2.setCell ⟨W.heap.size, 0, none⟩ (.slice a2 32 c2)).setCell ⟨W.heap.size, 1, none⟩ (.int .i64 S)).setCell ⟨W.heap.size, 2, none⟩ (.int .i64 0)).setCell ⟨W.heap.size, 3, none⟩ (.int .i64 0)).setCell ⟨W.heap.size, 4, none⟩ (.int .u64 0)).setCell ⟨W.heap.size, 5, none⟩ (.int .u64 0)).setCell ⟨W.heap.size, 6, none⟩ (.int .i64 0)).setCell ⟨W.heap.size, 7, none⟩ (.int .i64 0)) W.heap.size a2 c2 (k.drop 1) S 0 0 0 0 0 0 := by
      refine ⟨HL2.out.set8 a2 32 c2 S 0 0 0 0 0 0, set8_bel HG2.out (Nat.le_refl _) _ _ _ _ _ _ _ _, ?_, Nat.le_refl _⟩
      exact (HO2.out.wide (V' := fun x => W.heap.size ≤ x ∧ x ≠ W.heap.size) fun x hx h => (by have h2 : W.heap.size + 1 ≤ x := (by simpa using h); exact ⟨by omega, by omega⟩)).step fun x hx hV _ => set8_other hV.2 _ _ _ _ _ _ _ _
    have HSB := hid hSb
    have HL := hid L
    generalize ((((((((w2.setCell ⟨W.heap.size, 0, none⟩ (.slice a2 32 c2)).setCell ⟨W.heap.size, 1, none⟩ (.int .i64 S)).setCell ⟨W.heap.size, 2, none⟩ (.int .i64 0)).setCell ⟨W.heap.size, 3, none⟩ (.int .i64 0)).setCell ⟨W.heap.size, 4, none⟩ (.int .u64 0)).setCell ⟨W.heap.size, 5, none⟩ (.int .u64 0)).setCell ⟨W.heap.size, 6, none⟩ (.int .i64 0)).setCell ⟨W.heap.size, 7, none⟩ (.int .i64 0)) = X at HL ⊢
    obtain ⟨G, HGe⟩ : ∃ G, Hid (W.heap.size = G) := ⟨_, rfl⟩
    rw [HGe.out] at HL ⊢
    clear z0 z1 z2 z3 z4 z5 z6 z7 f0 f1 f2 f3 f4 f5 f6 f7 HL2
    clear L HO2 HG2 HG3 u0 u1 u2 BW0 BW1 y2 x0 x1 x2 hwS hSb hkc HDB kby
    have HBV := hid (HV.out.below HBA.out)
    have bC := rdN_bound HV.out.2.1 1 4
    have bN := rdN_bound HV.out.2.1 5 4
    have bD := rdN_bound HV.out.2.1 9 8
    have bE := rdN_bound HV.out.2.1 17 8
    have kr1 := fun wx (h : Bw W wx) => rread15_ (some ⟨vb, vo, none⟩) 37 vc 1 4 v wx (HBV.out.below h) (by unfold maxLen; omega) (by omega) (by omega)
    have kr2 := fun wx (h : Bw W wx) => rread15_ (some ⟨vb, vo, none⟩) 37 vc 5 4 v wx (HBV.out.below h) (by unfold maxLen; omega) (by omega) (by omega)
    have kr3 := fun wx (h : Bw W wx) => rread15_ (some ⟨vb, vo, none⟩) 37 vc 9 8 v wx (HBV.out.below h) (by unfold maxLen; omega) (by omega) (by omega)
    have kr4 := fun wx (h : Bw W wx) => rread15_ (some ⟨vb, vo, none⟩) 37 vc 17 8 v wx (HBV.out.below h) (by unfold maxLen; omega) (by omega) (by omega)
    obtain ⟨C, HC⟩ : ∃ x, Hid (rdN v 1 4 = x) := ⟨_, rfl⟩
    obtain ⟨N, HN⟩ : ∃ x, Hid (rdN v 5 4 = x) := ⟨_, rfl⟩
    obtain ⟨D, HD⟩ : ∃ x, Hid (rdN v 9 8 = x) := ⟨_, rfl⟩
    obtain ⟨E, HE⟩ : ∃ x, Hid (rdN v 17 8 = x) := ⟨_, rfl⟩
    rw [HC.out] at bC kr1
    rw [HN.out] at bN kr2
    rw [HD.out] at bD kr3
    rw [HE.out] at bE kr4
    have Y1 := Bw.cell HL.out.bw y1
    go_wp2_with fail
    refine (kr1 _ HL.out.bw).mono ?_
    rintro e wy ⟨rfl, hw⟩
    rw [hw]
    clear hw wy kr1
    have hwC := wr64 bC
    have p2 := HL.out.lm.c2
    have f2 := HL.out.lm.fz 2
    have HL2 := hid (HL.out.p2 C)
    have Y2 := Bw.cell HL2.out.bw y1
    clear Y1
    go_wp2_with fail
    clear p2 f2 Y2 hwC HL
    refine (kr2 _ HL2.out.bw).mono ?_
    rintro e wy ⟨rfl, hw⟩
    rw [hw]
    clear hw wy kr2
    have hwN := wr64 bN
    have p3 := HL2.out.lm.c3
    have f3 := HL2.out.lm.fz 3
    have HL3 := hid (HL2.out.p3 N)
    have Y3 := Bw.cell HL3.out.bw y1
    go_wp2_with fail
    clear p3 f3 Y3 hwN HL2
    refine (kr3 _ HL3.out.bw).mono ?_
    rintro e wy ⟨rfl, hw⟩
    rw [hw]
    clear hw wy kr3
    have p4 := HL3.out.lm.c4
    have f4 := HL3.out.lm.fz 4
    have HL4 := hid (HL3.out.p4 D)
    have Y4 := Bw.cell HL4.out.bw y1
    go_wp2_with fail
    clear p4 f4 Y4 HL3
    refine (kr4 _ HL4.out.bw).mono ?_
    rintro e wy ⟨rfl, hw⟩
    rw [hw]
    clear hw wy kr4
    have p5 := HL4.out.lm.c5
    have f5 := HL4.out.lm.fz 5
    have HL5 := hid (HL4.out.p5 E)
    have Y5 := Bw.cell HL5.out.bw y1
    go_wp2_with fail
    clear p5 f5 Y5 HL4
    generalize ((((X.setCell ⟨G, 2, none⟩ (.int .i64 C)).setCell ⟨G, 3, none⟩ (.int .i64 N)).setCell ⟨G, 4, none⟩ (.int .u64 D)).setCell ⟨G, 5, none⟩ (.int .u64 E)) = X5 at HL5 ⊢
    clear X
    have kg := refGet_ (some ⟨vb, vo + 25, none⟩) 12 (vc - 25) (v.drop 25) X5 ((bs_rest (c := 0) HBV.out (by omega)).below HL5.out.bw) (by unfold maxLen; omega)
    have bq := q_bound (fun z hz => HV.out.2.1 z (List.mem_of_mem_drop hz) : ∀ z ∈ v.drop 25, 0 ≤ z ∧ z ≤ 255)
    obtain ⟨s, Hs⟩ : ∃ x, Hid (qs (v.drop 25) = x) := ⟨_, rfl⟩
    obtain ⟨n, Hn⟩ : ∃ x, Hid (qn (v.drop 25) = x) := ⟨_, rfl⟩
    obtain ⟨f, Hf⟩ : ∃ x, Hid (qe (v.drop 25) = x) := ⟨_, rfl⟩
    rw [Hs.out, Hn.out, Hf.out] at kg
    rw [Hs.out, Hn.out] at bq
    refine kg.mono ?_
    rintro e w6 ⟨rfl, g6⟩
    have HL6 := hid ((HL5.out.on g6).on (snew1 w6 s n))
    clear kg g6 HL5
    have p6 := HL6.out.lm.c6
    have p7 := HL6.out.lm.c7
    have f6 := HL6.out.lm.fz 6
    have f7 := HL6.out.lm.fz 7
    have HL8 := hid ((HL6.out.p6 s).p7 n)
    have d0 := HL8.out.lm.c0
    have d1 := HL8.out.lm.c1
    have d2 := HL8.out.lm.c2
    have d3 := HL8.out.lm.c3
    have d4 := HL8.out.lm.c4
    have d5 := HL8.out.lm.c5
    have d6 := HL8.out.lm.c6
    have d7 := HL8.out.lm.c7
    go_wp2_with fail
    clear d0 d1 d2 d3 d4 d5 d6 d7 p6 p7 f6 f7 HL6
    generalize (((w6.alloc (.cells #[.int .i64 s, .int .i64 n] 62)).setCell ⟨G, 6, none⟩ (.int .i64 s)).setCell ⟨G, 7, none⟩ (.int .i64 n)) = X8 at HL8 ⊢
    have hS64 : i64r S := by unfold i64r; have := HSB.out; omega
    have hC64 : i64r C := by unfold i64r; omega
    have hN64 : i64r N := by unfold i64r; omega
    have hD64 : u64r D := by unfold u64r; omega
    have hE64 : u64r E := by unfold u64r; omega
    have kp := rputLane_ a2 32 c2 (k.drop 1) S C N D E s n X8 HL8.out.vs.bs (by unfold maxLen; omega) hS64 hC64 hN64 hD64 hE64 bq.1 bq.2
    clear hS64 hC64 hN64 hD64 hE64 bq
    obtain ⟨b1, Hb1⟩ : ∃ x, Hid (lok 32 S C N s n = x) := ⟨_, rfl⟩
    obtain ⟨b2, Hb2⟩ : ∃ x, Hid (gok (v.drop 25) = x) := ⟨_, rfl⟩
    obtain ⟨RK, HRK⟩ : ∃ x, Hid (lRK (k.drop 1) S C N s n = x) := ⟨_, rfl⟩
    obtain ⟨RV, HRV⟩ : ∃ x, Hid (lRV (k.drop 1) S C N D E s n = x) := ⟨_, rfl⟩
    obtain ⟨RE, HRE⟩ : ∃ x, Hid (lRE (k.drop 1) S C N s n = x) := ⟨_, rfl⟩
    obtain ⟨r, Hr⟩ : ∃ x, Hid ((sameB RK k && sameB RV v) = x) := ⟨_, rfl⟩
    have hd1 : (k.drop 1).length = 32 := by rw [List.length_drop, HK.out.1]
    have HE1 : Hid (RE = if b1 then 0 else 114) := by show _ = _; rw [← HRE.out, ← Hb1.out]; unfold lRE; rw [hd1]
    have HE2 : Hid (f = if b2 then 0 else 60) := by show _ = _; rw [← Hf.out, ← Hb2.out]; rfl
    have HY : Hid (yok k v = (b1 && (b2 && r))) := by
      show _ = _
      unfold yok
      rw [HS.out, HC.out, HN.out, HD.out, HE.out, Hs.out, Hn.out, Hb1.out, Hb2.out, decide_eq_true ⟨HK.out.1, HV.out.1⟩, Bool.true_and]
      cases b1
      · rfl
      · have e1 : RK = lK (yK k) := by rw [← HRK.out]; unfold lRK; rw [hd1, Hb1.out]; rfl
        have e2 : RV = lV S C N D E s n := by rw [← HRV.out]; unfold lRV; rw [hd1, Hb1.out]; rfl
        rw [← Hr.out, e1, e2]
    rw [HRK.out, HRV.out, HRE.out] at kp
    refine kp.mono ?_
    rintro e w9 ⟨pa, pc, qa, qc, rfl, vk, vv, g9⟩
    obtain ⟨pk, Hpk⟩ : ∃ x : Nat, Hid (RK.length = x) := ⟨_, rfl⟩
    obtain ⟨pv, Hpv⟩ : ∃ x : Nat, Hid (RV.length = x) := ⟨_, rfl⟩
    rw [Hpk.out] at vk
    rw [Hpv.out] at vv
    rw [Hpk.out, Hpv.out]
    have B9 : Below w9.heap.size w9 (w9.alloc (.cells #[.slice pa pk pc, .slice qa pv qc] 54)) := (Below.refl _ _).alloc (Nat.le_refl _) _
    have HL9 := hid ((HL8.out.on g9).on B9)
    have G0 := Bw.cell HL9.out.bw y0
    have G1 := Bw.cell HL9.out.bw y1
    have ks := sameRow_ pa qa (some ⟨kb, ko, none⟩) (some ⟨vb, vo, none⟩) pk pc pv qc 33 kc 37 vc RK RV k v _ (vk.bs.below B9) (vv.bs.below B9) ((HK.out.below HBA.out).below HL9.out.bw) (HBV.out.below HL9.out.bw) (Nat.le_trans vk.nc vk.cm) (Nat.le_trans vv.nc vv.cm) (by unfold maxLen; omega) (by unfold maxLen; omega)
    rw [Hr.out] at ks
    clear vk vv g9 B9 HL8 kp
    go_wp2_with fail
    clear G0 G1
    refine ks.mono ?_
    rintro e w10 ⟨rfl, g10⟩
    have HLT := hid (HL9.out.on g10)
    clear ks g10 HL9
    have HZ := hid (HM2.out.kept HLT.out.bw)
    have d0 := HLT.out.lm.c0
    have d1 := HLT.out.lm.c1
    have d2 := HLT.out.lm.c2
    have d3 := HLT.out.lm.c3
    have d4 := HLT.out.lm.c4
    have d5 := HLT.out.lm.c5
    have d6 := HLT.out.lm.c6
    have d7 := HLT.out.lm.c7
    have e1 := HE1.out
    have e2 := HE2.out
    have HBX := hid (bel_bel HBA.out HBA.out.size HLT.out.bw)
    cases b1 <;> cases b2 <;> cases r <;> simp only [if_true, if_false, Bool.false_eq_true] at e1 e2 <;> subst e1 e2
    case true.true.true =>
      clear HE1 HE2
      go_wp2_with (refine wpList_sln rfl rfl _ _ rfl (w.heap.size + 1) a2 32 c2 S C N D E s n rfl rfl (by with_reducible exact HZ.out) ?_)
      refine bodyPost_ret (v := .tuple #[.agg #[.slice a2 32 c2, .int .i64 S, .int .i64 C, .int .i64 N, .int .u64 D, .int .u64 E, .int .i64 s, .int .i64 n], .int .i64 0]) ?_ rfl ⟨⟨a2, c2, ?_⟩, bel_row HBX.out (Nat.le_succ _) _⟩
      · exact results_ln rfl _ _ (w.heap.size + 1) a2 32 c2 S C N D E s n _ rfl rfl (HZ.out.row a2 32 c2 S C N D E s n)
      · have hy : yok k v = true := HY.out
        rw [hy, HS.out, HC.out, HN.out, HD.out, HE.out, Hs.out, Hn.out, if_pos rfl]
        refine ⟨rfl, ?_⟩
        exact (HLT.out.vs.step fun x _ hV _ => setRow_other _ _ _ _ (by have := HWS.out; omega)).wide fun x _ hx => by have := HWS.out; omega
    all_goals
      clear HE1 HE2
      go_wp2_with (refine wpList_sln rfl rfl _ _ rfl (w.heap.size + 1) none 0 0 0 0 0 0 0 0 0 rfl rfl (by with_reducible exact HZ.out) ?_)
      refine bodyPost_ret (v := .tuple #[.agg #[.slice none 0 0, .int .i64 0, .int .i64 0, .int .i64 0, .int .u64 0, .int .u64 0, .int .i64 0, .int .i64 0], .int .i64 114]) ?_ rfl ⟨⟨none, 0, ?_⟩, bel_row HBX.out (Nat.le_succ _) _⟩
      · exact results_ln rfl _ _ (w.heap.size + 1) none 0 0 0 0 0 0 0 0 0 _ rfl rfl (HZ.out.row none 0 0 0 0 0 0 0 0 0)
      · have hy : yok k v = false := HY.out
        rw [hy]
        exact rfl
end Go.Proofs.YtcbmgpmjnehjdaaGreat
