import Derived.Test.YtohfdkhlpghbcaaSJ
import Derived.Test.YtohfdkhlpghbcaaSI
import Derived.Test.YtohfdkhlpghbcaaRY
namespace Go.Proofs.Ytohfdkhlpghbcaa
set_option maxRecDepth 100000
open Go.RowKit
set_option linter.unusedVariables false

/-- readPeer on its way: the peer that is filled, the answer's room, the key's bytes, the prefixes. -/
structure Rq (w0 X : World) (rk rv gg : Nat) (a : Option Addr) (m : Nat) (kb : List Int) (K : Int) (pa : Option Addr) (n d : Nat) (ps : List Px) : Prop where
  res : Pe X w0.heap.size 0 none 0 0 none 0 0
  pe : Pe X (w0.heap.size + 1) K a m m pa n d
  ky : Lies X gg a m m kb
  po : Po X (w0.heap.size + 2) (.slice pa n d) ps
  bel : Below rk w0 X
  fr : ∀ x, x < w0.heap.size → x ≠ rk → x ≠ rv → X.heap[x]? = w0.heap[x]?
  o2 : rk < rv
  o3 : rv < w0.heap.size
  o4 : gg < rv
  sz : w0.heap.size + 2 ≤ X.heap.size
section
variable {w0 X X' : World} {rk rv gg : Nat} {a : Option Addr} {m : Nat} {kb : List Int} {K : Int} {pa : Option Addr} {n d : Nat} {ps : List Px}
theorem Rq.on (h : Rq w0 X rk rv gg a m kb K pa n d ps) (hb : Below X.heap.size X X') : Rq w0 X' rk rv gg a m kb K pa n d ps :=
  ⟨h.res.kept hb, h.pe.kept hb, h.ky.kept fun hg => hb.block _ hg, h.po.bel hb, bel_bel h.bel (by have := h.sz; have := h.o2; have := h.o3; omega) hb, fun x h1 h2 h3 => (hb.block x (by have := h.sz; omega)).trans (h.fr x h1 h2 h3), h.o2, h.o3, h.o4, Nat.le_trans h.sz hb.size⟩
theorem Rq.pe5 {w5 : World} (h : Rq w0 X rk rv gg a m kb K pa n d ps) (hg : X.grownBy w5 (Value.slice pa n d).ownBlock) : Pe w5 (w0.heap.size + 1) K a m m pa n d :=
  h.pe.at (hg.block _ (by have := h.sz; omega) (fun e => by have := (h.po.own.lt _ e.symm).1; omega))
/-- One prefix more. -/
theorem Rq.more {w5 : World} {pb : Option Addr} {n' d' : Nat} {ps' : List Px} (h : Rq w0 X rk rv gg a m kb K pa n d ps) (hg : X.grownBy w5 (Value.slice pa n d).ownBlock) (ho : Po w5 (w0.heap.size + 2) (.slice pb n' d') ps') : Rq w0 (w5.setCell ⟨w0.heap.size + 1, 2, none⟩ (.slice pb n' d')) rk rv gg a m kb K pb n' d' ps' := by
  have hbk : ∀ x, x < w0.heap.size + 2 → w5.heap[x]? = X.heap[x]? := fun x hx => hg.block x (by have := h.sz; omega) (fun e => by
    have := (h.po.own.lt x e.symm).1
    omega)
  have hset : ∀ x, x ≠ w0.heap.size + 1 → (w5.setCell ⟨w0.heap.size + 1, 2, none⟩ (.slice pb n' d')).heap[x]? = w5.heap[x]? := fun x hx => Below.heap_setCell _ _ _ _ hx
  have o2 := h.o2
  have o3 := h.o3
  have o4 := h.o4
  have sz5 := hg.size
  have sz := h.sz
  refine ⟨h.res.at ((hset _ (by omega)).trans (hbk _ (by omega))), (h.pe.at (hbk _ (by omega))).s2 pb n' d', h.ky.kept fun _ => (hset _ (by omega)).trans (hbk _ (by omega)), ⟨?_, ho.ok⟩, ?_, fun x h1 h2 h3 => (hset x (by omega)).trans ((hbk x (by omega)).trans (h.fr x h1 h2 h3)), o2, o3, o4, by simp [World.setCell]; omega⟩
  · refine ho.own.kept (set_by w5 (w0.heap.size + 1) 2 (.slice pb n' d')) ?_
    rcases pb with _ | ad
    · exact .inl rfl
    · refine .inr fun e => ?_
      have := (ho.own.lt ad.block rfl).1
      simp [Value.ownBlock] at e
      omega
  · have hB : Below rk X w5 := (Below.refl rk X).grown hg (by omega) (fun p hp => by have := (h.po.own.lt p hp).1; omega)
    exact (h.bel.trans hB).setCell (p := ⟨w0.heap.size + 1, 2, none⟩) (by show rk ≤ w0.heap.size + 1; omega) _
end
theorem vs_cut {w : World} {V : Nat → Prop} {a : Option Addr} {n c q : Nat} {zs : List Int} (h : Vs w V a n c zs) (hq : q ≤ n) : Vs w V (if c = q then a else Option.map (fun x => x.add q) a) (n - q) (c - q) (zs.drop q) := by
  have hnc := h.nc
  have hl := h.bs.1
  by_cases h0 : n - q = 0
  · refine ⟨⟨by rw [List.length_drop]; omega, fun z hz => h.bs.2.1 z (List.mem_of_mem_drop hz), .inl h0⟩, by omega, Nat.le_trans (Nat.sub_le _ _) h.cm, fun e => ?_, fun ad e hn => by omega⟩
    split at e
    · omega
    · cases a with
      | none => have := h.nil rfl; omega
      | some x => simp at e
  · rw [if_neg (by omega)]
    rcases h.bs.2.2 with e0 | ⟨b, off, rfl, hc⟩
    · omega
    · refine ⟨⟨by rw [List.length_drop]; omega, fun z hz => h.bs.2.1 z (List.mem_of_mem_drop hz), .inr ⟨b, off + q, by simp [Addr.add], fun i hi => ?_⟩⟩, by omega, Nat.le_trans (Nat.sub_le _ _) h.cm, fun e => by simp at e, fun ad e hn => ?_⟩
      · have := hc (q + i) (by omega)
        rw [show off + q + i = off + (q + i) from by omega, this]
        simp only [List.getD, List.getElem?_drop]
      · obtain rfl := Option.some.inj e
        have := h.lies ⟨b, off, none⟩ rfl (by omega)
        simp only [Addr.add_lit]
        exact this
set_option maxHeartbeats 4000000 in
/-- The landed readPeer. -/
theorem readPeer_ (rk gk' rv gg : Nat) (k v : List Int) (w : World) (hk : RS w rk gk' k 0 0) (hv : RS w rv gg v 0 0) (h1 : k.length ≤ 140737488351232) (h2 : v.length ≤ 140737488351232) (b1 : Okb k) (b2 : Okb v) (o1 : gk' < rk) (o2 : rk < rv) (o4 : gg < rv) (o5 : gg ≠ rk) :
    Calls Try.prog 39 #[.pointer (some ⟨rk, 0, none⟩), .pointer (some ⟨rv, 0, none⟩)] w fun e w' => ∃ a pa d, e = .returned (.agg #[.int .i64 (wK k), .slice a (wk v).length (wk v).length, .slice pa (wP v).length d]) ∧ Lies w' gg a (wk v).length (wk v).length (wk v) ∧ Pv w' (fun x => w.heap.size + 2 ≤ x) pa (wP v).length d (wP v) ∧ Below rk w w' ∧ ∀ x, x < w.heap.size → x ≠ rk → x ≠ rv → w'.heap[x]? = w.heap[x]? := by
  have o3 := hv.lt
  have ks := fun wx hx => skipMark_ rk gk' k 0 0 wx hx h1 (by omega)
  have q1 := gp_in (W := 1) (l := k) (e := 0) (p := 0) (m := 0) (by omega)
  have g1 := gl_sub (W := 1) (e := 0) b1
  have kg := fun wx hx => getAny32 rk gk' (gl 1 k 0) (gp 1 k 0 0) (ge 1 k 0) wx hx (by have := g1.2; omega) (by omega)
  have x1 := gvIn32 (e := ge 1 k 0) g1.1
  have HKE : Hid (gv 4 (gl 1 k 0) (ge 1 k 0) = wK k) := rfl
  rw [HKE.out] at kg x1
  generalize wK k = K at *
  have kb := fun wx hx => bytesAny rv gg 32 v 0 0 wx hx h2 (by omega)
  have HBE : Hid (bz 32 v 0 = wk v) := rfl
  rw [HBE.out] at kb
  have q2 := gp_in (W := 32) (l := v) (e := 0) (p := 0) (m := 0) (by omega)
  have f1 := gl_sub (W := 32) (e := 0) b2
  have kc := fun wx hx => getAny8 rv gg (gl 32 v 0) (gp 32 v 0 0) (ge 32 v 0) wx hx (by have := f1.2; omega) (by omega)
  have q3 := gp_in (W := 1) (l := gl 32 v 0) (e := ge 32 v 0) (p := gp 32 v 0 0) (m := 0 + 32) q2
  have f2 := gl_sub (W := 1) (e := ge 32 v 0) f1.1
  have x2 := gvIn8 (e := ge 32 v 0) f1.1
  have HCE : Hid (gv 1 (gl 32 v 0) (ge 32 v 0) = wn v ∧ gl 1 (gl 32 v 0) (ge 32 v 0) = wl v ∧ ge 1 (gl 32 v 0) (ge 32 v 0) = we v) := ⟨rfl, rfl, rfl⟩
  rw [HCE.out.1, HCE.out.2.1, HCE.out.2.2] at kc
  rw [HCE.out.1] at x2
  rw [HCE.out.2.1] at f2
  obtain ⟨P2, HP2⟩ : ∃ z, Hid (gp 1 (gl 32 v 0) (ge 32 v 0) (gp 32 v 0 0) = z) := ⟨_, rfl⟩
  rw [HP2.out] at q3 kc
  have kf := fun wx hx => leftAny rv gg (wl v) P2 (we v) wx hx
  have HLE : Hid (ln (wl v) (we v) ≤ (wl v).length) := by show _ ≤ _; unfold ln; split <;> omega
  have kh := fun wx hx => bytesAny rv gg (ln (wl v) (we v)) (wl v) P2 (we v) wx hx (by have := f1.2; have := f2.2; omega) (by omega)
  have HRE : Hid (bz (ln (wl v) (we v)) (wl v) (we v) = wR v) := rfl
  have HRB : Hid (Okb (wR v)) := bz_ok f2.1
  have HRL : Hid ((wR v).length ≤ 140737488351232) := by
    show _ ≤ _
    have h := @bz_len (ln (wl v) (we v)) (wl v) (we v)
    rw [HRE.out] at h
    have := HLE.out
    have := f1.2
    have := f2.2
    omega
  rw [HRE.out] at kh
  have HPS : Hid (wP v = cpl (wR v) (wn v).toNat) := rfl
  rw [HPS.out]
  obtain ⟨KB, hKB⟩ : ∃ x, wk v = x := ⟨_, rfl⟩
  obtain ⟨kl, HKL⟩ : ∃ n : Nat, Hid (KB.length = n) := ⟨_, rfl⟩
  obtain ⟨R, hR⟩ : ∃ x, wR v = x := ⟨_, rfl⟩
  obtain ⟨cn, hcn⟩ : ∃ n : Nat, wn v = n := ⟨(wn v).toNat, by omega⟩
  simp only [hKB, HKL.out] at kb ⊢
  rw [hcn] at kc x2
  rw [hcn, hR, Int.toNat_natCast, cpl_length]
  rw [hR] at kh HRB HRL
  clear HKE HBE HCE HP2 HRE HPS hKB hR hcn b1 b2 g1 f1 f2
  generalize ln (wl v) (we v) = nl at *
  generalize wl v = L1 at *
  generalize we v = E1 at *
  generalize gl 1 k 0 = k1 at *
  generalize gp 1 k 0 0 = p1 at *
  generalize ge 1 k 0 = e1 at *
  generalize gl 32 v 0 = L0 at *
  generalize gp 32 v 0 0 = P0 at *
  generalize ge 32 v 0 = E0 at *
  generalize gl 4 k1 e1 = k2 at *
  generalize gp 4 k1 e1 p1 = p2 at *
  generalize ge 4 k1 e1 = e2 at *
  have B0 : Below w.heap.size w ((w.alloc (.cells #[.int .i64 0, .slice none 0 0, .slice none 0 0] 25)).alloc (.cells #[.int .i64 0, .slice none 0 0, .slice none 0 0] 25)) := ((Below.refl _ _).alloc (Nat.le_refl _) _).alloc (by simp) _
  have m0 := (Pe.new w 0 none 0 0 none 0 0).kept ((Below.refl _ _).alloc (Nat.le_refl _) (.cells #[.int .i64 0, .slice none 0 0, .slice none 0 0] 25))
  have m1 := Pe.new (w.alloc (.cells #[.int .i64 0, .slice none 0 0, .slice none 0 0] 25)) 0 none 0 0 none 0 0
  rw [World.size_alloc] at m1
  have hsz : ((w.alloc (.cells #[.int .i64 0, .slice none 0 0, .slice none 0 0] 25)).alloc (.cells #[.int .i64 0, .slice none 0 0, .slice none 0 0] 25)).heap.size = w.heap.size + 2 := by simp
  have HSZ := hid hsz
  have sk := hk.kept B0
  have sv := hv.kept B0
  have HB0 := hid B0
  have HM0 := hid m0
  have HM1 := hid m1
  clear hk hv B0 m0 m1 hsz
  go_enter Try.func39, Try.ntmps39
  go_wp2_with fail
  refine (ks _ sk).mono ?_
  rintro e w1 ⟨rfl, sk1, g1⟩
  have HSK := hid sk1
  have HSV := hid (sv.only g1 (by omega) o5)
  have HM2 := hid (HM0.out.at (g1.block w.heap.size (by omega)))
  have HM3 := hid (HM1.out.at (g1.block (w.heap.size + 1) (by omega)))
  have HB1 : Hid (Below rk w w1) := bel_only (HB0.out.mono (by omega)) g1 (Nat.le_refl _)
  have HF1 : Hid (∀ x, x < w.heap.size → x ≠ rk → x ≠ rv → w1.heap[x]? = w.heap[x]?) := fun x a1 a2 a3 => (g1.block x a2).trans (HB0.out.block x a1)
  have HZ1 : Hid (w1.heap.size = w.heap.size + 2) := g1.size.trans HSZ.out
  clear sk1 g1 sk sv ks HM0 HM1 HB0 HSZ
  go_wp2_with fail
  refine (kg _ HSK.out).mono ?_
  rintro e w2 ⟨rfl, sk2, g2⟩
  have s2 := HSV.out.only g2 (by omega) o5
  have n0 := HM2.out.at (g2.block w.heap.size (by omega))
  have n1 := HM3.out.at (g2.block (w.heap.size + 1) (by omega))
  have c0 := n1.c0
  have f0 := n1.fz 0
  have hb : ∀ x, x ≠ w.heap.size + 1 → (w2.setCell ⟨w.heap.size + 1, 0, none⟩ (.int .i64 K)).heap[x]? = w2.heap[x]? := fun x hx => Below.heap_setCell _ _ _ _ hx
  have HM4 := hid (n0.at (hb _ (by omega)))
  have HM5 := hid (n1.s0 K)
  have HSV2 := hid (s2.other hb (by omega) (by omega))
  have HB2 : Hid (Below rk w (w2.setCell ⟨w.heap.size + 1, 0, none⟩ (.int .i64 K))) := (bel_only HB1.out g2 (Nat.le_refl _)).setCell (p := ⟨w.heap.size + 1, 0, none⟩) (by show rk ≤ w.heap.size + 1; omega) _
  have HF2 : Hid (∀ x, x < w.heap.size → x ≠ rk → x ≠ rv → (w2.setCell ⟨w.heap.size + 1, 0, none⟩ (.int .i64 K)).heap[x]? = w.heap[x]?) := fun x a1 a2 a3 => (hb x (by omega)).trans ((g2.block x a2).trans (HF1.out x a1 a2 a3))
  have HZ2 : Hid ((w2.setCell ⟨w.heap.size + 1, 0, none⟩ (.int .i64 K)).heap.size = w.heap.size + 2) := by show _ = _; simp [World.setCell]; exact g2.size.trans HZ1.out
  clear sk2 g2 s2 n0 n1 hb kg HSK HSV HM2 HM3 HB1 HF1 HZ1
  go_wp2_with fail
  clear c0 f0
  generalize (w2.setCell ⟨w.heap.size + 1, 0, none⟩ (.int .i64 K)) = X2 at *
  refine (kb _ HSV2.out).mono ?_
  rintro e w3 ⟨a, rfl, l3, s3, g3⟩
  have n0 := HM4.out.at (g3.block w.heap.size (by omega))
  have n1 := HM5.out.at (g3.block (w.heap.size + 1) (by omega))
  have c1 := n1.c1
  have f1 := n1.fz 1
  have hb : ∀ x, x ≠ w.heap.size + 1 → (w3.setCell ⟨w.heap.size + 1, 1, none⟩ (.slice a kl kl)).heap[x]? = w3.heap[x]? := fun x hx => Below.heap_setCell _ _ _ _ hx
  have HM6 := hid (n0.at (hb _ (by omega)))
  have HM7 := hid (n1.s1 a kl kl)
  have HSV3 := hid (s3.other hb (by omega) (by omega))
  have HKY := hid (l3.kept fun _ => hb _ (by omega))
  have HB3 : Hid (Below rk w (w3.setCell ⟨w.heap.size + 1, 1, none⟩ (.slice a kl kl))) := (bel_only HB2.out g3 (by omega)).setCell (p := ⟨w.heap.size + 1, 1, none⟩) (by show rk ≤ w.heap.size + 1; omega) _
  have HF3 : Hid (∀ x, x < w.heap.size → x ≠ rk → x ≠ rv → (w3.setCell ⟨w.heap.size + 1, 1, none⟩ (.slice a kl kl)).heap[x]? = w.heap[x]?) := fun x a1 a2 a3 => (hb x (by omega)).trans ((g3.block x a3).trans (HF2.out x a1 a2 a3))
  have HZ3 : Hid ((w3.setCell ⟨w.heap.size + 1, 1, none⟩ (.slice a kl kl)).heap.size = w.heap.size + 2) := by show _ = _; simp [World.setCell]; exact g3.size.trans HZ2.out
  clear g3 l3 s3 n0 n1 hb kb HSV2 HM4 HM5 HB2 HF2 HZ2
  go_wp2_with fail
  clear c1 f1
  generalize (w3.setCell ⟨w.heap.size + 1, 1, none⟩ (.slice a kl kl)) = X3 at *
  refine (kc _ HSV3.out).mono ?_
  rintro e w4 ⟨rfl, s4, g4⟩
  have HM8 := hid (HM6.out.at (g4.block w.heap.size (by omega)))
  have HM9 := hid (HM7.out.at (g4.block (w.heap.size + 1) (by omega)))
  have HKY4 := hid (HKY.out.kept fun _ => g4.block _ (by omega))
  have HB4 : Hid (Below rk w w4) := bel_only HB3.out g4 (by omega)
  have HF4 : Hid (∀ x, x < w.heap.size → x ≠ rk → x ≠ rv → w4.heap[x]? = w.heap[x]?) := fun x a1 a2 a3 => (g4.block x a3).trans (HF3.out x a1 a2 a3)
  have HZ4 : Hid (w4.heap.size = w.heap.size + 2) := g4.size.trans HZ3.out
  have HSV4 := hid s4
  clear s4 g4 kc HM6 HM7 HKY HB3 HF3 HZ3 HSV3
  go_wp2_with fail
  refine (kf _ HSV4.out).mono ?_
  rintro e y ⟨rfl, hy⟩
  rw [hy]
  clear hy y kf
  go_wp2_with fail
  refine (kh _ HSV4.out).mono ?_
  rintro e w5 ⟨ra, rfl, l5, s5, g5⟩
  have HQ0 : Hid (Rq w w5 rk rv gg a kl KB K none 0 0 (cpl R 0)) := ⟨HM8.out.at (g5.block w.heap.size (by omega)), HM9.out.at (g5.block (w.heap.size + 1) (by omega)), HKY4.out.kept fun _ => g5.block _ (by omega), Po.nil _ _, bel_only HB4.out g5 (by omega), fun x a1 a2 a3 => (g5.block x a3).trans (HF4.out x a1 a2 a3), o2, o3, o4, by have := HZ4.out; have := g5.size; omega⟩
  have HV0 := hid (l5.vs (V := fun x => x = gg) fun _ => rfl)
  obtain ⟨rl, HRl⟩ : ∃ n : Nat, Hid (R.length = n) := ⟨_, rfl⟩
  rw [HRl.out] at HV0 ⊢
  clear l5 s5 g5 kh HM8 HM9 HKY4 HB4 HF4 HZ4 HSV4
  go_wp2_with fail
  have hc0 : (0 : Int) ≤ cn := by omega
  have hc1 : (cn : Int) ≤ 255 := x2.2
  go_loopw [7, 8, 9, 10, 27] (fun r _ _ _ i wr => ∃ j : Nat, j ≤ cn ∧ i = .int .u8 j ∧ (∃ ra rl rc pa n d, r = .slice ra rl rc ∧ Hid (Vs wr (fun x => x = gg) ra rl rc (crs R j)) ∧ Hid (Rq w wr rk rv gg a kl KB K pa n d (cpl R j)))) (fun _ _ _ _ i _ => cn - (intOf i).toNat)
  case atStart => exact ⟨0, by omega, rfl, ra, rl, rl, none, 0, 0, rfl, HV0, HQ0⟩
  case round =>
    clear HV0 HQ0
    obtain ⟨j, hj, rfl, ra, rl, rc, pa, n, d, rfl, HV, HQ⟩ := hrel
    by_cases hlt : j < cn
    · have hjI : (j : Int) < cn := by omega
      have hjm : (j : Int) + 1 < 256 := by omega
      have kg := pget_ ra rl rc (crs R j) wr HV.out.bs HV.out.nc HV.out.cm HV.out.nil (by have := HQ.out.sz; omega)
      have hqn := qN_in (crs R j)
      have HXE : Hid (qF (crs R j) = (gx (crs R j)).F ∧ qH (crs R j) = (gx (crs R j)).H ∧ qL (crs R j) = (gx (crs R j)).L ∧ qB (crs R j) = (gx (crs R j)).B) := ⟨rfl, rfl, rfl, rfl⟩
      rw [HXE.out.1, HXE.out.2.1, HXE.out.2.2.1, HXE.out.2.2.2] at kg
      have HXO : Hid ((gx (crs R j)).ok) := gx_ok (crs_byte HRB.out j)
      have HCS := hid (cpl_succ R j)
      have HCR : Hid (crs R (j + 1) = (crs R j).drop (qN (crs R j)).toNat) := rfl
      have HCL : Hid ((cpl R j).length ≤ 1000000) := by show _ ≤ _; rw [cpl_length]; omega
      obtain ⟨q, hq⟩ : ∃ q : Nat, qN (crs R j) = q := ⟨(qN (crs R j)).toNat, by omega⟩
      have hql : q ≤ rl := by have := HV.out.bs.1; have := hqn.2.1; omega
      have hq18 : (q : Int) ≤ 18 := by omega
      rw [hq] at kg HCR
      rw [Int.toNat_natCast] at HCR
      obtain ⟨x, HX⟩ : ∃ x, Hid (gx (crs R j) = x) := ⟨_, rfl⟩
      rw [HX.out] at kg HXO HCS
      obtain ⟨xF, xH, xL, xB⟩ := x
      simp only at kg
      obtain ⟨qe, hqe⟩ : ∃ z, qE (crs R j) = z := ⟨_, rfl⟩
      rw [hqe] at kg
      obtain ⟨L, HL⟩ : ∃ L, Hid (crs R j = L) := ⟨_, rfl⟩
      rw [HL.out] at HV HCR
      obtain ⟨PS, HPS⟩ : ∃ L, Hid (cpl R j = L) := ⟨_, rfl⟩
      rw [HPS.out] at HQ HCS HCL
      have HCU := hid (vs_cut HV.out hql)
      obtain ⟨a', ha'⟩ : ∃ a', (if rc = q then ra else Option.map (fun x => x.add q) ra) = a' := ⟨_, rfl⟩
      rw [ha'] at HCU
      have HRC := hid HV.out.nc
      have HRM := hid HV.out.cm
      clear hq hqe hqn HXE
      go_wp2_with fail
      refine kg.mono ?_
      rintro e y1 ⟨rfl, g1⟩
      have B1 := pnew y1 xF xH xL xB
      have HQ1 := hid ((HQ.out.on g1).on B1)
      have HV1 := hid (((HCU.out.wide (V' := fun x => x = gg) fun _ _ h => h).step fun x hx _ _ => g1.block x hx).step fun x hx _ _ => B1.block x hx)
      have m1 := Pm.new y1 xF xH xL xB
      have e2 := HQ1.out.pe.c2
      have c0 := m1.c0
      have c1 := m1.c1
      have c2 := m1.c2
      have c3 := m1.c3
      clear kg g1 B1 m1 HQ HV HCU
      obtain ⟨y2, HY2⟩ : ∃ y2, Hid (y1.alloc (.cells #[.int .i64 xF, .int .u64 xH, .int .u64 xL, .int .i64 xB] 74) = y2) := ⟨_, rfl⟩
      have HQ2 := hid (HQ1.out.on (pnew _ xF xH xL xB))
      have m2 := Pm.new (y1.alloc (.cells #[.int .i64 xF, .int .u64 xH, .int .u64 xL, .int .i64 xB] 74)) xF xH xL xB
      rw [World.size_alloc] at m2
      have HM2 := hid m2
      clear m2
      have HS2 : Hid (w.heap.size + 2 ≤ ((y1.alloc (.cells #[.int .i64 xF, .int .u64 xH, .int .u64 xL, .int .i64 xB] 74)).alloc (.cells #[.int .i64 xF, .int .u64 xH, .int .u64 xL, .int .i64 xB] 74)).heap.size) := HQ2.out.sz
      have rcI : (rl : Int) ≤ rc := by have := HRC.out; omega
      have rmI : (rc : Int) ≤ 9223372036854775807 := by have := HRM.out; unfold maxLen at this; omega
      have qlI : (q : Int) ≤ rl := by omega
      go_wp2_with (at_builtin; refine wpList_px rfl _ _ rfl (w.heap.size + 2) _ PS rfl (by exact HQ2.out.po) (y1.heap.size + 1) ⟨xF, xH, xL, xB⟩ rfl (by exact HM2.out) (by exact HXO.out) (by exact HCL.out) (by exact HS2.out) ?_; intro v5 w5 o5 g5; obtain ⟨pb, d5, rfl, pv5⟩ := o5.pv; have HO5 := hid o5; have HG5 := hid g5; have hpe := hid (HQ2.out.more g5 o5); have z5 := (HQ2.out.pe5 g5).c2; have f5 := (HQ2.out.pe5 g5).fz 2; clear o5 g5 pv5)
      have HV5 : Hid (Vs (w5.setCell ⟨w.heap.size + 1, 2, none⟩ (.slice pb (PS ++ [(⟨xF, xH, xL, xB⟩ : Px)]).length d5)) (fun x => x = gg) a' (rl - q) (rc - q) (L.drop q)) := by
        refine (HV1.out.step fun x hx _ _ => (pnew _ xF xH xL xB).block x hx).step fun x hx hg _ => ?_
        have o3' := HQ2.out.o3
        have o4' := HQ2.out.o4
        rw [Below.heap_setCell _ _ _ _ (by show x ≠ w.heap.size + 1; omega)]
        exact HG5.out.block x hx (fun e => by have := (HQ2.out.po.own.lt x e.symm).1; omega)
      have hle : (PS ++ [(⟨xF, xH, xL, xB⟩ : Px)]).length = PS.length + 1 := by simp
      rw [hle] at HV5 hpe
      clear hle
      rw [← HCR.out] at HV5
      rw [← HCS.out] at hpe
      go_roundw
      case rel => exact ⟨j + 1, by omega, by go_num, a', rl - q, rc - q, pb, _, d5, rfl, HV5, hpe⟩
      case measure => simp [intOf]; omega
    · have hjI : ¬ (j : Int) < cn := by omega
      obtain rfl : j = cn := by omega
      have e0 := HQ.out.pe.c0
      have e1 := HQ.out.pe.c1
      have e2 := HQ.out.pe.c2
      go_wp2_with (refine wpList_spe rfl rfl _ _ rfl w.heap.size K a kl kl pa n d rfl rfl (by with_reducible exact HQ.out.res) ?_)
      clear e0 e1 e2
      obtain ⟨pb, d5, hsl, pv⟩ := HQ.out.po.pv
      rw [cpl_length] at hsl pv
      obtain ⟨rfl, rfl, rfl⟩ : pa = pb ∧ n = j ∧ d = d5 := by simpa using hsl
      refine bodyPost_ret (v := .agg #[.int .i64 K, .slice a kl kl, .slice pa n d]) ?_ rfl ⟨a, pa, d, rfl, ?_, ?_, bel_row HQ.out.bel (by omega) _, fun x a1 a2 a3 => (setRow_other _ _ _ _ (by omega)).trans (HQ.out.fr x a1 a2 a3)⟩
      · exact results_cell_row rfl _ _ w.heap.size _ _ _ _ rfl (HQ.out.res.row K a kl kl pa n d) Try.underlying25 rfl sizepe
      · exact HQ.out.ky.kept fun _ => setRow_other _ _ _ _ (by omega)
      · exact pv.step (fun x _ hx => setRow_other _ _ _ _ (by omega)) (by simp [World.setRow])
end Go.Proofs.Ytohfdkhlpghbcaa
