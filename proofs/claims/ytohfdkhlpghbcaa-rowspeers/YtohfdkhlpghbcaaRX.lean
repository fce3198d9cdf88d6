import Derived.Test.YtohfdkhlpghbcaaRW
namespace Go.Proofs.Ytohfdkhlpghbcaa
set_option maxRecDepth 100000
open Go.RowKit
set_option linter.unusedVariables false

/-- readLane on its way: the lane that is filled, the answer's room, the value's reader, the key's bytes. -/
structure Rl (w0 X : World) (rk gk rv gg : Nat) (L : List Int) (P Er : Int) (a : Option Addr) (m : Nat) (kb : List Int) (S C N D E s n : Int) : Prop where
  res : Lm X w0.heap.size none 0 0 0 0 0 0 0 0 0
  lm : Lm X (w0.heap.size + 1) a m m S C N D E s n
  rs : RS X rv gg L P Er
  ky : Lies X gk a m m kb
  bel : Below rk w0 X
  fr : ∀ x, x < w0.heap.size → x ≠ rk → x ≠ rv → X.heap[x]? = w0.heap[x]?
  o1 : gk < rk
  o2 : rk < rv
  o3 : rv < w0.heap.size
  o4 : gg < rv
section
variable {w0 X X' : World} {rk gk rv gg : Nat} {L L' : List Int} {P Er P' Er' : Int} {a : Option Addr} {m : Nat} {kb : List Int} {S C N D E s n : Int}
theorem Rl.got (h : Rl w0 X rk gk rv gg L P Er a m kb S C N D E s n) (ho : Only rv X X') (hr : RS X' rv gg L' P' Er') : Rl w0 X' rk gk rv gg L' P' Er' a m kb S C N D E s n :=
  ⟨h.res.at (ho.block _ (by have := h.o3; omega)), h.lm.at (ho.block _ (by have := h.o3; omega)), hr, h.ky.kept fun _ => ho.block _ (by have := h.o1; have := h.o2; omega), bel_only h.bel ho (by have := h.o2; omega), fun x h1 h2 h3 => (ho.block x h3).trans (h.fr x h1 h2 h3), h.o1, h.o2, h.o3, h.o4⟩
theorem Rl.on (h : Rl w0 X rk gk rv gg L P Er a m kb S C N D E s n) (hb : Below X.heap.size X X') : Rl w0 X' rk gk rv gg L P Er a m kb S C N D E s n :=
  ⟨h.res.kept hb, h.lm.kept hb, h.rs.kept hb, h.ky.kept fun hg => hb.block _ hg, bel_bel h.bel (by have := h.bel.size; have := h.o2; have := h.o3; omega) hb, fun x h1 h2 h3 => (hb.block x (by have := h.bel.size; omega)).trans (h.fr x h1 h2 h3), h.o1, h.o2, h.o3, h.o4⟩
theorem Rl.put (h : Rl w0 X rk gk rv gg L P Er a m kb S C N D E s n) (i : Nat) (u : Value) {S' C' N' D' E' s' n' : Int} (hl : Lm (X.setCell ⟨w0.heap.size + 1, i, none⟩ u) (w0.heap.size + 1) a m m S' C' N' D' E' s' n') : Rl w0 (X.setCell ⟨w0.heap.size + 1, i, none⟩ u) rk gk rv gg L P Er a m kb S' C' N' D' E' s' n' := by
  have hb : ∀ k, k ≠ w0.heap.size + 1 → (X.setCell ⟨w0.heap.size + 1, i, none⟩ u).heap[k]? = X.heap[k]? := fun k hk => Below.heap_setCell _ _ _ _ hk
  have := h.o1; have := h.o2; have := h.o3; have := h.o4
  exact ⟨h.res.at (hb _ (by omega)), hl, h.rs.other hb (by omega) (by omega), h.ky.kept fun _ => hb _ (by omega), h.bel.setCell (p := ⟨w0.heap.size + 1, i, none⟩) (by show rk ≤ w0.heap.size + 1; omega) u, fun x h1 h2 h3 => (hb x (by omega)).trans (h.fr x h1 h2 h3), h.o1, h.o2, h.o3, h.o4⟩
theorem Rl.p1 (h : Rl w0 X rk gk rv gg L P Er a m kb S C N D E s n) (z : Int) : Rl w0 (X.setCell ⟨w0.heap.size + 1, 1, none⟩ (.int .i64 z)) rk gk rv gg L P Er a m kb z C N D E s n := h.put 1 _ (by have := h.lm; unfold Lm at *; simp [World.setCell, Array.getElem?_modify, this])
theorem Rl.p2 (h : Rl w0 X rk gk rv gg L P Er a m kb S C N D E s n) (z : Int) : Rl w0 (X.setCell ⟨w0.heap.size + 1, 2, none⟩ (.int .i64 z)) rk gk rv gg L P Er a m kb S z N D E s n := h.put 2 _ (by have := h.lm; unfold Lm at *; simp [World.setCell, Array.getElem?_modify, this])
theorem Rl.p3 (h : Rl w0 X rk gk rv gg L P Er a m kb S C N D E s n) (z : Int) : Rl w0 (X.setCell ⟨w0.heap.size + 1, 3, none⟩ (.int .i64 z)) rk gk rv gg L P Er a m kb S C z D E s n := h.put 3 _ (by have := h.lm; unfold Lm at *; simp [World.setCell, Array.getElem?_modify, this])
theorem Rl.p4 (h : Rl w0 X rk gk rv gg L P Er a m kb S C N D E s n) (z : Int) : Rl w0 (X.setCell ⟨w0.heap.size + 1, 4, none⟩ (.int .u64 z)) rk gk rv gg L P Er a m kb S C N z E s n := h.put 4 _ (by have := h.lm; unfold Lm at *; simp [World.setCell, Array.getElem?_modify, this])
theorem Rl.p5 (h : Rl w0 X rk gk rv gg L P Er a m kb S C N D E s n) (z : Int) : Rl w0 (X.setCell ⟨w0.heap.size + 1, 5, none⟩ (.int .u64 z)) rk gk rv gg L P Er a m kb S C N D z s n := h.put 5 _ (by have := h.lm; unfold Lm at *; simp [World.setCell, Array.getElem?_modify, this])
theorem Rl.p6 (h : Rl w0 X rk gk rv gg L P Er a m kb S C N D E s n) (z : Int) : Rl w0 (X.setCell ⟨w0.heap.size + 1, 6, none⟩ (.int .i64 z)) rk gk rv gg L P Er a m kb S C N D E z n := h.put 6 _ (by have := h.lm; unfold Lm at *; simp [World.setCell, Array.getElem?_modify, this])
theorem Rl.p7 (h : Rl w0 X rk gk rv gg L P Er a m kb S C N D E s n) (z : Int) : Rl w0 (X.setCell ⟨w0.heap.size + 1, 7, none⟩ (.int .i64 z)) rk gk rv gg L P Er a m kb S C N D E s z := h.put 7 _ (by have := h.lm; unfold Lm at *; simp [World.setCell, Array.getElem?_modify, this])
end
set_option maxHeartbeats 2000000 in
/-- The landed readLane. -/
theorem readLane_ (rk gk rv gg : Nat) (k v : List Int) (w : World) (hk : RS w rk gk k 0 0) (hv : RS w rv gg v 0 0) (h1 : k.length ≤ 140737488351232) (h2 : v.length ≤ 140737488351232) (b1 : Okb k) (b2 : Okb v) (o1 : gk < rk) (o2 : rk < rv) (o4 : gg < rv) (o5 : gg ≠ rk) :
    Calls Try.prog 50 #[.pointer (some ⟨rk, 0, none⟩), .pointer (some ⟨rv, 0, none⟩)] w fun e w' => ∃ a, e = .returned (.agg #[.slice a (tK k).length (tK k).length, .int .i64 (tS v), .int .i64 (tC v), .int .i64 (tN v), .int .u64 (tD v), .int .u64 (tE v), .int .i64 (qs (tR v)), .int .i64 (qn (tR v))]) ∧ Lies w' gk a (tK k).length (tK k).length (tK k) ∧ Below rk w w' ∧ ∀ x, x < w.heap.size → x ≠ rk → x ≠ rv → w'.heap[x]? = w.heap[x]? := by
  have o3 := hv.lt
  have ks := fun wx hx => skipMark_ rk gk k 0 0 wx hx h1 (by omega)
  have q1 := gp_in (W := 1) (l := k) (e := 0) (p := 0) (m := 0) (by omega)
  have g1 := gl_sub (W := 1) (e := 0) b1
  have kky := fun wx hx => bytesAny rk gk 32 (gl 1 k 0) (gp 1 k 0 0) (ge 1 k 0) wx hx (by have := g1.2; omega) (by omega)
  have HKE : Hid (bz 32 (gl 1 k 0) (ge 1 k 0) = tK k) := rfl
  rw [HKE.out] at kky
  generalize tK k = KB at *
  obtain ⟨kl, HKL⟩ : ∃ n : Nat, Hid (KB.length = n) := ⟨_, rfl⟩
  simp only [HKL.out] at kky
  rw [HKL.out]
  clear HKE g1 b1
  generalize gl 1 k 0 = k1 at *
  generalize gp 1 k 0 0 = p1 at *
  generalize ge 1 k 0 = e1 at *
  have ka := fun wx hx => getAny8 rv gg v 0 0 wx hx h2 (by omega)
  have f1 := gl_sub (W := 1) (e := 0) b2
  have r1 := gp_in (W := 1) (l := v) (e := 0) (p := 0) (m := 0) (by omega)
  have x1 := gvIn8 (e := 0) b2
  have HA : Hid (gv 1 v 0 = tS v ∧ gl 1 v 0 = tl1 v ∧ ge 1 v 0 = te1 v) := ⟨rfl, rfl, rfl⟩
  simp only [HA.out.1, HA.out.2.1, HA.out.2.2] at ka f1 x1
  obtain ⟨P1, HP1⟩ : ∃ z, Hid (gp 1 v 0 0 = z) := ⟨_, rfl⟩
  rw [HP1.out] at r1
  simp only [HP1.out] at ka
  have kb := fun wx hx => getAny32 rv gg (tl1 v) P1 (te1 v) wx hx (by have := f1.2; omega) (by omega)
  have f2 := gl_sub (W := 4) (e := te1 v) f1.1
  have r2 := gp_in (W := 4) (l := tl1 v) (e := te1 v) (p := P1) (m := 1) r1
  have x2 := gvIn32 (e := te1 v) f1.1
  have HA2 : Hid (gv 4 (tl1 v) (te1 v) = tC v ∧ gl 4 (tl1 v) (te1 v) = tl2 v ∧ ge 4 (tl1 v) (te1 v) = te2 v) := ⟨rfl, rfl, rfl⟩
  simp only [HA2.out.1, HA2.out.2.1, HA2.out.2.2] at kb f2 x2
  obtain ⟨P2, HP2⟩ : ∃ z, Hid (gp 4 (tl1 v) (te1 v) P1 = z) := ⟨_, rfl⟩
  rw [HP2.out] at r2
  simp only [HP2.out] at kb
  have kc := fun wx hx => getAny32 rv gg (tl2 v) P2 (te2 v) wx hx (by have := f2.2; omega) (by omega)
  have f3 := gl_sub (W := 4) (e := te2 v) f2.1
  have r3 := gp_in (W := 4) (l := tl2 v) (e := te2 v) (p := P2) (m := 5) r2
  have x3 := gvIn32 (e := te2 v) f2.1
  have HA3 : Hid (gv 4 (tl2 v) (te2 v) = tN v ∧ gl 4 (tl2 v) (te2 v) = tl3 v ∧ ge 4 (tl2 v) (te2 v) = te3 v) := ⟨rfl, rfl, rfl⟩
  simp only [HA3.out.1, HA3.out.2.1, HA3.out.2.2] at kc f3 x3
  obtain ⟨P3, HP3⟩ : ∃ z, Hid (gp 4 (tl2 v) (te2 v) P2 = z) := ⟨_, rfl⟩
  rw [HP3.out] at r3
  simp only [HP3.out] at kc
  have kd := fun wx hx => getAny64 rv gg (tl3 v) P3 (te3 v) wx hx (by have := f3.2; omega) (by omega)
  have f4 := gl_sub (W := 8) (e := te3 v) f3.1
  have r4 := gp_in (W := 8) (l := tl3 v) (e := te3 v) (p := P3) (m := 9) r3
  have x4 := gvIn64 (e := te3 v) f3.1
  have HA4 : Hid (gv 8 (tl3 v) (te3 v) = tD v ∧ gl 8 (tl3 v) (te3 v) = tl4 v ∧ ge 8 (tl3 v) (te3 v) = te4 v) := ⟨rfl, rfl, rfl⟩
  simp only [HA4.out.1, HA4.out.2.1, HA4.out.2.2] at kd f4 x4
  obtain ⟨P4, HP4⟩ : ∃ z, Hid (gp 8 (tl3 v) (te3 v) P3 = z) := ⟨_, rfl⟩
  rw [HP4.out] at r4
  simp only [HP4.out] at kd
  have ke := fun wx hx => getAny64 rv gg (tl4 v) P4 (te4 v) wx hx (by have := f4.2; omega) (by omega)
  have f5 := gl_sub (W := 8) (e := te4 v) f4.1
  have r5 := gp_in (W := 8) (l := tl4 v) (e := te4 v) (p := P4) (m := 17) r4
  have x5 := gvIn64 (e := te4 v) f4.1
  have HA5 : Hid (gv 8 (tl4 v) (te4 v) = tE v ∧ gl 8 (tl4 v) (te4 v) = tl5 v ∧ ge 8 (tl4 v) (te4 v) = te5 v) := ⟨rfl, rfl, rfl⟩
  simp only [HA5.out.1, HA5.out.2.1, HA5.out.2.2] at ke f5 x5
  obtain ⟨P5, HP5⟩ : ∃ z, Hid (gp 8 (tl4 v) (te4 v) P4 = z) := ⟨_, rfl⟩
  rw [HP5.out] at r5
  simp only [HP5.out] at ke
  have kf := fun wx hx => leftAny rv gg (tl5 v) P5 (te5 v) wx hx
  obtain ⟨nl, HNL⟩ : ∃ z, Hid (ln (tl5 v) (te5 v) = z) := ⟨_, rfl⟩
  rw [HNL.out] at kf
  have kg := fun wx hx => bytesAny rv gg nl (tl5 v) P5 (te5 v) wx hx (by have := f1.2; have := f2.2; have := f3.2; have := f4.2; have := f5.2; omega) (by omega)
  have HRE : Hid (bz nl (tl5 v) (te5 v) = tR v) := by show _ = _; rw [← HNL.out]; rfl
  rw [HRE.out] at kg
  have HRB : Hid (Okb (tR v)) := by rw [← HRE.out]; exact bz_ok f5.1
  have HRL : Hid ((tR v).length ≤ 140737488351232) := by show _ ≤ _; rw [← HRE.out]; have h := @bz_len nl (tl5 v) (te5 v); have : nl ≤ (tl5 v).length := (by rw [← HNL.out]; unfold ln; split <;> omega); have := f1.2; have := f2.2; have := f3.2; have := f4.2; have := f5.2; omega
  clear HA HA2 HA3 HA4 HA5 HP1 HP2 HP3 HP4 HP5 f1 f2 f3 f4 f5 HRE HNL b2
  generalize tS v = S at *
  generalize tC v = C at *
  generalize tN v = N at *
  generalize tD v = D at *
  generalize tE v = E at *
  generalize tR v = R at *
  generalize tl1 v = L1 at *
  generalize tl2 v = L2 at *
  generalize tl3 v = L3 at *
  generalize tl4 v = L4 at *
  generalize tl5 v = L5 at *
  generalize te1 v = E1 at *
  generalize te2 v = E2 at *
  generalize te3 v = E3 at *
  generalize te4 v = E4 at *
  generalize te5 v = E5 at *
  have B0 := (lnew w none 0 0 0 0 0 0 0 0 0).alloc (B := w.heap.size) (by simp) (.cells #[.slice none 0 0, .int .i64 0, .int .i64 0, .int .i64 0, .int .u64 0, .int .u64 0, .int .i64 0, .int .i64 0] 48)
  have m0 := (Lm.new w none 0 0 0 0 0 0 0 0 0).kept (lnew _ none 0 0 0 0 0 0 0 0 0)
  have m1 := Lm.new (w.alloc (.cells #[.slice none 0 0, .int .i64 0, .int .i64 0, .int .i64 0, .int .u64 0, .int .u64 0, .int .i64 0, .int .i64 0] 48)) none 0 0 0 0 0 0 0 0 0
  rw [World.size_alloc] at m1
  have fr0 : ∀ x, x < w.heap.size → ((w.alloc (.cells #[.slice none 0 0, .int .i64 0, .int .i64 0, .int .i64 0, .int .u64 0, .int .u64 0, .int .i64 0, .int .i64 0] 48)).alloc (.cells #[.slice none 0 0, .int .i64 0, .int .i64 0, .int .i64 0, .int .u64 0, .int .u64 0, .int .i64 0, .int .i64 0] 48)).heap[x]? = w.heap[x]? := fun x h => B0.block x h
  have sk := hk.kept B0
  have sv := hv.kept B0
  obtain ⟨s, HQs⟩ : ∃ s, Hid (qs R = s) := ⟨_, rfl⟩
  obtain ⟨n, HQn⟩ : ∃ n, Hid (qn R = n) := ⟨_, rfl⟩
  rw [HQs.out, HQn.out]
  clear hk hv
  go_enter Try.func50, Try.ntmps50
  go_wp2_with fail
  refine (ks _ sk).mono ?_
  rintro e w1 ⟨rfl, sk1, g1⟩
  have HB1 : Hid (Below rk w w1) := bel_only (B0.mono (by omega)) g1 (Nat.le_refl _)
  have HM0 := hid (m0.at (g1.block w.heap.size (by omega)))
  have HM1 := hid (m1.at (g1.block (w.heap.size + 1) (by omega)))
  have HSV := hid (sv.only g1 (by omega) o5)
  have HSK := hid sk1
  have HF1 : Hid (∀ x, x < w.heap.size → x ≠ rk → x ≠ rv → w1.heap[x]? = w.heap[x]?) := fun x h1 h2 h3 => (g1.block x h2).trans (fr0 x h1)
  clear sk1 g1 m0 m1 sk sv B0 ks fr0
  go_wp2_with fail
  refine (kky _ HSK.out).mono ?_
  rintro e w2 ⟨a, rfl, l2, sk2, g2⟩
  have HB2 : Hid (Below rk w w2) := bel_only HB1.out g2 (Nat.le_refl _)
  have n0 := HM0.out.at (g2.block w.heap.size (by omega))
  have n1 := HM1.out.at (g2.block (w.heap.size + 1) (by omega))
  have s2 := HSV.out.only g2 (by omega) o5
  have f0 := n1.fz 0
  have c0 := n1.c0
  have HRL0 : Hid (Rl w (w2.setCell ⟨w.heap.size + 1, 0, none⟩ (.slice a kl kl)) rk gk rv gg v 0 0 a kl KB 0 0 0 0 0 0 0) := by
    have hb : ∀ k, k ≠ w.heap.size + 1 → (w2.setCell ⟨w.heap.size + 1, 0, none⟩ (.slice a kl kl)).heap[k]? = w2.heap[k]? := fun k hk => Below.heap_setCell _ _ _ _ hk
    exact ⟨n0.at (hb _ (by omega)), n1.key a kl kl, s2.other hb (by omega) (by omega), l2.kept fun _ => hb _ (by omega), HB2.out.setCell (p := ⟨w.heap.size + 1, 0, none⟩) (by show rk ≤ w.heap.size + 1; omega) _, fun x h1 h2 h3 => (hb x (by omega)).trans ((g2.block x h2).trans (HF1.out x h1 h2 h3)), o1, o2, o3, o4⟩
  clear HF1 HSK HSV HM0 HM1 HB1 HB2 l2 sk2 g2 n0 n1 s2 kky
  go_wp2_with fail
  clear c0 f0
  generalize (w2.setCell ⟨w.heap.size + 1, 0, none⟩ (.slice a kl kl)) = X0 at *
  refine (ka _ HRL0.out.rs).mono ?_
  rintro e y ⟨rfl, s3, g3⟩
  have t3 := HRL0.out.got g3 s3
  have f0 := t3.lm.fz 1
  have c0 := t3.lm.c1
  have HRL1 := hid (t3.p1 S)
  clear HRL0 s3 g3 t3 ka
  go_wp2_with fail
  clear c0 f0
  generalize (y.setCell ⟨w.heap.size + 1, 1, none⟩ (.int .i64 S)) = X1 at *
  refine (kb _ HRL1.out.rs).mono ?_
  rintro e y ⟨rfl, s3, g3⟩
  have t3 := HRL1.out.got g3 s3
  have f0 := t3.lm.fz 2
  have c0 := t3.lm.c2
  have HRL2 := hid (t3.p2 C)
  clear HRL1 s3 g3 t3 kb
  go_wp2_with fail
  clear c0 f0
  generalize (y.setCell ⟨w.heap.size + 1, 2, none⟩ (.int .i64 C)) = X2 at *
  refine (kc _ HRL2.out.rs).mono ?_
  rintro e y ⟨rfl, s3, g3⟩
  have t3 := HRL2.out.got g3 s3
  have f0 := t3.lm.fz 3
  have c0 := t3.lm.c3
  have HRL3 := hid (t3.p3 N)
  clear HRL2 s3 g3 t3 kc
  go_wp2_with fail
  clear c0 f0
  generalize (y.setCell ⟨w.heap.size + 1, 3, none⟩ (.int .i64 N)) = X3 at *
  refine (kd _ HRL3.out.rs).mono ?_
  rintro e y ⟨rfl, s3, g3⟩
  have t3 := HRL3.out.got g3 s3
  have f0 := t3.lm.fz 4
  have c0 := t3.lm.c4
  have HRL4 := hid (t3.p4 D)
  clear HRL3 s3 g3 t3 kd
  go_wp2_with fail
  clear c0 f0
  generalize (y.setCell ⟨w.heap.size + 1, 4, none⟩ (.int .u64 D)) = X4 at *
  refine (ke _ HRL4.out.rs).mono ?_
  rintro e y ⟨rfl, s3, g3⟩
  have t3 := HRL4.out.got g3 s3
  have f0 := t3.lm.fz 5
  have c0 := t3.lm.c5
  have HRL5 := hid (t3.p5 E)
  clear HRL4 s3 g3 t3 ke
  go_wp2_with fail
  clear c0 f0
  generalize (y.setCell ⟨w.heap.size + 1, 5, none⟩ (.int .u64 E)) = X5 at *
  refine (kf _ HRL5.out.rs).mono ?_
  rintro e y ⟨rfl, hy⟩
  rw [hy]
  clear hy y kf
  go_wp2_with fail
  refine (kg _ HRL5.out.rs).mono ?_
  rintro e y ⟨ra, rfl, l3, s3, g3⟩
  have HR6 := hid (HRL5.out.got g3 s3)
  have HL3 := hid l3
  clear HRL5 s3 g3 l3 kg
  have kh := sget_ ra R.length R.length R y HL3.out.bs (Nat.le_refl _) (by have := HRL.out; unfold maxLen; omega)
  generalize R.length = Rn at *
  rw [HQs.out, HQn.out] at kh
  generalize qe R = qe at *
  go_wp2_with fail
  refine kh.mono ?_
  rintro e z ⟨rfl, g4⟩
  have t6 := HR6.out.on g4
  have f6 := t6.lm.fz 6
  have c6 := t6.lm.c6
  have t7 := t6.p6 s
  have f7 := t7.lm.fz 7
  have c7 := t7.lm.c7
  have t8 := t7.p7 n
  have HR8 := hid t8
  have d0 := t8.lm.c0
  have d1 := t8.lm.c1
  have d2 := t8.lm.c2
  have d3 := t8.lm.c3
  have d4 := t8.lm.c4
  have d5 := t8.lm.c5
  have d6 := t8.lm.c6
  have d7 := t8.lm.c7
  clear HR6 g4 t6 t7 t8 kh HL3
  go_wp2_with (refine wpList_sln rfl rfl _ _ rfl w.heap.size a kl kl S C N D E s n rfl rfl (by with_reducible exact HR8.out.res) ?_)
  clear d0 d1 d2 d3 d4 d5 d6 d7 c6 c7 f6 f7
  refine bodyPost_ret (v := .agg #[.slice a kl kl, .int .i64 S, .int .i64 C, .int .i64 N, .int .u64 D, .int .u64 E, .int .i64 s, .int .i64 n]) ?_ rfl ⟨a, rfl, ?_, bel_row HR8.out.bel (by omega) _, fun x h1 h2 h3 => (setRow_other _ _ _ _ (by omega)).trans (HR8.out.fr x h1 h2 h3)⟩
  · exact results_cell_row rfl _ _ w.heap.size _ _ _ _ rfl (HR8.out.res.row a kl kl S C N D E s n) Try.underlying48 rfl sizeln
  · exact HR8.out.ky.kept fun _ => setRow_other _ _ _ _ (by omega)
end Go.Proofs.Ytohfdkhlpghbcaa
