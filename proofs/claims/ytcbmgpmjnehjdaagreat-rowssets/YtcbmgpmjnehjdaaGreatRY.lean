import Derived.Test.YtcbmgpmjnehjdaaGreatRV
namespace Go.Proofs.YtcbmgpmjnehjdaaGreat
set_option maxRecDepth 100000
open Go.RowKit
set_option linter.unusedVariables false

/-! What readLane reads. -/
def tl1 (v : List Int) : List Int := gl 1 v 0
def te1 (v : List Int) : Int := ge 1 v 0
def tl2 (v : List Int) : List Int := gl 4 (tl1 v) (te1 v)
def te2 (v : List Int) : Int := ge 4 (tl1 v) (te1 v)
def tl3 (v : List Int) : List Int := gl 4 (tl2 v) (te2 v)
def te3 (v : List Int) : Int := ge 4 (tl2 v) (te2 v)
def tl4 (v : List Int) : List Int := gl 8 (tl3 v) (te3 v)
def te4 (v : List Int) : Int := ge 8 (tl3 v) (te3 v)
def tl5 (v : List Int) : List Int := gl 8 (tl4 v) (te4 v)
def te5 (v : List Int) : Int := ge 8 (tl4 v) (te4 v)
def tS (v : List Int) : Int := gv 1 v 0
def tC (v : List Int) : Int := gv 4 (tl1 v) (te1 v)
def tN (v : List Int) : Int := gv 4 (tl2 v) (te2 v)
def tD (v : List Int) : Int := gv 8 (tl3 v) (te3 v)
def tE (v : List Int) : Int := gv 8 (tl4 v) (te4 v)
def tR (v : List Int) : List Int := bz (ln (tl5 v) (te5 v)) (tl5 v) (te5 v)
def tK (k : List Int) : List Int := bz 32 (gl 1 k 0) (ge 1 k 0)
theorem t_whole {v : List Int} (hb : Okb v) (h : v.length = 37) : tS v = yS v ∧ tC v = rdN v 1 4 ∧ tN v = rdN v 5 4 ∧ tD v = rdN v 9 8 ∧ tE v = rdN v 17 8 ∧ tR v = v.drop 25 := by
  obtain ⟨a1, a2, -, a4⟩ := g_yes (W := 1) (l := v) (p := 0) (by omega)
  have l1 : tl1 v = v.drop 1 := a2
  have e1 : te1 v = 0 := a4
  obtain ⟨b1, b2, -, b4⟩ := g_yes (W := 4) (l := v.drop 1) (p := 0) (by rw [List.length_drop]; omega)
  have l2 : tl2 v = v.drop 5 := by unfold tl2; rw [l1, e1, b2, List.drop_drop]
  have e2 : te2 v = 0 := by unfold te2; rw [l1, e1, b4]
  obtain ⟨c1, c2, -, c4⟩ := g_yes (W := 4) (l := v.drop 5) (p := 0) (by rw [List.length_drop]; omega)
  have l3 : tl3 v = v.drop 9 := by unfold tl3; rw [l2, e2, c2, List.drop_drop]
  have e3 : te3 v = 0 := by unfold te3; rw [l2, e2, c4]
  obtain ⟨d1, d2, -, d4⟩ := g_yes (W := 8) (l := v.drop 9) (p := 0) (by rw [List.length_drop]; omega)
  have l4 : tl4 v = v.drop 17 := by unfold tl4; rw [l3, e3, d2, List.drop_drop]
  have e4 : te4 v = 0 := by unfold te4; rw [l3, e3, d4]
  obtain ⟨f1, f2, -, f4⟩ := g_yes (W := 8) (l := v.drop 17) (p := 0) (by rw [List.length_drop]; omega)
  have l5 : tl5 v = v.drop 25 := by unfold tl5; rw [l4, e4, f2, List.drop_drop]
  have e5 : te5 v = 0 := by unfold te5; rw [l4, e4, f4]
  refine ⟨?_, ?_, ?_, ?_, ?_, ?_⟩
  · unfold tS yS
    rw [a1]
    cases v with
    | nil => simp at h
    | cons x t => simp [val]
  · unfold tC rdN; rw [l1, e1, b1, if_pos (by omega)]
  · unfold tN rdN; rw [l2, e2, c1, if_pos (by omega)]
  · unfold tD rdN; rw [l3, e3, d1, if_pos (by omega)]
  · unfold tE rdN; rw [l4, e4, f1, if_pos (by omega)]
  · unfold tR bz ln
    rw [l5, e5, if_pos rfl, if_pos ⟨rfl, Nat.le_refl _⟩, List.take_of_length_le (Nat.le_refl _)]
theorem tK_whole {k : List Int} (h : k.length = 33) : tK k = yK k := by
  obtain ⟨a1, a2, -, a4⟩ := g_yes (W := 1) (l := k) (p := 0) (by omega)
  unfold tK yK bz
  rw [a2, a4, if_pos ⟨rfl, by rw [List.length_drop]; omega⟩, List.take_of_length_le (by rw [List.length_drop]; omega)]
theorem lV_length {S C N D E s n : Int} (h : vld s n = true) : (lV S C N D E s n).length = 37 := by
  unfold lV
  simp only [List.length_append, be_length, pt_length, h, List.length_singleton, if_true]
/-- The row whose lane's row is this one. -/
def gtL (k v : List Int) : Bool := lok (tK k).length (tS v) (tC v) (tN v) (qs (tR v)) (qn (tR v)) && sameB (lK (tK k)) k && sameB (lV (tS v) (tC v) (tN v) (tD v) (tE v) (qs (tR v)) (qn (tR v))) v
theorem gtL_eq (k v : List Int) (hb : Okb v) : gtL k v = yok k v := by
  by_cases hl : k.length = 33 ∧ v.length = 37
  · obtain ⟨h1, h2, h3, h4, h5, h6⟩ := t_whole hb hl.2
    unfold gtL yok
    rw [h1, h2, h3, h4, h5, h6, tK_whole hl.1, decide_eq_true hl, Bool.true_and, show (yK k).length = 32 from by unfold yK; rw [List.length_drop]; omega]
    have hd : Okb (v.drop 25) := fun z hz => hb z (List.mem_of_mem_drop hz)
    have hdl : (v.drop 25).length = 12 := by rw [List.length_drop]; omega
    cases hg : gok (v.drop 25) with
    | true => simp only [Bool.true_and, Bool.and_assoc]
    | false =>
      simp only [Bool.false_and, Bool.and_false]
      obtain ⟨q1, q2, -⟩ := q_bad hg
      rw [← q1, ← q2]
      cases hq : sameB (lV (yS v) (rdN v 1 4) (rdN v 5 4) (rdN v 9 8) (rdN v 17 8) 0 0) v with
      | false => rw [Bool.and_false]
      | true =>
        exfalso
        have e := of_decide_eq_true (show decide _ = true from hq)
        have : v.drop 25 = pt 0 0 := by
          rw [← e]
          unfold lV
          rw [List.drop_left' (by simp [be_length])]
        have hp : gok (pt 0 0) = true := by decide
        rw [this, hp] at hg
        cases hg
  · have hr : yok k v = false := by unfold yok; rw [decide_eq_false hl, Bool.false_and]
    rw [hr]
    cases hq : gtL k v with
    | false => rfl
    | true =>
      exfalso
      unfold gtL at hq
      simp only [Bool.and_eq_true] at hq
      obtain ⟨⟨q1, q2⟩, q3⟩ := hq
      obtain ⟨p1, p2, -⟩ := of_decide_eq_true (show decide _ = true from q1)
      have e2 := of_decide_eq_true (show decide _ = true from q2)
      have e3 := of_decide_eq_true (show decide _ = true from q3)
      refine hl ⟨?_, ?_⟩
      · rw [← e2]; unfold lK; rw [List.length_append, p2]; rfl
      · rw [← e3]; exact lV_length p1
theorem skipMark_ (r g : Nat) (l : List Int) (p e : Int) (w : World) (h : RS w r g l p e) (hl : l.length ≤ 140737488351232) (hp : 0 ≤ p ∧ p ≤ 100000) :
    Calls Tryz.prog 90 #[.pointer (some ⟨r, 0, none⟩)] w fun en w' => en = .returned (.tuple #[]) ∧ RS w' r g (gl 1 l e) (gp 1 l e p) (ge 1 l e) ∧ Only r w w' := by
  have k1 := fun wx hx => getAny8 r g l p e wx hx hl hp
  generalize gv 1 l e = x at *
  generalize gl 1 l e = y at *
  generalize gp 1 l e p = q at *
  generalize ge 1 l e = z at *
  go_enter Tryz.func90, Tryz.ntmps90
  go_wp2_with fail
  refine (k1 _ h).mono ?_
  rintro e w1 ⟨rfl, s1, g1⟩
  have HS := hid s1
  have HG := hid g1
  clear s1 g1 k1 h
  go_wp2_with fail
  go_end0
  exact ⟨rfl, HS.out, HG.out⟩
end Go.Proofs.YtcbmgpmjnehjdaaGreat
namespace Go.Proofs.YtcbmgpmjnehjdaaGreat
set_option maxRecDepth 100000
open Go.RowKit
set_option linter.unusedVariables false

/-- readLane on its way: the lane that is filled, the answer's room, the value's reader, the key's bytes. -/
structure Rl (w0 X : World) (rk gk rv gg : Nat) (L : List Int) (P Er : Int) (a : Option Addr) (m : Nat) (kb : List Int) (S C N D E s n : Int) : Prop where
  res : Lm X w0.heap.size none 0 0 0 0 0 0 0 0 0
  lm : Lm X (w0.heap.size + 1) a m m S C N D E s n
  rs : RS X rv gg L P Er
  ky : Lies X gk a m m kb
  bel : Below rk w0 X
  fr : ∀ x, x < w0.heap.size → x ≠ rk → x ≠ rv → X.heap[x]? = w0.heap[x]?
  o1 : gk < rk
  o2 : rk < rv
  o3 : rv < w0.heap.size
  o4 : gg < rv
section
variable {w0 X X' : World} {rk gk rv gg : Nat} {L L' : List Int} {P Er P' Er' : Int} {a : Option Addr} {m : Nat} {kb : List Int} {S C N D E s n : Int}
theorem Rl.got (h : Rl w0 X rk gk rv gg L P Er a m kb S C N D E s n) (ho : Only rv X X') (hr : RS X' rv gg L' P' Er') : Rl w0 X' rk gk rv gg L' P' Er' a m kb S C N D E s n :=
  ⟨h.res.at (ho.block _ (by have := h.o3; omega)), h.lm.at (ho.block _ (by have := h.o3; omega)), hr, h.ky.kept fun _ => ho.block _ (by have := h.o1; have := h.o2; omega), bel_only h.bel ho (by have := h.o2; omega), fun x h1 h2 h3 => (ho.block x h3).trans (h.fr x h1 h2 h3), h.o1, h.o2, h.o3, h.o4⟩
theorem Rl.on (h : Rl w0 X rk gk rv gg L P Er a m kb S C N D E s n) (hb : Below X.heap.size X X') : Rl w0 X' rk gk rv gg L P Er a m kb S C N D E s n :=
  ⟨h.res.kept hb, h.lm.kept hb, h.rs.kept hb, h.ky.kept fun hg => hb.block _ hg, bel_bel h.bel (by have := h.bel.size; have := h.o2; have := h.o3; omega) hb, fun x h1 h2 h3 => (hb.block x (by have := h.bel.size; omega)).trans (h.fr x h1 h2 h3), h.o1, h.o2, h.o3, h.o4⟩
theorem Rl.put (h : Rl w0 X rk gk rv gg L P Er a m kb S C N D E s n) (i : Nat) (u : Value) {S' C' N' D' E' s' n' : Int} (hl : Lm (X.setCell ⟨w0.heap.size + 1, i, none⟩ u) (w0.heap.size + 1) a m m S' C' N' D' E' s' n') : Rl w0 (X.setCell ⟨w0.heap.size + 1, i, none⟩ u) rk gk rv gg L P Er a m kb S' C' N' D' E' s' n' := by
  have hb : ∀ k, k ≠ w0.heap.size + 1 → (X.setCell ⟨w0.heap.size + 1, i, none⟩ u).heap[k]? = X.heap[k]? := fun k hk => Below.heap_setCell _ _ _ _ hk
  have := h.o1; have := h.o2; have := h.o3; have := h.o4
  exact ⟨h.res.at (hb _ (by omega)), hl, h.rs.other hb (by omega) (by omega), h.ky.kept fun _ => hb _ (by omega), h.bel.setCell (p := ⟨w0.heap.size + 1, i, none⟩) (by show rk ≤ w0.heap.size + 1; omega) u, fun x h1 h2 h3 => (hb x (by omega)).trans (h.fr x h1 h2 h3), h.o1, h.o2, h.o3, h.o4⟩
theorem Rl.p1 (h : Rl w0 X rk gk rv gg L P Er a m kb S C N D E s n) (z : Int) : Rl w0 (X.setCell ⟨w0.heap.size + 1, 1, none⟩ (.int .i64 z)) rk gk rv gg L P Er a m kb z C N D E s n := h.put 1 _ (by have := h.lm; unfold Lm at *; simp [World.setCell, Array.getElem?_modify, this])
theorem Rl.p2 (h : Rl w0 X rk gk rv gg L P Er a m kb S C N D E s n) (z : Int) : Rl w0 (X.setCell ⟨w0.heap.size + 1, 2, none⟩ (.int .i64 z)) rk gk rv gg L P Er a m kb S z N D E s n := h.put 2 _ (by have := h.lm; unfold Lm at *; simp [World.setCell, Array.getElem?_modify, this])
theorem Rl.p3 (h : Rl w0 X rk gk rv gg L P Er a m kb S C N D E s n) (z : Int) : Rl w0 (X.setCell ⟨w0.heap.size + 1, 3, none⟩ (.int .i64 z)) rk gk rv gg L P Er a m kb S C z D E s n := h.put 3 _ (by have := h.lm; unfold Lm at *; simp [World.setCell, Array.getElem?_modify, this])
theorem Rl.p4 (h : Rl w0 X rk gk rv gg L P Er a m kb S C N D E s n) (z : Int) : Rl w0 (X.setCell ⟨w0.heap.size + 1, 4, none⟩ (.int .u64 z)) rk gk rv gg L P Er a m kb S C N z E s n := h.put 4 _ (by have := h.lm; unfold Lm at *; simp [World.setCell, Array.getElem?_modify, this])
theorem Rl.p5 (h : Rl w0 X rk gk rv gg L P Er a m kb S C N D E s n) (z : Int) : Rl w0 (X.setCell ⟨w0.heap.size + 1, 5, none⟩ (.int .u64 z)) rk gk rv gg L P Er a m kb S C N D z s n := h.put 5 _ (by have := h.lm; unfold Lm at *; simp [World.setCell, Array.getElem?_modify, this])
theorem Rl.p6 (h : Rl w0 X rk gk rv gg L P Er a m kb S C N D E s n) (z : Int) : Rl w0 (X.setCell ⟨w0.heap.size + 1, 6, none⟩ (.int .i64 z)) rk gk rv gg L P Er a m kb S C N D E z n := h.put 6 _ (by have := h.lm; unfold Lm at *; simp [World.setCell, Array.getElem?_modify, this])
theorem Rl.p7 (h : Rl w0 X rk gk rv gg L P Er a m kb S C N D E s n) (z : Int) : Rl w0 (X.setCell ⟨w0.heap.size + 1, 7, none⟩ (.int .i64 z)) rk gk rv gg L P Er a m kb S C N D E s z := h.put 7 _ (by have := h.lm; unfold Lm at *; simp [World.setCell, Array.getElem?_modify, this])
end
set_option maxHeartbeats 2000000 in
/-- The landed readLane. -/
theorem readLane_ (rk gk rv gg : Nat) (k v : List Int) (w : World) (hk : RS w rk gk k 0 0) (hv : RS w rv gg v 0 0) (h1 : k.length ≤ 140737488351232) (h2 : v.length ≤ 140737488351232) (b1 : Okb k) (b2 : Okb v) (o1 : gk < rk) (o2 : rk < rv) (o4 : gg < rv) (o5 : gg ≠ rk) :
    Calls Tryz.prog 56 #[.pointer (some ⟨rk, 0, none⟩), .pointer (some ⟨rv, 0, none⟩)] w fun e w' => ∃ a, e = .returned (.agg #[.slice a (tK k).length (tK k).length, .int .i64 (tS v), .int .i64 (tC v), .int .i64 (tN v), .int .u64 (tD v), .int .u64 (tE v), .int .i64 (qs (tR v)), .int .i64 (qn (tR v))]) ∧ Lies w' gk a (tK k).length (tK k).length (tK k) ∧ Below rk w w' ∧ ∀ x, x < w.heap.size → x ≠ rk → x ≠ rv → w'.heap[x]? = w.heap[x]? := by
  have o3 := hv.lt
  have ks := fun wx hx => skipMark_ rk gk k 0 0 wx hx h1 (by omega)
  have q1 := gp_in (W := 1) (l := k) (e := 0) (p := 0) (m := 0) (by omega)
  have g1 := gl_sub (W := 1) (e := 0) b1
  have kky := fun wx hx => bytesAny rk gk 32 (gl 1 k 0) (gp 1 k 0 0) (ge 1 k 0) wx hx (by have := g1.2; omega) (by omega)
  have HKE : Hid (bz 32 (gl 1 k 0) (ge 1 k 0) = tK k) := rfl
  rw [HKE.out] at kky
  generalize tK k = KB at *
  obtain ⟨kl, HKL⟩ : ∃ n : Nat, Hid (KB.length = n) := ⟨_, rfl⟩
  simp only [HKL.out] at kky
  rw [HKL.out]
  clear HKE g1 b1
  generalize gl 1 k 0 = k1 at *
  generalize gp 1 k 0 0 = p1 at *
  generalize ge 1 k 0 = e1 at *
  have ka := fun wx hx => getAny8 rv gg v 0 0 wx hx h2 (by omega)
  have f1 := gl_sub (W := 1) (e := 0) b2
  have r1 := gp_in (W := 1) (l := v) (e := 0) (p := 0) (m := 0) (by omega)
  have x1 := gvIn8 (e := 0) b2
  have HA : Hid (gv 1 v 0 = tS v ∧ gl 1 v 0 = tl1 v ∧ ge 1 v 0 = te1 v) := ⟨rfl, rfl, rfl⟩
  simp only [HA.out.1, HA.out.2.1, HA.out.2.2] at ka f1 x1
  obtain ⟨P1, HP1⟩ : ∃ z, Hid (gp 1 v 0 0 = z) := ⟨_, rfl⟩
  rw [HP1.out] at r1
  simp only [HP1.out] at ka
  have kb := fun wx hx => getAny32 rv gg (tl1 v) P1 (te1 v) wx hx (by have := f1.2; omega) (by omega)
  have f2 := gl_sub (W := 4) (e := te1 v) f1.1
  have r2 := gp_in (W := 4) (l := tl1 v) (e := te1 v) (p := P1) (m := 1) r1
  have x2 := gvIn32 (e := te1 v) f1.1
  have HA2 : Hid (gv 4 (tl1 v) (te1 v) = tC v ∧ gl 4 (tl1 v) (te1 v) = tl2 v ∧ ge 4 (tl1 v) (te1 v) = te2 v) := ⟨rfl, rfl, rfl⟩
  simp only [HA2.out.1, HA2.out.2.1, HA2.out.2.2] at kb f2 x2
  obtain ⟨P2, HP2⟩ : ∃ z, Hid (gp 4 (tl1 v) (te1 v) P1 = z) := ⟨_, rfl⟩
  rw [HP2.out] at r2
  simp only [HP2.out] at kb
  have kc := fun wx hx => getAny32 rv gg (tl2 v) P2 (te2 v) wx hx (by have := f2.2; omega) (by omega)
  have f3 := gl_sub (W := 4) (e := te2 v) f2.1
  have r3 := gp_in (W := 4) (l := tl2 v) (e := te2 v) (p := P2) (m := 5) r2
  have x3 := gvIn32 (e := te2 v) f2.1
  have HA3 : Hid (gv 4 (tl2 v) (te2 v) = tN v ∧ gl 4 (tl2 v) (te2 v) = tl3 v ∧ ge 4 (tl2 v) (te2 v) = te3 v) := ⟨rfl, rfl, rfl⟩
  simp only [HA3.out.1, HA3.out.2.1, HA3.out.2.2] at kc f3 x3
  obtain ⟨P3, HP3⟩ : ∃ z, Hid (gp 4 (tl2 v) (te2 v) P2 = z) := ⟨_, rfl⟩
  rw [HP3.out] at r3
  simp only [HP3.out] at kc
  have kd := fun wx hx => getAny64 rv gg (tl3 v) P3 (te3 v) wx hx (by have := f3.2; omega) (by omega)
  have f4 := gl_sub (W := 8) (e := te3 v) f3.1
  have r4 := gp_in (W := 8) (l := tl3 v) (e := te3 v) (p := P3) (m := 9) r3
  have x4 := gvIn64 (e := te3 v) f3.1
  have HA4 : Hid (gv 8 (tl3 v) (te3 v) = tD v ∧ gl 8 (tl3 v) (te3 v) = tl4 v ∧ ge 8 (tl3 v) (te3 v) = te4 v) := ⟨rfl, rfl, rfl⟩
  simp only [HA4.out.1, HA4.out.2.1, HA4.out.2.2] at kd f4 x4
  obtain ⟨P4, HP4⟩ : ∃ z, Hid (gp 8 (tl3 v) (te3 v) P3 = z) := ⟨_, rfl⟩
  rw [HP4.out] at r4
  simp only [HP4.out] at kd
  have ke := fun wx hx => getAny64 rv gg (tl4 v) P4 (te4 v) wx hx (by have := f4.2; omega) (by omega)
  have f5 := gl_sub (W := 8) (e := te4 v) f4.1
  have r5 := gp_in (W := 8) (l := tl4 v) (e := te4 v) (p := P4) (m := 17) r4
  have x5 := gvIn64 (e := te4 v) f4.1
  have HA5 : Hid (gv 8 (tl4 v) (te4 v) = tE v ∧ gl 8 (tl4 v) (te4 v) = tl5 v ∧ ge 8 (tl4 v) (te4 v) = te5 v) := ⟨rfl, rfl, rfl⟩
  simp only [HA5.out.1, HA5.out.2.1, HA5.out.2.2] at ke f5 x5
  obtain ⟨P5, HP5⟩ : ∃ z, Hid (gp 8 (tl4 v) (te4 v) P4 = z) := ⟨_, rfl⟩
  rw [HP5.out] at r5
  simp only [HP5.out] at ke
  have kf := fun wx hx => leftAny rv gg (tl5 v) P5 (te5 v) wx hx
  obtain ⟨nl, HNL⟩ : ∃ z, Hid (ln (tl5 v) (te5 v) = z) := ⟨_, rfl⟩
  rw [HNL.out] at kf
  have kg := fun wx hx => bytesAny rv gg nl (tl5 v) P5 (te5 v) wx hx (by have := f1.2; have := f2.2; have := f3.2; have := f4.2; have := f5.2; omega) (by omega)
  have HRE : Hid (bz nl (tl5 v) (te5 v) = tR v) := by show _ = _; rw [← HNL.out]; rfl
  rw [HRE.out] at kg
  have HRB : Hid (Okb (tR v)) := by rw [← HRE.out]; exact bz_ok f5.1
  have HRL : Hid ((tR v).length ≤ 140737488351232) := by show _ ≤ _; rw [← HRE.out]; have h := @bz_len nl (tl5 v) (te5 v); have : nl ≤ (tl5 v).length := (by rw [← HNL.out]; unfold ln; split <;> omega); have := f1.2; have := f2.2; have := f3.2; have := f4.2; have := f5.2; omega
  clear HA HA2 HA3 HA4 HA5 HP1 HP2 HP3 HP4 HP5 f1 f2 f3 f4 f5 HRE HNL b2
  generalize tS v = S at *
  generalize tC v = C at *
  generalize tN v = N at *
  generalize tD v = D at *
  generalize tE v = E at *
  generalize tR v = R at *
  generalize tl1 v = L1 at *
  generalize tl2 v = L2 at *
  generalize tl3 v = L3 at *
  generalize tl4 v = L4 at *
  generalize tl5 v = L5 at *
  generalize te1 v = E1 at *
  generalize te2 v = E2 at *
  generalize te3 v = E3 at *
  generalize te4 v = E4 at *
  generalize te5 v = E5 at *
  have B0 := (lnew w none 0 0 0 0 0 0 0 0 0).alloc (B := w.heap.size) (by simp) (.cells #[.slice none 0 0, .int .i64 0, .int .i64 0, .int .i64 0, .int .u64 0, .int .u64 0, .int .i64 0, .int .i64 0] 64)
  have m0 := (Lm.new w none 0 0 0 0 0 0 0 0 0).kept (lnew _ none 0 0 0 0 0 0 0 0 0)
  have m1 := Lm.new (w.alloc (.cells #[.slice none 0 0, .int .i64 0, .int .i64 0, .int .i64 0, .int .u64 0, .int .u64 0, .int .i64 0, .int .i64 0] 64)) none 0 0 0 0 0 0 0 0 0
  rw [World.size_alloc] at m1
  have fr0 : ∀ x, x < w.heap.size → ((w.alloc (.cells #[.slice none 0 0, .int .i64 0, .int .i64 0, .int .i64 0, .int .u64 0, .int .u64 0, .int .i64 0, .int .i64 0] 64)).alloc (.cells #[.slice none 0 0, .int .i64 0, .int .i64 0, .int .i64 0, .int .u64 0, .int .u64 0, .int .i64 0, .int .i64 0] 64)).heap[x]? = w.heap[x]? := fun x h => B0.block x h
  have sk := hk.kept B0
  have sv := hv.kept B0
  obtain ⟨s, HQs⟩ : ∃ s, Hid (qs R = s) := ⟨_, rfl⟩
  obtain ⟨n, HQn⟩ : ∃ n, Hid (qn R = n) := ⟨_, rfl⟩
  rw [HQs.out, HQn.out]
  clear hk hv
  go_enter Tryz.func56, Tryz.ntmps56
  go_wp2_with fail
  refine (ks _ sk).mono ?_
  rintro e w1 ⟨rfl, sk1, g1⟩
  have HB1 : Hid (Below rk w w1) := bel_only (B0.mono (by omega)) g1 (Nat.le_refl _)
  have HM0 := hid (m0.at (g1.block w.heap.size (by omega)))
  have HM1 := hid (m1.at (g1.block (w.heap.size + 1) (by omega)))
  have HSV := hid (sv.only g1 (by omega) o5)
  have HSK := hid sk1
  have HF1 : Hid (∀ x, x < w.heap.size → x ≠ rk → x ≠ rv → w1.heap[x]? = w.heap[x]?) := fun x h1 h2 h3 => (g1.block x h2).trans (fr0 x h1)
  clear sk1 g1 m0 m1 sk sv B0 ks fr0
  go_wp2_with fail
  refine (kky _ HSK.out).mono ?_
  rintro e w2 ⟨a, rfl, l2, sk2, g2⟩
  have HB2 : Hid (Below rk w w2) := bel_only HB1.out g2 (Nat.le_refl _)
  have n0 := HM0.out.at (g2.block w.heap.size (by omega))
  have n1 := HM1.out.at (g2.block (w.heap.size + 1) (by omega))
  have s2 := HSV.out.only g2 (by omega) o5
  have f0 := n1.fz 0
  have c0 := n1.c0
  have HRL0 : Hid (Rl w (w2.setCell ⟨w.heap.size + 1, 0, none⟩ (.slice a kl kl)) rk gk rv gg v 0 0 a kl KB 0 0 0 0 0 0 0) := by
    have hb : ∀ k, k ≠ w.heap.size + 1 → (w2.setCell ⟨w.heap.size + 1, 0, none⟩ (.slice a kl kl)).heap[k]? = w2.heap[k]? := fun k hk => Below.heap_setCell _ _ _ _ hk
    exact ⟨n0.at (hb _ (by omega)), n1.key a kl kl, s2.other hb (by omega) (by omega), l2.kept fun _ => hb _ (by omega), HB2.out.setCell (p := ⟨w.heap.size + 1, 0, none⟩) (by show rk ≤ w.heap.size + 1; omega) _, fun x h1 h2 h3 => (hb x (by omega)).trans ((g2.block x h2).trans (HF1.out x h1 h2 h3)), o1, o2, o3, o4⟩
  clear HF1 HSK HSV HM0 HM1 HB1 HB2 l2 sk2 g2 n0 n1 s2 kky
  go_wp2_with fail
  clear c0 f0
  generalize (w2.setCell ⟨w.heap.size + 1, 0, none⟩ (.slice a kl kl)) = X0 at *
  refine (ka _ HRL0.out.rs).mono ?_
  rintro e y ⟨rfl, s3, g3⟩
  have t3 := HRL0.out.got g3 s3
  have f0 := t3.lm.fz 1
  have c0 := t3.lm.c1
  have HRL1 := hid (t3.p1 S)
  clear HRL0 s3 g3 t3 ka
  go_wp2_with fail
  clear c0 f0
  generalize (y.setCell ⟨w.heap.size + 1, 1, none⟩ (.int .i64 S)) = X1 at *
  refine (kb _ HRL1.out.rs).mono ?_
  rintro e y ⟨rfl, s3, g3⟩
  have t3 := HRL1.out.got g3 s3
  have f0 := t3.lm.fz 2
  have c0 := t3.lm.c2
  have HRL2 := hid (t3.p2 C)
  clear HRL1 s3 g3 t3 kb
  go_wp2_with fail
  clear c0 f0
  generalize (y.setCell ⟨w.heap.size + 1, 2, none⟩ (.int .i64 C)) = X2 at *
  refine (kc _ HRL2.out.rs).mono ?_
  rintro e y ⟨rfl, s3, g3⟩
  have t3 := HRL2.out.got g3 s3
  have f0 := t3.lm.fz 3
  have c0 := t3.lm.c3
  have HRL3 := hid (t3.p3 N)
  clear HRL2 s3 g3 t3 kc
  go_wp2_with fail
  clear c0 f0
  generalize (y.setCell ⟨w.heap.size + 1, 3, none⟩ (.int .i64 N)) = X3 at *
  refine (kd _ HRL3.out.rs).mono ?_
  rintro e y ⟨rfl, s3, g3⟩
  have t3 := HRL3.out.got g3 s3
  have f0 := t3.lm.fz 4
  have c0 := t3.lm.c4
  have HRL4 := hid (t3.p4 D)
  clear HRL3 s3 g3 t3 kd
  go_wp2_with fail
  clear c0 f0
  generalize (y.setCell ⟨w.heap.size + 1, 4, none⟩ (.int .u64 D)) = X4 at *
  refine (ke _ HRL4.out.rs).mono ?_
  rintro e y ⟨rfl, s3, g3⟩
  have t3 := HRL4.out.got g3 s3
  have f0 := t3.lm.fz 5
  have c0 := t3.lm.c5
  have HRL5 := hid (t3.p5 E)
  clear HRL4 s3 g3 t3 ke
  go_wp2_with fail
  clear c0 f0
  generalize (y.setCell ⟨w.heap.size + 1, 5, none⟩ (.int .u64 E)) = X5 at *
  refine (kf _ HRL5.out.rs).mono ?_
  rintro e y ⟨rfl, hy⟩
  rw [hy]
  clear hy y kf
  go_wp2_with fail
  refine (kg _ HRL5.out.rs).mono ?_
  rintro e y ⟨ra, rfl, l3, s3, g3⟩
  have HR6 := hid (HRL5.out.got g3 s3)
  have HL3 := hid l3
  clear HRL5 s3 g3 l3 kg
  have kh := sget_ ra R.length R.length R y HL3.out.bs (Nat.le_refl _) (by have := HRL.out; unfold maxLen; omega)
  generalize R.length = Rn at *
  rw [HQs.out, HQn.out] at kh
  generalize qe R = qe at *
  go_wp2_with fail
  refine kh.mono ?_
  rintro e z ⟨rfl, g4⟩
  have t6 := HR6.out.on g4
  have f6 := t6.lm.fz 6
  have c6 := t6.lm.c6
  have t7 := t6.p6 s
  have f7 := t7.lm.fz 7
  have c7 := t7.lm.c7
  have t8 := t7.p7 n
  have HR8 := hid t8
  have d0 := t8.lm.c0
  have d1 := t8.lm.c1
  have d2 := t8.lm.c2
  have d3 := t8.lm.c3
  have d4 := t8.lm.c4
  have d5 := t8.lm.c5
  have d6 := t8.lm.c6
  have d7 := t8.lm.c7
  clear HR6 g4 t6 t7 t8 kh HL3
  go_wp2_with (refine wpList_sln rfl rfl _ _ rfl w.heap.size a kl kl S C N D E s n rfl rfl (by with_reducible exact HR8.out.res) ?_)
  clear d0 d1 d2 d3 d4 d5 d6 d7 c6 c7 f6 f7
  refine bodyPost_ret (v := .agg #[.slice a kl kl, .int .i64 S, .int .i64 C, .int .i64 N, .int .u64 D, .int .u64 E, .int .i64 s, .int .i64 n]) ?_ rfl ⟨a, rfl, ?_, bel_row HR8.out.bel (by omega) _, fun x h1 h2 h3 => (setRow_other _ _ _ _ (by omega)).trans (HR8.out.fr x h1 h2 h3)⟩
  · exact results_cell_row rfl _ _ w.heap.size _ _ _ _ rfl (HR8.out.res.row a kl kl S C N D E s n) Tryz.underlying64 rfl sizeln
  · exact HR8.out.ky.kept fun _ => setRow_other _ _ _ _ (by omega)
end Go.Proofs.YtcbmgpmjnehjdaaGreat
namespace Go.Proofs.YtcbmgpmjnehjdaaGreat
set_option maxRecDepth 100000
open Go.RowKit
set_option linter.unusedVariables false

theorem bel_al (w : World) (o : Obj) : Below w.heap.size w (w.alloc o) := (Below.refl _ _).alloc (Nat.le_refl _) _
theorem Bw.al {W w : World} (h : Bw W w) (o : Obj) : Bw W (w.alloc o) := h.on (bel_al w o)
/-- A lane that was read: its block, made since W, and the bytes of its key beside it. -/
structure Lg (W X : World) (G : Nat) (a : Option Addr) (m : Nat) (k : List Int) (S C N D E s n : Int) : Prop where
  lm : Lm X G a m m S C N D E s n
  bw : Bw W X
  vs : Vs X (fun x => W.heap.size ≤ x ∧ x ≠ G) a m m k
  ge : W.heap.size ≤ G
theorem Lg.on {W X X' : World} {G : Nat} {a : Option Addr} {m : Nat} {k : List Int} {S C N D E s n : Int} (h : Lg W X G a m k S C N D E s n) (hb : Below X.heap.size X X') : Lg W X' G a m k S C N D E s n := ⟨h.lm.kept hb, Bw.on h.bw hb, h.vs.step fun x hx _ _ => hb.block x hx, h.ge⟩
theorem Lies.vs {w : World} {g : Nat} {a : Option Addr} {n c : Nat} {zs : List Int} (h : Lies w g a n c zs) {V : Nat → Prop} (hv : 0 < n → V g) : Vs w V a n c zs := by
  refine ⟨h.bs, h.2.1, h.2.2.1, fun e => ?_, fun ad e hn => ?_⟩
  · rcases h.2.2.2.2 with ⟨_, _, h0⟩ | ⟨off, cur, e', _⟩
    · exact h0
    · rw [e] at e'; cases e'
  · rcases h.2.2.2.2 with ⟨_, h0, _⟩ | ⟨off, cur, e', _⟩
    · omega
    · rw [e] at e'
      obtain rfl := Option.some.inj e'
      exact hv hn
theorem tK_long {k : List Int} (h : 0 < (tK k).length) : 0 < k.length := by
  unfold tK bz gl at h
  by_cases hk : k.length = 0
  · rw [List.eq_nil_of_length_eq_zero hk] at h
    simp at h
  · omega
theorem set8_cell {w : World} {g : Nat} {p : Addr} (h : p.block ≠ g) (v0 v1 v2 v3 v4 v5 v6 v7 : Value) : ((((((((w.setCell ⟨g, 0, none⟩ v0).setCell ⟨g, 1, none⟩ v1).setCell ⟨g, 2, none⟩ v2).setCell ⟨g, 3, none⟩ v3).setCell ⟨g, 4, none⟩ v4).setCell ⟨g, 5, none⟩ v5).setCell ⟨g, 6, none⟩ v6).setCell ⟨g, 7, none⟩ v7).cell? p = w.cell? p := World.cell?_of_block (set8_other h v0 v1 v2 v3 v4 v5 v6 v7)
theorem Bw.to4 {W w w' : World} {r : Nat} (h : Bw W w) (b : Below r w w') (hr : W.heap.size ≤ r) : Bw W w' := Below.trans h (b.mono hr)
set_option maxHeartbeats 40000000 in
/-- The landed get, of a lane. -/
theorem getL_ (ka va : Option Addr) (kn kc vn vc : Nat) (k v : List Int) (w : World) (hk : Bs w ka kn k) (hv : Bs w va vn v) (hka : ka = none → kc = 0) (hva : va = none → vc = 0) (hkc : kn ≤ kc) (hvc : vn ≤ vc) (h1 : kn ≤ 140737488351232) (h2 : vn ≤ 140737488351232) :
    Calls Tryz.prog 55 #[.agg #[.slice ka kn kc, .slice va vn vc], .func (.func 56) #[] #[], .func (.func 40) #[] #[]] w fun e w' => Ga w k v e w' := by
  have HG := hid (gtL_eq k v hv.2.1)
  have BA : Below w.heap.size w ((w.alloc (.cells #[.slice ka kn kc, .slice va vn vc] 54)).alloc (.cells #[.slice none 0 0, .int .i64 0, .int .i64 0, .int .i64 0, .int .u64 0, .int .u64 0, .int .i64 0, .int .i64 0] 64)) := (bel_al w _).alloc (by simp) _
  have m1 : ((w.alloc (.cells #[.slice ka kn kc, .slice va vn vc] 54)).alloc (.cells #[.slice none 0 0, .int .i64 0, .int .i64 0, .int .i64 0, .int .u64 0, .int .u64 0, .int .i64 0, .int .i64 0] 64)).heap[w.heap.size]? = some (.cells #[.slice ka kn kc, .slice va vn vc] 54 (0, 0)) := (Below.heap_alloc _ _ _ (by simp)).trans (heap_alloc_new w _)
  have m2 := Lm.new (w.alloc (.cells #[.slice ka kn kc, .slice va vn vc] 54)) none 0 0 0 0 0 0 0 0 0
  rw [World.size_alloc] at m2
  have HBA := hid BA
  have HM1 := hid m1
  have HM2 := hid m2
  have HK := hid hk
  have HV := hid hv
  have HWS : Hid (((w.alloc (.cells #[.slice ka kn kc, .slice va vn vc] 54)).alloc (.cells #[.slice none 0 0, .int .i64 0, .int .i64 0, .int .i64 0, .int .u64 0, .int .u64 0, .int .i64 0, .int .i64 0] 64)).heap.size = w.heap.size + 2) := by show _ = _; simp
  clear BA m1 m2 hk hv
  have y0 := (two_cell HM1.out).1
  have y1 := (two_cell HM1.out).2
  generalize HW : ((w.alloc (.cells #[.slice ka kn kc, .slice va vn vc] 54)).alloc (.cells #[.slice none 0 0, .int .i64 0, .int .i64 0, .int .i64 0, .int .u64 0, .int .u64 0, .int .i64 0, .int .i64 0] 64)) = W at *
  have k1 := fun wx (h : Bw W wx) => newReader15 ka kn kc k wx ((HK.out.below HBA.out).below h) hka h1 hkc (by have := Below.size h; have := HWS.out; omega)
  have k2 := fun wx (h : Bw W wx) => newReader15 va vn vc v wx ((HV.out.below HBA.out).below h) hva h2 hvc (by have := Below.size h; have := HWS.out; omega)
  have BW0 : Bw W { W with drawn := W.drawn + 1 } := Bw.drew W
  have BW1 : ∀ o, Bw W (({ W with drawn := W.drawn + 1 } : World).alloc o) := fun o => Bw.al BW0 o
  have k3 := fun rk gk rv gg wx hk hv a1 a2 a3 a4 => readLane_ rk gk rv gg k v wx hk hv (by rw [HK.out.1]; exact h1) (by rw [HV.out.1]; exact h2) HK.out.2.1 HV.out.2.1 a1 a2 a3 a4
  have HKO : Hid (Okb (tK k)) := bz_ok (gl_sub (W := 1) (e := 0) HK.out.2.1).1
  have HTL : Hid (0 < (tK k).length → 0 < kn) := fun h => by rw [← HK.out.1]; exact tK_long h
  have hb1 := gvIn8 (e := 0) HV.out.2.1
  have g1 := (gl_sub (W := 1) (e := 0) HV.out.2.1).1
  have hb2 := gvIn32 (e := te1 v) g1
  have g2 := (gl_sub (W := 4) (e := te1 v) g1).1
  have hb3 := gvIn32 (e := te2 v) g2
  have g3 := (gl_sub (W := 4) (e := te2 v) g2).1
  have hb4 := gvIn64 (e := te3 v) g3
  have g4 := (gl_sub (W := 8) (e := te3 v) g3).1
  have hb5 := gvIn64 (e := te4 v) g4
  have g5 := (gl_sub (W := 8) (e := te4 v) g4).1
  have hq : i64r (qs (tR v)) ∧ i64r (qn (tR v)) := q_bound (bz_ok g5)
  have HBD : Hid (i64r (tS v) ∧ i64r (tC v) ∧ i64r (tN v) ∧ u64r (tD v) ∧ u64r (tE v) ∧ i64r (qs (tR v)) ∧ i64r (qn (tR v))) := by
    unfold i64r u64r at *
    unfold tS tC tN tD tE tl4 tl3 tl2 tl1
    exact ⟨⟨by omega, by omega⟩, ⟨by omega, by omega⟩, ⟨by omega, by omega⟩, hb4, hb5, hq.1, hq.2⟩
  clear hb1 hb2 hb3 hb4 hb5 g1 g2 g3 g4 g5 hq
  have HKB : Hid (k.length = 33 → tK k = yK k) := fun h => tK_whole h
  have HTW : Hid (v.length = 37 → tS v = yS v ∧ tC v = rdN v 1 4 ∧ tN v = rdN v 5 4 ∧ tD v = rdN v 9 8 ∧ tE v = rdN v 17 8 ∧ tR v = v.drop 25) := fun h => t_whole HV.out.2.1 h
  have HY : Hid (yok k v = (lok (tK k).length (tS v) (tC v) (tN v) (qs (tR v)) (qn (tR v)) && sameB (lK (tK k)) k && sameB (lV (tS v) (tC v) (tN v) (tD v) (tE v) (qs (tR v)) (qn (tR v))) v)) := HG.out.symm
  have HYL : Hid (yok k v = true → k.length = 33 ∧ v.length = 37) := fun h => by
    unfold yok at h
    exact of_decide_eq_true (Bool.and_eq_true_iff.1 h).1
  obtain ⟨KB, hKB⟩ : ∃ x, tK k = x := ⟨_, rfl⟩
  obtain ⟨R, hR⟩ : ∃ x, tR v = x := ⟨_, rfl⟩
  obtain ⟨S, hS⟩ : ∃ x, tS v = x := ⟨_, rfl⟩
  obtain ⟨C, hC⟩ : ∃ x, tC v = x := ⟨_, rfl⟩
  obtain ⟨N, hN⟩ : ∃ x, tN v = x := ⟨_, rfl⟩
  obtain ⟨D, hD⟩ : ∃ x, tD v = x := ⟨_, rfl⟩
  obtain ⟨E, hE⟩ : ∃ x, tE v = x := ⟨_, rfl⟩
  rw [hKB] at HKO HTL HKB HY
  rw [hKB] at k3
  rw [hR, hS, hC, hN, hD, hE] at HBD HTW HY
  rw [hR, hS, hC, hN, hD, hE] at k3
  clear hKB hR hS hC hN hD hE
  obtain ⟨s, Hs⟩ : ∃ x, Hid (qs R = x) := ⟨_, rfl⟩
  obtain ⟨n, Hn⟩ : ∃ x, Hid (qn R = x) := ⟨_, rfl⟩
  obtain ⟨kl, HKL⟩ : ∃ x : Nat, Hid (KB.length = x) := ⟨_, rfl⟩
  simp only [Hs.out, Hn.out, HKL.out] at HBD HY k3 HTL
  clear HG hka hva hkc hvc
  go_enter Tryz.func55, Tryz.ntmps55
  go_wp2_with fail
  clear HW
  go_region_held (fun wx => wx.cell? ⟨w.heap.size, 0, none⟩ = some (.slice ka kn kc) ∧ wx.cell? ⟨w.heap.size, 1, none⟩ = some (.slice va vn vc)) (go_keep) (first | (go_at_call 56; refine (k3 r1 g1 r2 g2 _ (by first | exact R1.out | exact R1.out.kept (bel_al _ _)) (by first | exact R2.out | exact R2.out.kept (bel_al _ _)) HJ1.out HRR.out HJ2.out HNE.out).mono ?_; rintro en w4 ⟨a4, rfl, l4, b4, fr4⟩; have HNW : Hid (w.heap.size < W.heap.size ∧ w.heap.size < w2.heap.size ∧ w.heap.size < w3.heap.size) := (by have h0 := HWS.out; have h1 := Below.size G2; have h2 := Below.size G3; show _ ∧ _ ∧ _; omega); have HBX := hid (Bw.to4 (by first | exact G3 | exact Bw.al G3 _) b4 HR1.out); have u4 := Bw.cell HBX.out y0; have u5 := Bw.cell HBX.out y1; have HLI := hid l4; (first | (have L4 : Lm w4 w3.heap.size none 0 0 0 0 0 0 0 0 0 := (Lm.new w3 none 0 0 0 0 0 0 0 0 0).at (fr4 w3.heap.size (by simp) (by have := HLT3.out; omega) (by have := HLT3.out; omega)); have z0 := L4.c0; have f0 := L4.fz 0; have z1 := L4.c1; have f1 := L4.fz 1; have z2 := L4.c2; have f2 := L4.fz 2; have z3 := L4.c3; have f3 := L4.fz 3; have z4 := L4.c4; have f4 := L4.fz 4; have z5 := L4.c5; have f5 := L4.fz 5; have z6 := L4.c6; have f6 := L4.fz 6; have z7 := L4.c7; have f7 := L4.fz 7; have hN := HNW.out; have e0 := (set8_cell (g := w3.heap.size) (p := ⟨w.heap.size, 0, none⟩) (by show w.heap.size ≠ w3.heap.size; omega) (.slice a4 kl kl) (.int .i64 S) (.int .i64 C) (.int .i64 N) (.int .u64 D) (.int .u64 E) (.int .i64 s) (.int .i64 n)).trans u4; have e1 := (set8_cell (g := w3.heap.size) (p := ⟨w.heap.size, 1, none⟩) (by show w.heap.size ≠ w3.heap.size; omega) (.slice a4 kl kl) (.int .i64 S) (.int .i64 C) (.int .i64 N) (.int .u64 D) (.int .u64 E) (.int .i64 s) (.int .i64 n)).trans u5; clear hN; have HL4 := hid L4; clear L4) | (have L4 : Lm w4 w2.heap.size none 0 0 0 0 0 0 0 0 0 := ((Lm.new w2 none 0 0 0 0 0 0 0 0 0).kept HB3.out).at (fr4 w2.heap.size (Nat.lt_of_lt_of_le (by simp) HB3.out.size) (by have := HLT2.out; omega) (by have h := HI2.out; simp at h; omega)); have z0 := L4.c0; have f0 := L4.fz 0; have z1 := L4.c1; have f1 := L4.fz 1; have z2 := L4.c2; have f2 := L4.fz 2; have z3 := L4.c3; have f3 := L4.fz 3; have z4 := L4.c4; have f4 := L4.fz 4; have z5 := L4.c5; have f5 := L4.fz 5; have z6 := L4.c6; have f6 := L4.fz 6; have z7 := L4.c7; have f7 := L4.fz 7; have hN := HNW.out; have e0 := (set8_cell (g := w2.heap.size) (p := ⟨w.heap.size, 0, none⟩) (by show w.heap.size ≠ w2.heap.size; omega) (.slice a4 kl kl) (.int .i64 S) (.int .i64 C) (.int .i64 N) (.int .u64 D) (.int .u64 E) (.int .i64 s) (.int .i64 n)).trans u4; have e1 := (set8_cell (g := w2.heap.size) (p := ⟨w.heap.size, 1, none⟩) (by show w.heap.size ≠ w2.heap.size; omega) (.slice a4 kl kl) (.int .i64 S) (.int .i64 C) (.int .i64 N) (.int .u64 D) (.int .u64 E) (.int .i64 s) (.int .i64 n)).trans u5; clear hN; have HL4 := hid L4; clear L4) | (have L4 : Lm w4 W.heap.size none 0 0 0 0 0 0 0 0 0 := (((Lm.new { W with drawn := W.drawn + 1 } none 0 0 0 0 0 0 0 0 0).kept HB2.out).kept HB3.out).at (fr4 W.heap.size (Nat.lt_of_lt_of_le (by simp) (Nat.le_trans HB2.out.size HB3.out.size)) (by have h := HI1.out; simp at h; omega) (by have h := HI1.out; have h2 := HRR.out; simp at h; omega)); have z0 := L4.c0; have f0 := L4.fz 0; have z1 := L4.c1; have f1 := L4.fz 1; have z2 := L4.c2; have f2 := L4.fz 2; have z3 := L4.c3; have f3 := L4.fz 3; have z4 := L4.c4; have f4 := L4.fz 4; have z5 := L4.c5; have f5 := L4.fz 5; have z6 := L4.c6; have f6 := L4.fz 6; have z7 := L4.c7; have f7 := L4.fz 7; have hN := HNW.out; have e0 := (set8_cell (g := W.heap.size) (p := ⟨w.heap.size, 0, none⟩) (by show w.heap.size ≠ W.heap.size; omega) (.slice a4 kl kl) (.int .i64 S) (.int .i64 C) (.int .i64 N) (.int .u64 D) (.int .u64 E) (.int .i64 s) (.int .i64 n)).trans u4; have e1 := (set8_cell (g := W.heap.size) (p := ⟨w.heap.size, 1, none⟩) (by show w.heap.size ≠ W.heap.size; omega) (.slice a4 kl kl) (.int .i64 S) (.int .i64 C) (.int .i64 N) (.int .u64 D) (.int .u64 E) (.int .i64 s) (.int .i64 n)).trans u5; clear hN; have HL4 := hid L4; clear L4) | skip); have HLT4 : Hid (g1 < w4.heap.size) := (by have h3 := HLT3.out; have h4 := b4.size; first | (show g1 < w4.heap.size; have h5 := HJ1.out; omega) | (simp at h4; show g1 < w4.heap.size; have h5 := HJ1.out; omega)); clear l4 b4 fr4) | (have hh := G2; clear hh; go_at_call 89; refine (k2 _ (by first | exact G2 | exact Bw.al G2 _)).mono ?_; rintro en w3 ⟨r2, g2, rfl, s2, i2, j2, y2, b3⟩; have G3 := Bw.on (by first | exact G2 | exact Bw.al G2 _) b3; have u2 := Bw.cell G3 y0; have u3 := Bw.cell G3 y1; have HB3 := hid b3; have B23 : Below w2.heap.size w2 w3 := (by first | exact b3 | exact bel_bel (bel_al w2 _) (by simp) b3); have R1 := hid (HS1.out.kept B23); have R2 := hid s2; have HI2 := hid i2; have HGE2 : Hid (w2.heap.size ≤ r2) := (by have h := i2; first | exact h | (simp at h; show w2.heap.size ≤ r2; omega)); have HRR : Hid (r1 < r2) := (by have h0 := HLT2.out; have h := HGE2.out; show r1 < r2; omega); have HJ2 := hid j2; have HNE : Hid (g2 ≠ r1) := (by have h0 := HLT2.out; have h1 := HR1.out; have h2 := HWS.out; have h := y2; show g2 ≠ r1; first | omega | (simp at h; omega)); have HLT3 : Hid (r1 < w3.heap.size ∧ r2 < w3.heap.size) := ⟨R1.out.lt, s2.lt⟩; clear s2 i2 j2 y2 b3 B23) | (go_at_call 89; refine (k1 _ (by first | exact BW0 | exact BW1 _)).mono ?_; rintro en w2 ⟨r1, g1, rfl, s1, i1, j1, y1', b2⟩; have G2 := Bw.on (by first | exact BW0 | exact BW1 _) b2; have u0 := Bw.cell G2 y0; have u1 := Bw.cell G2 y1; have HB2 := hid b2; have HY1 := hid y1'; have HS1 := hid s1; have HJ1 := hid j1; have HR1 : Hid (W.heap.size ≤ r1) := (by have h := i1; first | exact h | (simp at h; show W.heap.size ≤ r1; omega)); have HI1 := hid i1; have HG1 : Hid (0 < kn → W.heap.size ≤ g1) := (by intro hkn; have h := y1'; first | (simp at h; omega) | (rcases h with h | h; · exact h; · omega)); have HLT2 : Hid (r1 < w2.heap.size) := s1.lt; clear s1 i1 j1 y1' b2))
  · have L : Lg W (w4.alloc (.cells #[.slice a4 kl kl, .int .i64 S, .int .i64 C, .int .i64 N, .int .u64 D, .int .u64 E, .int .i64 s, .int .i64 n] 64)) w4.heap.size a4 kl KB S C N D E s n := by
      refine ⟨Lm.new w4 a4 kl kl S C N D E s n, HBX.out.al _, ?_, Below.size HBX.out⟩
      exact (HLI.out.vs (V := fun x => W.heap.size ≤ x ∧ x ≠ w4.heap.size) fun h => ⟨HG1.out (HTL.out h), by have := HLT4.out; omega⟩).step fun x hx _ _ => Below.heap_alloc _ _ _ hx
    have HL := hid L
    generalize (w4.alloc (.cells #[.slice a4 kl kl, .int .i64 S, .int .i64 C, .int .i64 N, .int .u64 D, .int .u64 E, .int .i64 s, .int .i64 n] 64)) = X at HL ⊢
    generalize w4.heap.size = G at HL ⊢
    clear L u0 u1 u2 u3 u4 u5 G2 G3 BW0 BW1 k1 k2 k3 R1 R2 HI1 HJ1 HB2 HS1 HR1 HG1 HY1 HLT2 HI2 HB3 HGE2 HRR HJ2 HNE HLT3 HBX HLI HLT4 HNW HM1
    have kp := putLane_ a4 kl kl KB S C N D E s n X HL.out.vs.bs (Nat.le_trans HL.out.vs.nc HL.out.vs.cm) HBD.out.1 HBD.out.2.1 HBD.out.2.2.1 HBD.out.2.2.2.1 HBD.out.2.2.2.2.1 HBD.out.2.2.2.2.2.1 HBD.out.2.2.2.2.2.2
    obtain ⟨b1, Hb1⟩ : ∃ x, Hid (lok kl S C N s n = x) := ⟨_, rfl⟩
    obtain ⟨RK, HRK⟩ : ∃ x, Hid (lRK KB S C N s n = x) := ⟨_, rfl⟩
    obtain ⟨RV, HRV⟩ : ∃ x, Hid (lRV KB S C N D E s n = x) := ⟨_, rfl⟩
    obtain ⟨RE, HRE⟩ : ∃ x, Hid (lRE KB S C N s n = x) := ⟨_, rfl⟩
    have HE1 : Hid (RE = if b1 then 0 else 114) := by show _ = _; rw [← HRE.out, ← Hb1.out]; unfold lRE; rw [HKL.out]
    have HY2 : Hid (yok k v = (b1 && sameB RK k && sameB RV v)) := by
      show _ = _
      rw [HY.out, Hb1.out]
      cases b1
      · rfl
      · have e1 : RK = lK KB := by rw [← HRK.out]; unfold lRK; rw [HKL.out, Hb1.out]; rfl
        have e2 : RV = lV S C N D E s n := by rw [← HRV.out]; unfold lRV; rw [HKL.out, Hb1.out]; rfl
        rw [e1, e2]
    rw [HRK.out, HRV.out, HRE.out] at kp
    have d0 := HL.out.lm.c0
    have d1 := HL.out.lm.c1
    have d2 := HL.out.lm.c2
    have d3 := HL.out.lm.c3
    have d4 := HL.out.lm.c4
    have d5 := HL.out.lm.c5
    have d6 := HL.out.lm.c6
    have d7 := HL.out.lm.c7
    go_wp2_with fail
    clear d0 d1 d2 d3 d4 d5 d6 d7
    refine kp.mono ?_
    rintro e w9 ⟨pa, pc, qa, qc, rfl, vk, vv, g9⟩
    obtain ⟨pk, Hpk⟩ : ∃ x : Nat, Hid (RK.length = x) := ⟨_, rfl⟩
    obtain ⟨pv, Hpv⟩ : ∃ x : Nat, Hid (RV.length = x) := ⟨_, rfl⟩
    rw [Hpk.out] at vk
    rw [Hpv.out] at vv
    rw [Hpk.out, Hpv.out]
    have B9 := bel_al w9 (.cells #[.slice pa pk pc, .slice qa pv qc] 54)
    have m9 := heap_alloc_new w9 (.cells #[.slice pa pk pc, .slice qa pv qc] 54)
    have HL9 := hid ((HL.out.on g9).on B9)
    have z0 := Bw.cell HL9.out.bw y0
    have z1 := Bw.cell HL9.out.bw y1
    have x0 := (two_cell m9).1
    have x1 := (two_cell m9).2
    have ke := fun wx (hx : wx = w9.alloc (.cells #[.slice pa pk pc, .slice qa pv qc] 54)) => beq_ pa ka pk pc kn kc RK k wx (by rw [hx]; exact vk.bs.below B9) (by rw [hx]; exact (HK.out.below HBA.out).below HL9.out.bw)
    have kf := fun wx (hx : wx = w9.alloc (.cells #[.slice pa pk pc, .slice qa pv qc] 54)) => beq_ qa va pv qc vn vc RV v wx (by rw [hx]; exact vv.bs.below B9) (by rw [hx]; exact (HV.out.below HBA.out).below HL9.out.bw)
    have HZ := hid (HM2.out.kept HL9.out.bw)
    have HBX9 := hid (bel_bel HBA.out HBA.out.size HL9.out.bw)
    have HZA := hid (HZ.out.kept (bel_al _ (.cells #[.slice none 0 0, .int .i64 0, .int .i64 0, .int .i64 0, .int .u64 0, .int .u64 0, .int .i64 0, .int .i64 0] 64)))
    have HBXA := hid (bel_bel HBX9.out HBX9.out.size (bel_al _ (.cells #[.slice none 0 0, .int .i64 0, .int .i64 0, .int .i64 0, .int .u64 0, .int .u64 0, .int .i64 0, .int .i64 0] 64)))
    clear vk vv g9 B9 m9 HL kp
    have e1 := HE1.out
    clear HE1 HRE HRK HRV Hb1
    cases b1
    · simp only [if_false, Bool.false_eq_true] at e1
      subst e1
      clear ke kf
      go_wp2_with (refine wpList_sln rfl rfl _ _ rfl (w.heap.size + 1) none 0 0 0 0 0 0 0 0 0 rfl rfl (by with_reducible exact HZA.out) ?_)
      refine bodyPost_ret (v := .tuple #[.agg #[.slice none 0 0, .int .i64 0, .int .i64 0, .int .i64 0, .int .u64 0, .int .u64 0, .int .i64 0, .int .i64 0], .int .i64 114]) ?_ rfl ⟨⟨none, 0, ?_⟩, bel_row HBXA.out (Nat.le_succ _) _⟩
      · exact results_ln rfl _ _ (w.heap.size + 1) none 0 0 0 0 0 0 0 0 0 _ rfl rfl (HZA.out.row none 0 0 0 0 0 0 0 0 0)
      · have hy : yok k v = false := by rw [HY2.out]; rfl
        rw [hy]
        exact rfl
    · simp only [if_true] at e1
      subst e1
      obtain ⟨q1, Hq1⟩ : ∃ x, Hid (sameB RK k = x) := ⟨_, rfl⟩
      obtain ⟨q2, Hq2⟩ : ∃ x, Hid (sameB RV v = x) := ⟨_, rfl⟩
      rw [Hq1.out] at ke HY2
      rw [Hq2.out] at kf HY2
      cases q1
      · go_wp2_with fail
        refine (ke _ rfl).mono ?_
        rintro e w10 ⟨rfl, hw⟩
        rw [hw]
        clear hw w10 ke kf
        go_wp2_with (refine wpList_sln rfl rfl _ _ rfl (w.heap.size + 1) none 0 0 0 0 0 0 0 0 0 rfl rfl (by with_reducible exact HZA.out) ?_)
        refine bodyPost_ret (v := .tuple #[.agg #[.slice none 0 0, .int .i64 0, .int .i64 0, .int .i64 0, .int .u64 0, .int .u64 0, .int .i64 0, .int .i64 0], .int .i64 114]) ?_ rfl ⟨⟨none, 0, ?_⟩, bel_row HBXA.out (Nat.le_succ _) _⟩
        · exact results_ln rfl _ _ (w.heap.size + 1) none 0 0 0 0 0 0 0 0 0 _ rfl rfl (HZA.out.row none 0 0 0 0 0 0 0 0 0)
        · have hy : yok k v = false := by rw [HY2.out]; rfl
          rw [hy]
          exact rfl
      · cases q2
        · go_wp2_with fail
          refine (ke _ rfl).mono ?_
          rintro e w10 ⟨rfl, hw⟩
          rw [hw]
          clear hw w10 ke
          go_wp2_with fail
          refine (kf _ rfl).mono ?_
          rintro e w10 ⟨rfl, hw⟩
          rw [hw]
          clear hw w10 kf
          go_wp2_with (refine wpList_sln rfl rfl _ _ rfl (w.heap.size + 1) none 0 0 0 0 0 0 0 0 0 rfl rfl (by with_reducible exact HZA.out) ?_)
          refine bodyPost_ret (v := .tuple #[.agg #[.slice none 0 0, .int .i64 0, .int .i64 0, .int .i64 0, .int .u64 0, .int .u64 0, .int .i64 0, .int .i64 0], .int .i64 114]) ?_ rfl ⟨⟨none, 0, ?_⟩, bel_row HBXA.out (Nat.le_succ _) _⟩
          · exact results_ln rfl _ _ (w.heap.size + 1) none 0 0 0 0 0 0 0 0 0 _ rfl rfl (HZA.out.row none 0 0 0 0 0 0 0 0 0)
          · have hy : yok k v = false := by rw [HY2.out]; rfl
            rw [hy]
            exact rfl
        · go_wp2_with fail
          refine (ke _ rfl).mono ?_
          rintro e w10 ⟨rfl, hw⟩
          rw [hw]
          clear hw w10 ke
          go_wp2_with fail
          refine (kf _ rfl).mono ?_
          rintro e w10 ⟨rfl, hw⟩
          rw [hw]
          clear hw w10 kf
          have d0 := HL9.out.lm.c0
          have d1 := HL9.out.lm.c1
          have d2 := HL9.out.lm.c2
          have d3 := HL9.out.lm.c3
          have d4 := HL9.out.lm.c4
          have d5 := HL9.out.lm.c5
          have d6 := HL9.out.lm.c6
          have d7 := HL9.out.lm.c7
          go_wp2_with (refine wpList_sln rfl rfl _ _ rfl (w.heap.size + 1) a4 kl kl S C N D E s n rfl rfl (by with_reducible exact HZ.out) ?_)
          have hy : yok k v = true := by rw [HY2.out]; rfl
          obtain ⟨t1, t2⟩ := HYL.out hy
          obtain ⟨s1, s2, s3, s4, s5, s6⟩ := HTW.out t2
          have e32 : kl = 32 := by rw [← HKL.out, HKB.out t1]; unfold yK; rw [List.length_drop]; omega
          refine bodyPost_ret (v := .tuple #[.agg #[.slice a4 kl kl, .int .i64 S, .int .i64 C, .int .i64 N, .int .u64 D, .int .u64 E, .int .i64 s, .int .i64 n], .int .i64 0]) ?_ rfl ⟨⟨a4, kl, ?_⟩, bel_row HBX9.out (Nat.le_succ _) _⟩
          · exact results_ln rfl _ _ (w.heap.size + 1) a4 kl kl S C N D E s n _ rfl rfl (HZ.out.row a4 kl kl S C N D E s n)
          · rw [hy, if_pos rfl, ← s1, ← s2, ← s3, ← s4, ← s5, ← s6, Hs.out, Hn.out, ← HKB.out t1]
            subst e32
            refine ⟨rfl, ?_⟩
            exact (HL9.out.vs.step fun x _ hV _ => setRow_other _ _ _ _ (by have := HWS.out; omega)).wide fun x _ hx => by have := HWS.out; omega
  · have L : Lg W ((((((((w4.setCell ⟨w3.heap.size, 0, none⟩ (.slice a4 kl kl)).setCell ⟨w3.heap.size, 1, none⟩ (.int .i64 S)).setCell ⟨w3.heap.size, 2, none⟩ (.int .i64 C)).setCell ⟨w3.heap.size, 3, none⟩ (.int .i64 N)).setCell ⟨w3.heap.size, 4, none⟩ (.int .u64 D)).setCell ⟨w3.heap.size, 5, none⟩ (.int .u64 E)).setCell ⟨w3.heap.size, 6, none⟩ (.int .i64 s)).setCell ⟨w3.heap.size, 7, none⟩ (.int .i64 n)) w3.heap.size a4 kl KB S C N D E s n := by
      refine ⟨HL4.out.set8 a4 kl kl S C N D E s n, set8_bel HBX.out (Below.size G3) _ _ _ _ _ _ _ _, ?_, (Below.size G3)⟩
      exact (HLI.out.vs (V := fun x => W.heap.size ≤ x ∧ x ≠ w3.heap.size) fun h => ⟨HG1.out (HTL.out h), by have := HLT3.out; have := HJ1.out; omega⟩).step fun x hx hV _ => set8_other hV.2 _ _ _ _ _ _ _ _
    have HL := hid L
    generalize ((((((((w4.setCell ⟨w3.heap.size, 0, none⟩ (.slice a4 kl kl)).setCell ⟨w3.heap.size, 1, none⟩ (.int .i64 S)).setCell ⟨w3.heap.size, 2, none⟩ (.int .i64 C)).setCell ⟨w3.heap.size, 3, none⟩ (.int .i64 N)).setCell ⟨w3.heap.size, 4, none⟩ (.int .u64 D)).setCell ⟨w3.heap.size, 5, none⟩ (.int .u64 E)).setCell ⟨w3.heap.size, 6, none⟩ (.int .i64 s)).setCell ⟨w3.heap.size, 7, none⟩ (.int .i64 n)) = X at HL ⊢
    generalize w3.heap.size = G at HL ⊢
    clear L HL4 e0 e1 z0 f0 z1 f1 z2 f2 z3 f3 z4 f4 z5 f5 z6 f6 z7 f7 u0 u1 u2 u3 u4 u5 G2 G3 BW0 BW1 k1 k2 k3 R1 R2 HI1 HJ1 HB2 HS1 HR1 HG1 HY1 HLT2 HI2 HB3 HGE2 HRR HJ2 HNE HLT3 HBX HLI HLT4 HNW HM1
    have kp := putLane_ a4 kl kl KB S C N D E s n X HL.out.vs.bs (Nat.le_trans HL.out.vs.nc HL.out.vs.cm) HBD.out.1 HBD.out.2.1 HBD.out.2.2.1 HBD.out.2.2.2.1 HBD.out.2.2.2.2.1 HBD.out.2.2.2.2.2.1 HBD.out.2.2.2.2.2.2
    obtain ⟨b1, Hb1⟩ : ∃ x, Hid (lok kl S C N s n = x) := ⟨_, rfl⟩
    obtain ⟨RK, HRK⟩ : ∃ x, Hid (lRK KB S C N s n = x) := ⟨_, rfl⟩
    obtain ⟨RV, HRV⟩ : ∃ x, Hid (lRV KB S C N D E s n = x) := ⟨_, rfl⟩
    obtain ⟨RE, HRE⟩ : ∃ x, Hid (lRE KB S C N s n = x) := ⟨_, rfl⟩
    have HE1 : Hid (RE = if b1 then 0 else 114) := by show _ = _; rw [← HRE.out, ← Hb1.out]; unfold lRE; rw [HKL.out]
    have HY2 : Hid (yok k v = (b1 && sameB RK k && sameB RV v)) := by
      show _ = _
      rw [HY.out, Hb1.out]
      cases b1
      · rfl
      · have e1 : RK = lK KB := by rw [← HRK.out]; unfold lRK; rw [HKL.out, Hb1.out]; rfl
        have e2 : RV = lV S C N D E s n := by rw [← HRV.out]; unfold lRV; rw [HKL.out, Hb1.out]; rfl
        rw [e1, e2]
    rw [HRK.out, HRV.out, HRE.out] at kp
    have d0 := HL.out.lm.c0
    have d1 := HL.out.lm.c1
    have d2 := HL.out.lm.c2
    have d3 := HL.out.lm.c3
    have d4 := HL.out.lm.c4
    have d5 := HL.out.lm.c5
    have d6 := HL.out.lm.c6
    have d7 := HL.out.lm.c7
    go_wp2_with fail
    clear d0 d1 d2 d3 d4 d5 d6 d7
    refine kp.mono ?_
    rintro e w9 ⟨pa, pc, qa, qc, rfl, vk, vv, g9⟩
    obtain ⟨pk, Hpk⟩ : ∃ x : Nat, Hid (RK.length = x) := ⟨_, rfl⟩
    obtain ⟨pv, Hpv⟩ : ∃ x : Nat, Hid (RV.length = x) := ⟨_, rfl⟩
    rw [Hpk.out] at vk
    rw [Hpv.out] at vv
    rw [Hpk.out, Hpv.out]
    have B9 := bel_al w9 (.cells #[.slice pa pk pc, .slice qa pv qc] 54)
    have m9 := heap_alloc_new w9 (.cells #[.slice pa pk pc, .slice qa pv qc] 54)
    have HL9 := hid ((HL.out.on g9).on B9)
    have z0 := Bw.cell HL9.out.bw y0
    have z1 := Bw.cell HL9.out.bw y1
    have x0 := (two_cell m9).1
    have x1 := (two_cell m9).2
    have ke := fun wx (hx : wx = w9.alloc (.cells #[.slice pa pk pc, .slice qa pv qc] 54)) => beq_ pa ka pk pc kn kc RK k wx (by rw [hx]; exact vk.bs.below B9) (by rw [hx]; exact (HK.out.below HBA.out).below HL9.out.bw)
    have kf := fun wx (hx : wx = w9.alloc (.cells #[.slice pa pk pc, .slice qa pv qc] 54)) => beq_ qa va pv qc vn vc RV v wx (by rw [hx]; exact vv.bs.below B9) (by rw [hx]; exact (HV.out.below HBA.out).below HL9.out.bw)
    have HZ := hid (HM2.out.kept HL9.out.bw)
    have HBX9 := hid (bel_bel HBA.out HBA.out.size HL9.out.bw)
    have HZA := hid (HZ.out.kept (bel_al _ (.cells #[.slice none 0 0, .int .i64 0, .int .i64 0, .int .i64 0, .int .u64 0, .int .u64 0, .int .i64 0, .int .i64 0] 64)))
    have HBXA := hid (bel_bel HBX9.out HBX9.out.size (bel_al _ (.cells #[.slice none 0 0, .int .i64 0, .int .i64 0, .int .i64 0, .int .u64 0, .int .u64 0, .int .i64 0, .int .i64 0] 64)))
    clear vk vv g9 B9 m9 HL kp
    have e1 := HE1.out
    clear HE1 HRE HRK HRV Hb1
    cases b1
    · simp only [if_false, Bool.false_eq_true] at e1
      subst e1
      clear ke kf
      go_wp2_with (refine wpList_sln rfl rfl _ _ rfl (w.heap.size + 1) none 0 0 0 0 0 0 0 0 0 rfl rfl (by with_reducible exact HZA.out) ?_)
      refine bodyPost_ret (v := .tuple #[.agg #[.slice none 0 0, .int .i64 0, .int .i64 0, .int .i64 0, .int .u64 0, .int .u64 0, .int .i64 0, .int .i64 0], .int .i64 114]) ?_ rfl ⟨⟨none, 0, ?_⟩, bel_row HBXA.out (Nat.le_succ _) _⟩
      · exact results_ln rfl _ _ (w.heap.size + 1) none 0 0 0 0 0 0 0 0 0 _ rfl rfl (HZA.out.row none 0 0 0 0 0 0 0 0 0)
      · have hy : yok k v = false := by rw [HY2.out]; rfl
        rw [hy]
        exact rfl
    · simp only [if_true] at e1
      subst e1
      obtain ⟨q1, Hq1⟩ : ∃ x, Hid (sameB RK k = x) := ⟨_, rfl⟩
      obtain ⟨q2, Hq2⟩ : ∃ x, Hid (sameB RV v = x) := ⟨_, rfl⟩
      rw [Hq1.out] at ke HY2
      rw [Hq2.out] at kf HY2
      cases q1
      · go_wp2_with fail
        refine (ke _ rfl).mono ?_
        rintro e w10 ⟨rfl, hw⟩
        rw [hw]
        clear hw w10 ke kf
        go_wp2_with (refine wpList_sln rfl rfl _ _ rfl (w.heap.size + 1) none 0 0 0 0 0 0 0 0 0 rfl rfl (by with_reducible exact HZA.out) ?_)
        refine bodyPost_ret (v := .tuple #[.agg #[.slice none 0 0, .int .i64 0, .int .i64 0, .int .i64 0, .int .u64 0, .int .u64 0, .int .i64 0, .int .i64 0], .int .i64 114]) ?_ rfl ⟨⟨none, 0, ?_⟩, bel_row HBXA.out (Nat.le_succ _) _⟩
        · exact results_ln rfl _ _ (w.heap.size + 1) none 0 0 0 0 0 0 0 0 0 _ rfl rfl (HZA.out.row none 0 0 0 0 0 0 0 0 0)
        · have hy : yok k v = false := by rw [HY2.out]; rfl
          rw [hy]
          exact rfl
      · cases q2
        · go_wp2_with fail
          refine (ke _ rfl).mono ?_
          rintro e w10 ⟨rfl, hw⟩
          rw [hw]
          clear hw w10 ke
          go_wp2_with fail
          refine (kf _ rfl).mono ?_
          rintro e w10 ⟨rfl, hw⟩
          rw [hw]
          clear hw w10 kf
          go_wp2_with (refine wpList_sln rfl rfl _ _ rfl (w.heap.size + 1) none 0 0 0 0 0 0 0 0 0 rfl rfl (by with_reducible exact HZA.out) ?_)
          refine bodyPost_ret (v := .tuple #[.agg #[.slice none 0 0, .int .i64 0, .int .i64 0, .int .i64 0, .int .u64 0, .int .u64 0, .int .i64 0, .int .i64 0], .int .i64 114]) ?_ rfl ⟨⟨none, 0, ?_⟩, bel_row HBXA.out (Nat.le_succ _) _⟩
          · exact results_ln rfl _ _ (w.heap.size + 1) none 0 0 0 0 0 0 0 0 0 _ rfl rfl (HZA.out.row none 0 0 0 0 0 0 0 0 0)
          · have hy : yok k v = false := by rw [HY2.out]; rfl
            rw [hy]
            exact rfl
        · go_wp2_with fail
          refine (ke _ rfl).mono ?_
          rintro e w10 ⟨rfl, hw⟩
          rw [hw]
          clear hw w10 ke
          go_wp2_with fail
          refine (kf _ rfl).mono ?_
          rintro e w10 ⟨rfl, hw⟩
          rw [hw]
          clear hw w10 kf
          have d0 := HL9.out.lm.c0
          have d1 := HL9.out.lm.c1
          have d2 := HL9.out.lm.c2
          have d3 := HL9.out.lm.c3
          have d4 := HL9.out.lm.c4
          have d5 := HL9.out.lm.c5
          have d6 := HL9.out.lm.c6
          have d7 := HL9.out.lm.c7
          go_wp2_with (refine wpList_sln rfl rfl _ _ rfl (w.heap.size + 1) a4 kl kl S C N D E s n rfl rfl (by with_reducible exact HZ.out) ?_)
          have hy : yok k v = true := by rw [HY2.out]; rfl
          obtain ⟨t1, t2⟩ := HYL.out hy
          obtain ⟨s1, s2, s3, s4, s5, s6⟩ := HTW.out t2
          have e32 : kl = 32 := by rw [← HKL.out, HKB.out t1]; unfold yK; rw [List.length_drop]; omega
          refine bodyPost_ret (v := .tuple #[.agg #[.slice a4 kl kl, .int .i64 S, .int .i64 C, .int .i64 N, .int .u64 D, .int .u64 E, .int .i64 s, .int .i64 n], .int .i64 0]) ?_ rfl ⟨⟨a4, kl, ?_⟩, bel_row HBX9.out (Nat.le_succ _) _⟩
          · exact results_ln rfl _ _ (w.heap.size + 1) a4 kl kl S C N D E s n _ rfl rfl (HZ.out.row a4 kl kl S C N D E s n)
          · rw [hy, if_pos rfl, ← s1, ← s2, ← s3, ← s4, ← s5, ← s6, Hs.out, Hn.out, ← HKB.out t1]
            subst e32
            refine ⟨rfl, ?_⟩
            exact (HL9.out.vs.step fun x _ hV _ => setRow_other _ _ _ _ (by have := HWS.out; omega)).wide fun x _ hx => by have := HWS.out; omega
  · have L : Lg W ((((((((w4.setCell ⟨w2.heap.size, 0, none⟩ (.slice a4 kl kl)).setCell ⟨w2.heap.size, 1, none⟩ (.int .i64 S)).setCell ⟨w2.heap.size, 2, none⟩ (.int .i64 C)).setCell ⟨w2.heap.size, 3, none⟩ (.int .i64 N)).setCell ⟨w2.heap.size, 4, none⟩ (.int .u64 D)).setCell ⟨w2.heap.size, 5, none⟩ (.int .u64 E)).setCell ⟨w2.heap.size, 6, none⟩ (.int .i64 s)).setCell ⟨w2.heap.size, 7, none⟩ (.int .i64 n)) w2.heap.size a4 kl KB S C N D E s n := by
      refine ⟨HL4.out.set8 a4 kl kl S C N D E s n, set8_bel HBX.out (Below.size G2) _ _ _ _ _ _ _ _, ?_, (Below.size G2)⟩
      exact (HLI.out.vs (V := fun x => W.heap.size ≤ x ∧ x ≠ w2.heap.size) fun h => ⟨HG1.out (HTL.out h), by have := HLT2.out; have := HJ1.out; omega⟩).step fun x hx hV _ => set8_other hV.2 _ _ _ _ _ _ _ _
    have HL := hid L
    generalize ((((((((w4.setCell ⟨w2.heap.size, 0, none⟩ (.slice a4 kl kl)).setCell ⟨w2.heap.size, 1, none⟩ (.int .i64 S)).setCell ⟨w2.heap.size, 2, none⟩ (.int .i64 C)).setCell ⟨w2.heap.size, 3, none⟩ (.int .i64 N)).setCell ⟨w2.heap.size, 4, none⟩ (.int .u64 D)).setCell ⟨w2.heap.size, 5, none⟩ (.int .u64 E)).setCell ⟨w2.heap.size, 6, none⟩ (.int .i64 s)).setCell ⟨w2.heap.size, 7, none⟩ (.int .i64 n)) = X at HL ⊢
    generalize w2.heap.size = G at HL ⊢
    clear L HL4 e0 e1 z0 f0 z1 f1 z2 f2 z3 f3 z4 f4 z5 f5 z6 f6 z7 f7 u0 u1 u2 u3 u4 u5 G2 G3 BW0 BW1 k1 k2 k3 R1 R2 HI1 HJ1 HB2 HS1 HR1 HG1 HY1 HLT2 HI2 HB3 HGE2 HRR HJ2 HNE HLT3 HBX HLI HLT4 HNW HM1
    have kp := putLane_ a4 kl kl KB S C N D E s n X HL.out.vs.bs (Nat.le_trans HL.out.vs.nc HL.out.vs.cm) HBD.out.1 HBD.out.2.1 HBD.out.2.2.1 HBD.out.2.2.2.1 HBD.out.2.2.2.2.1 HBD.out.2.2.2.2.2.1 HBD.out.2.2.2.2.2.2
    obtain ⟨b1, Hb1⟩ : ∃ x, Hid (lok kl S C N s n = x) := ⟨_, rfl⟩
    obtain ⟨RK, HRK⟩ : ∃ x, Hid (lRK KB S C N s n = x) := ⟨_, rfl⟩
    obtain ⟨RV, HRV⟩ : ∃ x, Hid (lRV KB S C N D E s n = x) := ⟨_, rfl⟩
    obtain ⟨RE, HRE⟩ : ∃ x, Hid (lRE KB S C N s n = x) := ⟨_, rfl⟩
    have HE1 : Hid (RE = if b1 then 0 else 114) := by show _ = _; rw [← HRE.out, ← Hb1.out]; unfold lRE; rw [HKL.out]
    have HY2 : Hid (yok k v = (b1 && sameB RK k && sameB RV v)) := by
      show _ = _
      rw [HY.out, Hb1.out]
      cases b1
      · rfl
      · have e1 : RK = lK KB := by rw [← HRK.out]; unfold lRK; rw [HKL.out, Hb1.out]; rfl
        have e2 : RV = lV S C N D E s n := by rw [← HRV.out]; unfold lRV; rw [HKL.out, Hb1.out]; rfl
        rw [e1, e2]
    rw [HRK.out, HRV.out, HRE.out] at kp
    have d0 := HL.out.lm.c0
    have d1 := HL.out.lm.c1
    have d2 := HL.out.lm.c2
    have d3 := HL.out.lm.c3
    have d4 := HL.out.lm.c4
    have d5 := HL.out.lm.c5
    have d6 := HL.out.lm.c6
    have d7 := HL.out.lm.c7
    go_wp2_with fail
    clear d0 d1 d2 d3 d4 d5 d6 d7
    refine kp.mono ?_
    rintro e w9 ⟨pa, pc, qa, qc, rfl, vk, vv, g9⟩
    obtain ⟨pk, Hpk⟩ : ∃ x : Nat, Hid (RK.length = x) := ⟨_, rfl⟩
    obtain ⟨pv, Hpv⟩ : ∃ x : Nat, Hid (RV.length = x) := ⟨_, rfl⟩
    rw [Hpk.out] at vk
    rw [Hpv.out] at vv
    rw [Hpk.out, Hpv.out]
    have B9 := bel_al w9 (.cells #[.slice pa pk pc, .slice qa pv qc] 54)
    have m9 := heap_alloc_new w9 (.cells #[.slice pa pk pc, .slice qa pv qc] 54)
    have HL9 := hid ((HL.out.on g9).on B9)
    have z0 := Bw.cell HL9.out.bw y0
    have z1 := Bw.cell HL9.out.bw y1
    have x0 := (two_cell m9).1
    have x1 := (two_cell m9).2
    have ke := fun wx (hx : wx = w9.alloc (.cells #[.slice pa pk pc, .slice qa pv qc] 54)) => beq_ pa ka pk pc kn kc RK k wx (by rw [hx]; exact vk.bs.below B9) (by rw [hx]; exact (HK.out.below HBA.out).below HL9.out.bw)
    have kf := fun wx (hx : wx = w9.alloc (.cells #[.slice pa pk pc, .slice qa pv qc] 54)) => beq_ qa va pv qc vn vc RV v wx (by rw [hx]; exact vv.bs.below B9) (by rw [hx]; exact (HV.out.below HBA.out).below HL9.out.bw)
    have HZ := hid (HM2.out.kept HL9.out.bw)
    have HBX9 := hid (bel_bel HBA.out HBA.out.size HL9.out.bw)
    have HZA := hid (HZ.out.kept (bel_al _ (.cells #[.slice none 0 0, .int .i64 0, .int .i64 0, .int .i64 0, .int .u64 0, .int .u64 0, .int .i64 0, .int .i64 0] 64)))
    have HBXA := hid (bel_bel HBX9.out HBX9.out.size (bel_al _ (.cells #[.slice none 0 0, .int .i64 0, .int .i64 0, .int .i64 0, .int .u64 0, .int .u64 0, .int .i64 0, .int .i64 0] 64)))
    clear vk vv g9 B9 m9 HL kp
    have e1 := HE1.out
    clear HE1 HRE HRK HRV Hb1
    cases b1
    · simp only [if_false, Bool.false_eq_true] at e1
      subst e1
      clear ke kf
      go_wp2_with (refine wpList_sln rfl rfl _ _ rfl (w.heap.size + 1) none 0 0 0 0 0 0 0 0 0 rfl rfl (by with_reducible exact HZA.out) ?_)
      refine bodyPost_ret (v := .tuple #[.agg #[.slice none 0 0, .int .i64 0, .int .i64 0, .int .i64 0, .int .u64 0, .int .u64 0, .int .i64 0, .int .i64 0], .int .i64 114]) ?_ rfl ⟨⟨none, 0, ?_⟩, bel_row HBXA.out (Nat.le_succ _) _⟩
      · exact results_ln rfl _ _ (w.heap.size + 1) none 0 0 0 0 0 0 0 0 0 _ rfl rfl (HZA.out.row none 0 0 0 0 0 0 0 0 0)
      · have hy : yok k v = false := by rw [HY2.out]; rfl
        rw [hy]
        exact rfl
    · simp only [if_true] at e1
      subst e1
      obtain ⟨q1, Hq1⟩ : ∃ x, Hid (sameB RK k = x) := ⟨_, rfl⟩
      obtain ⟨q2, Hq2⟩ : ∃ x, Hid (sameB RV v = x) := ⟨_, rfl⟩
      rw [Hq1.out] at ke HY2
      rw [Hq2.out] at kf HY2
      cases q1
      · go_wp2_with fail
        refine (ke _ rfl).mono ?_
        rintro e w10 ⟨rfl, hw⟩
        rw [hw]
        clear hw w10 ke kf
        go_wp2_with (refine wpList_sln rfl rfl _ _ rfl (w.heap.size + 1) none 0 0 0 0 0 0 0 0 0 rfl rfl (by with_reducible exact HZA.out) ?_)
        refine bodyPost_ret (v := .tuple #[.agg #[.slice none 0 0, .int .i64 0, .int .i64 0, .int .i64 0, .int .u64 0, .int .u64 0, .int .i64 0, .int .i64 0], .int .i64 114]) ?_ rfl ⟨⟨none, 0, ?_⟩, bel_row HBXA.out (Nat.le_succ _) _⟩
        · exact results_ln rfl _ _ (w.heap.size + 1) none 0 0 0 0 0 0 0 0 0 _ rfl rfl (HZA.out.row none 0 0 0 0 0 0 0 0 0)
        · have hy : yok k v = false := by rw [HY2.out]; rfl
          rw [hy]
          exact rfl
      · cases q2
        · go_wp2_with fail
          refine (ke _ rfl).mono ?_
          rintro e w10 ⟨rfl, hw⟩
          rw [hw]
          clear hw w10 ke
          go_wp2_with fail
          refine (kf _ rfl).mono ?_
          rintro e w10 ⟨rfl, hw⟩
          rw [hw]
          clear hw w10 kf
          go_wp2_with (refine wpList_sln rfl rfl _ _ rfl (w.heap.size + 1) none 0 0 0 0 0 0 0 0 0 rfl rfl (by with_reducible exact HZA.out) ?_)
          refine bodyPost_ret (v := .tuple #[.agg #[.slice none 0 0, .int .i64 0, .int .i64 0, .int .i64 0, .int .u64 0, .int .u64 0, .int .i64 0, .int .i64 0], .int .i64 114]) ?_ rfl ⟨⟨none, 0, ?_⟩, bel_row HBXA.out (Nat.le_succ _) _⟩
          · exact results_ln rfl _ _ (w.heap.size + 1) none 0 0 0 0 0 0 0 0 0 _ rfl rfl (HZA.out.row none 0 0 0 0 0 0 0 0 0)
          · have hy : yok k v = false := by rw [HY2.out]; rfl
            rw [hy]
            exact rfl
        · go_wp2_with fail
          refine (ke _ rfl).mono ?_
          rintro e w10 ⟨rfl, hw⟩
          rw [hw]
          clear hw w10 ke
          go_wp2_with fail
          refine (kf _ rfl).mono ?_
          rintro e w10 ⟨rfl, hw⟩
          rw [hw]
          clear hw w10 kf
          have d0 := HL9.out.lm.c0
          have d1 := HL9.out.lm.c1
          have d2 := HL9.out.lm.c2
          have d3 := HL9.out.lm.c3
          have d4 := HL9.out.lm.c4
          have d5 := HL9.out.lm.c5
          have d6 := HL9.out.lm.c6
          have d7 := HL9.out.lm.c7
          go_wp2_with (refine wpList_sln rfl rfl _ _ rfl (w.heap.size + 1) a4 kl kl S C N D E s n rfl rfl (by with_reducible exact HZ.out) ?_)
          have hy : yok k v = true := by rw [HY2.out]; rfl
          obtain ⟨t1, t2⟩ := HYL.out hy
          obtain ⟨s1, s2, s3, s4, s5, s6⟩ := HTW.out t2
          have e32 : kl = 32 := by rw [← HKL.out, HKB.out t1]; unfold yK; rw [List.length_drop]; omega
          refine bodyPost_ret (v := .tuple #[.agg #[.slice a4 kl kl, .int .i64 S, .int .i64 C, .int .i64 N, .int .u64 D, .int .u64 E, .int .i64 s, .int .i64 n], .int .i64 0]) ?_ rfl ⟨⟨a4, kl, ?_⟩, bel_row HBX9.out (Nat.le_succ _) _⟩
          · exact results_ln rfl _ _ (w.heap.size + 1) a4 kl kl S C N D E s n _ rfl rfl (HZ.out.row a4 kl kl S C N D E s n)
          · rw [hy, if_pos rfl, ← s1, ← s2, ← s3, ← s4, ← s5, ← s6, Hs.out, Hn.out, ← HKB.out t1]
            subst e32
            refine ⟨rfl, ?_⟩
            exact (HL9.out.vs.step fun x _ hV _ => setRow_other _ _ _ _ (by have := HWS.out; omega)).wide fun x _ hx => by have := HWS.out; omega
  · have L : Lg W ((((((((w4.setCell ⟨W.heap.size, 0, none⟩ (.slice a4 kl kl)).setCell ⟨W.heap.size, 1, none⟩ (.int .i64 S)).setCell ⟨W.heap.size, 2, none⟩ (.int .i64 C)).setCell ⟨W.heap.size, 3, none⟩ (.int .i64 N)).setCell ⟨W.heap.size, 4, none⟩ (.int .u64 D)).setCell ⟨W.heap.size, 5, none⟩ (.int .u64 E)).setCell ⟨W.heap.size, 6, none⟩ (.int .i64 s)).setCell ⟨W.heap.size, 7, none⟩ (.int .i64 n)) W.heap.size a4 kl KB S C N D E s n := by
      refine ⟨HL4.out.set8 a4 kl kl S C N D E s n, set8_bel HBX.out (Nat.le_refl _) _ _ _ _ _ _ _ _, ?_, (Nat.le_refl _)⟩
      exact (HLI.out.vs (V := fun x => W.heap.size ≤ x ∧ x ≠ W.heap.size) fun h => ⟨HG1.out (HTL.out h), by have h0 := HTL.out h; have h1 := HY1.out; simp at h1; omega⟩).step fun x hx hV _ => set8_other hV.2 _ _ _ _ _ _ _ _
    have HL := hid L
    generalize ((((((((w4.setCell ⟨W.heap.size, 0, none⟩ (.slice a4 kl kl)).setCell ⟨W.heap.size, 1, none⟩ (.int .i64 S)).setCell ⟨W.heap.size, 2, none⟩ (.int .i64 C)).setCell ⟨W.heap.size, 3, none⟩ (.int .i64 N)).setCell ⟨W.heap.size, 4, none⟩ (.int .u64 D)).setCell ⟨W.heap.size, 5, none⟩ (.int .u64 E)).setCell ⟨W.heap.size, 6, none⟩ (.int .i64 s)).setCell ⟨W.heap.size, 7, none⟩ (.int .i64 n)) = X at HL ⊢
    obtain ⟨G, HGe⟩ : ∃ G, Hid (W.heap.size = G) := ⟨_, rfl⟩
    replace HL : Hid (Lg W X G a4 kl KB S C N D E s n) := by rw [← HGe.out]; exact HL
    rw [HGe.out]
    clear L HL4 e0 e1 z0 f0 z1 f1 z2 f2 z3 f3 z4 f4 z5 f5 z6 f6 z7 f7 u0 u1 u2 u3 u4 u5 G2 G3 BW0 BW1 k1 k2 k3 R1 R2 HI1 HJ1 HB2 HS1 HR1 HG1 HY1 HLT2 HI2 HB3 HGE2 HRR HJ2 HNE HLT3 HBX HLI HLT4 HNW HM1
    have kp := putLane_ a4 kl kl KB S C N D E s n X HL.out.vs.bs (Nat.le_trans HL.out.vs.nc HL.out.vs.cm) HBD.out.1 HBD.out.2.1 HBD.out.2.2.1 HBD.out.2.2.2.1 HBD.out.2.2.2.2.1 HBD.out.2.2.2.2.2.1 HBD.out.2.2.2.2.2.2
    obtain ⟨b1, Hb1⟩ : ∃ x, Hid (lok kl S C N s n = x) := ⟨_, rfl⟩
    obtain ⟨RK, HRK⟩ : ∃ x, Hid (lRK KB S C N s n = x) := ⟨_, rfl⟩
    obtain ⟨RV, HRV⟩ : ∃ x, Hid (lRV KB S C N D E s n = x) := ⟨_, rfl⟩
    obtain ⟨RE, HRE⟩ : ∃ x, Hid (lRE KB S C N s n = x) := ⟨_, rfl⟩
    have HE1 : Hid (RE = if b1 then 0 else 114) := by show _ = _; rw [← HRE.out, ← Hb1.out]; unfold lRE; rw [HKL.out]
    have HY2 : Hid (yok k v = (b1 && sameB RK k && sameB RV v)) := by
      show _ = _
      rw [HY.out, Hb1.out]
      cases b1
      · rfl
      · have e1 : RK = lK KB := by rw [← HRK.out]; unfold lRK; rw [HKL.out, Hb1.out]; rfl
        have e2 : RV = lV S C N D E s n := by rw [← HRV.out]; unfold lRV; rw [HKL.out, Hb1.out]; rfl
        rw [e1, e2]
    rw [HRK.out, HRV.out, HRE.out] at kp
    have d0 := HL.out.lm.c0
    have d1 := HL.out.lm.c1
    have d2 := HL.out.lm.c2
    have d3 := HL.out.lm.c3
    have d4 := HL.out.lm.c4
    have d5 := HL.out.lm.c5
    have d6 := HL.out.lm.c6
    have d7 := HL.out.lm.c7
    go_wp2_with fail
    clear d0 d1 d2 d3 d4 d5 d6 d7
    refine kp.mono ?_
    rintro e w9 ⟨pa, pc, qa, qc, rfl, vk, vv, g9⟩
    obtain ⟨pk, Hpk⟩ : ∃ x : Nat, Hid (RK.length = x) := ⟨_, rfl⟩
    obtain ⟨pv, Hpv⟩ : ∃ x : Nat, Hid (RV.length = x) := ⟨_, rfl⟩
    rw [Hpk.out] at vk
    rw [Hpv.out] at vv
    rw [Hpk.out, Hpv.out]
    have B9 := bel_al w9 (.cells #[.slice pa pk pc, .slice qa pv qc] 54)
    have m9 := heap_alloc_new w9 (.cells #[.slice pa pk pc, .slice qa pv qc] 54)
    have HL9 := hid ((HL.out.on g9).on B9)
    have z0 := Bw.cell HL9.out.bw y0
    have z1 := Bw.cell HL9.out.bw y1
    have x0 := (two_cell m9).1
    have x1 := (two_cell m9).2
    have ke := fun wx (hx : wx = w9.alloc (.cells #[.slice pa pk pc, .slice qa pv qc] 54)) => beq_ pa ka pk pc kn kc RK k wx (by rw [hx]; exact vk.bs.below B9) (by rw [hx]; exact (HK.out.below HBA.out).below HL9.out.bw)
    have kf := fun wx (hx : wx = w9.alloc (.cells #[.slice pa pk pc, .slice qa pv qc] 54)) => beq_ qa va pv qc vn vc RV v wx (by rw [hx]; exact vv.bs.below B9) (by rw [hx]; exact (HV.out.below HBA.out).below HL9.out.bw)
    have HZ := hid (HM2.out.kept HL9.out.bw)
    have HBX9 := hid (bel_bel HBA.out HBA.out.size HL9.out.bw)
    have HZA := hid (HZ.out.kept (bel_al _ (.cells #[.slice none 0 0, .int .i64 0, .int .i64 0, .int .i64 0, .int .u64 0, .int .u64 0, .int .i64 0, .int .i64 0] 64)))
    have HBXA := hid (bel_bel HBX9.out HBX9.out.size (bel_al _ (.cells #[.slice none 0 0, .int .i64 0, .int .i64 0, .int .i64 0, .int .u64 0, .int .u64 0, .int .i64 0, .int .i64 0] 64)))
    clear vk vv g9 B9 m9 HL kp
    have e1 := HE1.out
    clear HE1 HRE HRK HRV Hb1
    cases b1
    · simp only [if_false, Bool.false_eq_true] at e1
      subst e1
      clear ke kf
      go_wp2_with (refine wpList_sln rfl rfl _ _ rfl (w.heap.size + 1) none 0 0 0 0 0 0 0 0 0 rfl rfl (by with_reducible exact HZA.out) ?_)
      refine bodyPost_ret (v := .tuple #[.agg #[.slice none 0 0, .int .i64 0, .int .i64 0, .int .i64 0, .int .u64 0, .int .u64 0, .int .i64 0, .int .i64 0], .int .i64 114]) ?_ rfl ⟨⟨none, 0, ?_⟩, bel_row HBXA.out (Nat.le_succ _) _⟩
      · exact results_ln rfl _ _ (w.heap.size + 1) none 0 0 0 0 0 0 0 0 0 _ rfl rfl (HZA.out.row none 0 0 0 0 0 0 0 0 0)
      · have hy : yok k v = false := by rw [HY2.out]; rfl
        rw [hy]
        exact rfl
    · simp only [if_true] at e1
      subst e1
      obtain ⟨q1, Hq1⟩ : ∃ x, Hid (sameB RK k = x) := ⟨_, rfl⟩
      obtain ⟨q2, Hq2⟩ : ∃ x, Hid (sameB RV v = x) := ⟨_, rfl⟩
      rw [Hq1.out] at ke HY2
      rw [Hq2.out] at kf HY2
      cases q1
      · go_wp2_with fail
        refine (ke _ rfl).mono ?_
        rintro e w10 ⟨rfl, hw⟩
        rw [hw]
        clear hw w10 ke kf
        go_wp2_with (refine wpList_sln rfl rfl _ _ rfl (w.heap.size + 1) none 0 0 0 0 0 0 0 0 0 rfl rfl (by with_reducible exact HZA.out) ?_)
        refine bodyPost_ret (v := .tuple #[.agg #[.slice none 0 0, .int .i64 0, .int .i64 0, .int .i64 0, .int .u64 0, .int .u64 0, .int .i64 0, .int .i64 0], .int .i64 114]) ?_ rfl ⟨⟨none, 0, ?_⟩, bel_row HBXA.out (Nat.le_succ _) _⟩
        · exact results_ln rfl _ _ (w.heap.size + 1) none 0 0 0 0 0 0 0 0 0 _ rfl rfl (HZA.out.row none 0 0 0 0 0 0 0 0 0)
        · have hy : yok k v = false := by rw [HY2.out]; rfl
          rw [hy]
          exact rfl
      · cases q2
        · go_wp2_with fail
          refine (ke _ rfl).mono ?_
          rintro e w10 ⟨rfl, hw⟩
          rw [hw]
          clear hw w10 ke
          go_wp2_with fail
          refine (kf _ rfl).mono ?_
          rintro e w10 ⟨rfl, hw⟩
          rw [hw]
          clear hw w10 kf
          go_wp2_with (refine wpList_sln rfl rfl _ _ rfl (w.heap.size + 1) none 0 0 0 0 0 0 0 0 0 rfl rfl (by with_reducible exact HZA.out) ?_)
          refine bodyPost_ret (v := .tuple #[.agg #[.slice none 0 0, .int .i64 0, .int .i64 0, .int .i64 0, .int .u64 0, .int .u64 0, .int .i64 0, .int .i64 0], .int .i64 114]) ?_ rfl ⟨⟨none, 0, ?_⟩, bel_row HBXA.out (Nat.le_succ _) _⟩
          · exact results_ln rfl _ _ (w.heap.size + 1) none 0 0 0 0 0 0 0 0 0 _ rfl rfl (HZA.out.row none 0 0 0 0 0 0 0 0 0)
          · have hy : yok k v = false := by rw [HY2.out]; rfl
            rw [hy]
            exact rfl
        · go_wp2_with fail
          refine (ke _ rfl).mono ?_
          rintro e w10 ⟨rfl, hw⟩
          rw [hw]
          clear hw w10 ke
          go_wp2_with fail
          refine (kf _ rfl).mono ?_
          rintro e w10 ⟨rfl, hw⟩
          rw [hw]
          clear hw w10 kf
          have d0 := HL9.out.lm.c0
          have d1 := HL9.out.lm.c1
          have d2 := HL9.out.lm.c2
          have d3 := HL9.out.lm.c3
          have d4 := HL9.out.lm.c4
          have d5 := HL9.out.lm.c5
          have d6 := HL9.out.lm.c6
          have d7 := HL9.out.lm.c7
          go_wp2_with (refine wpList_sln rfl rfl _ _ rfl (w.heap.size + 1) a4 kl kl S C N D E s n rfl rfl (by with_reducible exact HZ.out) ?_)
          have hy : yok k v = true := by rw [HY2.out]; rfl
          obtain ⟨t1, t2⟩ := HYL.out hy
          obtain ⟨s1, s2, s3, s4, s5, s6⟩ := HTW.out t2
          have e32 : kl = 32 := by rw [← HKL.out, HKB.out t1]; unfold yK; rw [List.length_drop]; omega
          refine bodyPost_ret (v := .tuple #[.agg #[.slice a4 kl kl, .int .i64 S, .int .i64 C, .int .i64 N, .int .u64 D, .int .u64 E, .int .i64 s, .int .i64 n], .int .i64 0]) ?_ rfl ⟨⟨a4, kl, ?_⟩, bel_row HBX9.out (Nat.le_succ _) _⟩
          · exact results_ln rfl _ _ (w.heap.size + 1) a4 kl kl S C N D E s n _ rfl rfl (HZ.out.row a4 kl kl S C N D E s n)
          · rw [hy, if_pos rfl, ← s1, ← s2, ← s3, ← s4, ← s5, ← s6, Hs.out, Hn.out, ← HKB.out t1]
            subst e32
            refine ⟨rfl, ?_⟩
            exact (HL9.out.vs.step fun x _ hV _ => setRow_other _ _ _ _ (by have := HWS.out; omega)).wide fun x _ hx => by have := HWS.out; omega
end Go.Proofs.YtcbmgpmjnehjdaaGreat
