import Derived.Test.YtmbopaemnlikkaaLV
namespace Go.Proofs.Ytmbopaemnlikkaa
set_option maxRecDepth 100000
open Go.RowKit
set_option linter.unusedVariables false

theorem getD17 {l : List Int} {i : Nat} (h : i < l.length) : l.getD i 0 = l[i] := by simp [List.getD, h]
/-- Seven lists in a variable, each these bytes, none of them at g. -/
structure Q7 (w : World) (p g : Nat) (f : Nat → Option Addr) (d : Nat → Nat) (K : List Int) : Prop where
  row : A7 w p (.slice (f 0) 32 (d 0)) (.slice (f 1) 32 (d 1)) (.slice (f 2) 32 (d 2)) (.slice (f 3) 32 (d 3)) (.slice (f 4) 32 (d 4)) (.slice (f 5) 32 (d 5)) (.slice (f 6) 32 (d 6))
  vs : ∀ i, i < 7 → Vs w (fun x => x ≠ g) (f i) 32 (d i) K
theorem Q7.on {w w' : World} {p g : Nat} {f : Nat → Option Addr} {d : Nat → Nat} {K : List Int} (h : Q7 w p g f d K) (hb : Below w.heap.size w w') : Q7 w' p g f d K := ⟨h.row.kept hb, fun i hi => (h.vs i hi).step fun x hx _ _ => hb.block x hx⟩
theorem Q7.set {w : World} {p g : Nat} {f : Nat → Option Addr} {d : Nat → Nat} {K : List Int} (h : Q7 w p g f d K) (hp : p ≠ g) (i : Nat) (v : Value) : Q7 (w.setCell ⟨g, i, none⟩ v) p g f d K := ⟨h.row.at (Below.heap_setCell _ _ _ _ hp), fun j hj => (h.vs j hj).step fun x _ hx _ => Below.heap_setCell _ _ _ _ hx⟩
theorem Q7.cell {w : World} {p g : Nat} {f : Nat → Option Addr} {d : Nat → Nat} {K : List Int} (h : Q7 w p g f d K) {i : Nat} (hi : i < 7) : w.cell? ⟨p, i, none⟩ = some (.slice (f i) 32 (d i)) := by
  match i, hi with
  | 0, _ => exact h.row.c0
  | 1, _ => exact h.row.c1
  | 2, _ => exact h.row.c2
  | 3, _ => exact h.row.c3
  | 4, _ => exact h.row.c4
  | 5, _ => exact h.row.c5
  | 6, _ => exact h.row.c6
set_option maxHeartbeats 8000000 in
/-- LanePlace. -/
theorem lanePlace_ (ll : LL) (a0 : Option Addr) (m0 c0 : Nat) (k0 : List Int) (a1 : Option Addr) (m1 c1 : Nat) (k1 : List Int) (S : Int) (w : World) (hk : Bs w a0 m0 k0) (hm : Bs w a1 m1 k1) (h0 : m0 ≤ 140737488351232) (h1 : m1 ≤ 140737488351232) :
    Calls Try.prog 6 #[.slice a0 m0 c0, .slice a1 m1 c1, .int .i64 S] w fun e w' => e = .returned (.bool true) ∧ Below w.heap.size w w' := by
  have HK := hid hk
  have HM := hid hm
  clear hk hm
  go_enter Try.func6, Try.ntmps6
  go_wp2_with fail
  refine (known_ ll w).mono ?_
  rintro e w1 ⟨rfl, g1⟩
  have HB1 : Hid (Below w.heap.size w w1) := g1
  clear g1
  by_cases q0 : m0 = 32
  case neg =>
    have q4 : ((m0 : Int) != 32) = true := bne_iff_ne.2 (by omega)
    go_wp2_with fail
    all_goals (go_ret; exact ⟨rfl, HB1.out⟩)
  subst q0
  by_cases q1 : m1 = 32
  case neg =>
    have q4 : ((m1 : Int) != 32) = true := bne_iff_ne.2 (by omega)
    go_wp2_with fail
    all_goals (go_ret; exact ⟨rfl, HB1.out⟩)
  subst q1
  by_cases q2 : S < 0
  · go_wp2_with fail
    all_goals (go_ret; exact ⟨rfl, HB1.out⟩)
  by_cases q3 : 1 < S
  · go_wp2_with fail
    all_goals (go_ret; exact ⟨rfl, HB1.out⟩)
  have HS : Hid (S = 0 ∨ S = 1) := by show _ ∨ _; omega
  have kb := refBytes a0 32 c0 k0 w1 (HK.out.below HB1.out) (by omega)
  go_wp2_with fail
  refine kb.mono ?_
  rintro e w2 ⟨v, rfl, ow, g2⟩
  obtain ⟨g, cg, rfl, yr, gge, glt, -⟩ := Yr.ofOwn ow HK.out.2.1 (by omega)
  have HB2 : Hid (Below w.heap.size w w2) := bel_bel HB1.out HB1.out.size g2
  have HGE : Hid (w.heap.size ≤ g) := Nat.le_trans HB1.out.size gge
  have HGL : Hid (g < w2.heap.size) := glt
  have HY := hid yr
  clear kb ow g2 yr gge glt HB1 q2 q3
  have kx := seven_ ll (some ⟨g, 0, none⟩) cg k0 S w2 HY.out.bs HS.out
  go_wp2_with fail
  refine kx.mono ?_
  rintro e y ⟨f, d, rfl, vf, gy⟩
  have NB := bel_al' y (.cells #[.slice (f 0) 32 (d 0), .slice (f 1) 32 (d 1), .slice (f 2) 32 (d 2), .slice (f 3) 32 (d 3), .slice (f 4) 32 (d 4), .slice (f 5) 32 (d 5), .slice (f 6) 32 (d 6)] 52)
  have HQ : Hid (Q7 (y.alloc (.cells #[.slice (f 0) 32 (d 0), .slice (f 1) 32 (d 1), .slice (f 2) 32 (d 2), .slice (f 3) 32 (d 3), .slice (f 4) 32 (d 4), .slice (f 5) 32 (d 5), .slice (f 6) 32 (d 6)] 52)) y.heap.size g f d k0) := ⟨A7.new y (.slice (f 0) 32 (d 0)) (.slice (f 1) 32 (d 1)) (.slice (f 2) 32 (d 2)) (.slice (f 3) 32 (d 3)) (.slice (f 4) 32 (d 4)) (.slice (f 5) 32 (d 5)) (.slice (f 6) 32 (d 6)), fun i hi => ((vf i hi).wide (V' := fun x => x ≠ g) fun x _ hx => by have := HGL.out; omega).step fun x hx _ _ => NB.block x hx⟩
  have HP : Hid (y.heap.size ≠ g) := by have := HGL.out; have := gy.size; show _ ≠ _; omega
  have HY3 := hid ((HY.out.below gy).below NB)
  have HB3 : Hid (Below w.heap.size w (y.alloc (.cells #[.slice (f 0) 32 (d 0), .slice (f 1) 32 (d 1), .slice (f 2) 32 (d 2), .slice (f 3) 32 (d 3), .slice (f 4) 32 (d 4), .slice (f 5) 32 (d 5), .slice (f 6) 32 (d 6)] 52))) := bel_bel (bel_bel HB2.out HB2.out.size gy) (Nat.le_trans HB2.out.size gy.size) NB
  obtain ⟨w3, HZ⟩ : ∃ z, Hid (y.alloc (.cells #[.slice (f 0) 32 (d 0), .slice (f 1) 32 (d 1), .slice (f 2) 32 (d 2), .slice (f 3) 32 (d 3), .slice (f 4) 32 (d 4), .slice (f 5) 32 (d 5), .slice (f 6) 32 (d 6)] 52) = z) := ⟨_, rfl⟩
  obtain ⟨p8, HP8⟩ : ∃ z, Hid (y.heap.size = z) := ⟨_, rfl⟩
  rw [HZ.out] at HQ HY3 HB3
  rw [HP8.out] at HQ HP
  clear kx vf gy NB HY HB2 HGL
  go_upto_region 7 with fail
  rw [HZ.out, HP8.out]
  clear HZ HP8
  go_wp2_with fail
  go_loopw [9] (fun i wr => ∃ (j : Nat) (ys : List Int), j ≤ 32 ∧ i = .int .i64 j ∧ Hid (Yr wr g 32 ys) ∧ Hid (Q7 wr p8 g f d k0) ∧ Hid (Below w.heap.size w wr) ∧ Hid (ys.length = 32 ∧ ∀ t, t < j → ys.getD t 0 = k1.getD t 0)) (fun i _ => 32 - (intOf i).toNat)
  case atStart => exact ⟨0, k0, by omega, rfl, HY3, HQ, HB3, ⟨HK.out.1, fun t ht => by omega⟩⟩
  case round =>
    clear HY3 HQ HB3
    obtain ⟨j, ys, hj, rfl, HY, HQ, HB, HT⟩ := hrel
    by_cases hlt : j < 32
    · have hI : (j : Int) < 32 := by omega
      obtain ⟨b, off, rfl, hc⟩ : ∃ b off, a1 = some ⟨b, off, none⟩ ∧ ∀ i, i < 32 → wr.cell? ⟨b, off + i, none⟩ = some (.int .u8 (k1.getD i 0)) := by
        rcases (HM.out.below HB.out).2.2 with h0 | h1
        · omega
        · exact h1
      have cm := hc j hlt
      have hz : 0 ≤ k1.getD j 0 ∧ k1.getD j 0 ≤ 255 := HM.out.2.1 _ (by rw [getD17 (by rw [HM.out.1]; exact hlt)]; exact List.getElem_mem _)
      obtain ⟨z, Hz⟩ : ∃ z, Hid (k1.getD j 0 = z) := ⟨_, rfl⟩
      rw [Hz.out] at cm hz
      have cy := HY.out.cell hlt
      have fy := HY.out.fz j
      have HY2 := hid (HY.out.set (z := z) hlt hz)
      have HQ2 := hid (HQ.out.set HP.out j (.int .u8 z))
      have HB2 := hid (HB.out.setCell (p := ⟨g, j, none⟩) HGE.out (.int .u8 z))
      have HT2 : Hid ((ys.set j z).length = 32 ∧ ∀ t, t < j + 1 → (ys.set j z).getD t 0 = k1.getD t 0) := by
        refine ⟨by rw [List.length_set]; exact HT.out.1, fun t ht => ?_⟩
        have hl := HT.out.1
        by_cases e : t = j
        · subst e
          rw [Hz.out]
          simp [List.getD, hl, hlt]
        · have := HT.out.2 t (by omega)
          simp only [List.getD] at this ⊢
          rw [List.getElem?_set_ne (Ne.symm e)]
          exact this
      clear HY HQ HB HT hc hz
      go_wp2_with fail
      go_roundw
      case rel => exact ⟨j + 1, _, by omega, by go_num, HY2, HQ2, HB2, HT2⟩
      case measure => simp [intOf]; omega
    · have hI : ¬ (j : Int) < 32 := by omega
      obtain rfl : j = 32 := by omega
      have hys : ys = k1 := by
        refine List.ext_getElem (by rw [HT.out.1, HM.out.1]) fun t h1 h2 => ?_
        have h := HT.out.2 t (by rw [HT.out.1] at h1; exact h1)
        rw [getD17 h1, getD17 h2] at h
        exact h
      subst hys
      have kx := seven_ ll (some ⟨g, 0, none⟩) cg ys S wr HY.out.bs HS.out
      clear HT hlt
      go_wp2_with fail
      refine kx.mono ?_
      rintro e y ⟨f2, d2, rfl, vf, gy⟩
      have NB := bel_al' y (.cells #[.slice (f2 0) 32 (d2 0), .slice (f2 1) 32 (d2 1), .slice (f2 2) 32 (d2 2), .slice (f2 3) 32 (d2 3), .slice (f2 4) 32 (d2 4), .slice (f2 5) 32 (d2 5), .slice (f2 6) 32 (d2 6)] 52)
      have HQ2 : Hid (Q7 (y.alloc (.cells #[.slice (f2 0) 32 (d2 0), .slice (f2 1) 32 (d2 1), .slice (f2 2) 32 (d2 2), .slice (f2 3) 32 (d2 3), .slice (f2 4) 32 (d2 4), .slice (f2 5) 32 (d2 5), .slice (f2 6) 32 (d2 6)] 52)) y.heap.size g f2 d2 ys) := ⟨A7.new y (.slice (f2 0) 32 (d2 0)) (.slice (f2 1) 32 (d2 1)) (.slice (f2 2) 32 (d2 2)) (.slice (f2 3) 32 (d2 3)) (.slice (f2 4) 32 (d2 4)) (.slice (f2 5) 32 (d2 5)) (.slice (f2 6) 32 (d2 6)), fun i hi => ((vf i hi).wide (V' := fun x => x ≠ g) fun x _ hx => by have := HY.out.lt; omega).step fun x hx _ _ => NB.block x hx⟩
      have HQ3 := hid ((HQ.out.on gy).on NB)
      have HB3 : Hid (Below w.heap.size w (y.alloc (.cells #[.slice (f2 0) 32 (d2 0), .slice (f2 1) 32 (d2 1), .slice (f2 2) 32 (d2 2), .slice (f2 3) 32 (d2 3), .slice (f2 4) 32 (d2 4), .slice (f2 5) 32 (d2 5), .slice (f2 6) 32 (d2 6)] 52))) := bel_bel (bel_bel HB.out HB.out.size gy) (Nat.le_trans HB.out.size gy.size) NB
      obtain ⟨w5, HZ⟩ : ∃ z, Hid (y.alloc (.cells #[.slice (f2 0) 32 (d2 0), .slice (f2 1) 32 (d2 1), .slice (f2 2) 32 (d2 2), .slice (f2 3) 32 (d2 3), .slice (f2 4) 32 (d2 4), .slice (f2 5) 32 (d2 5), .slice (f2 6) 32 (d2 6)] 52) = z) := ⟨_, rfl⟩
      obtain ⟨p10, HP10⟩ : ∃ z, Hid (y.heap.size = z) := ⟨_, rfl⟩
      rw [HZ.out] at HQ2 HQ3 HB3
      rw [HP10.out] at HQ2
      clear kx vf gy NB HY HQ HB
      go_upto_region 12 with fail
      rw [HZ.out, HP10.out]
      clear HZ HP10
      go_wp2_with fail
      go_loopw [11] (fun i wr => ∃ (j : Nat), j ≤ 7 ∧ i = .int .i64 j ∧ Hid (Q7 wr p8 g f d k0) ∧ Hid (Q7 wr p10 g f2 d2 ys) ∧ Hid (Below w.heap.size w wr)) (fun i _ => 7 - (intOf i).toNat)
      case atStart => exact ⟨0, by omega, rfl, HQ3, HQ2, HB3⟩
      case round =>
        clear HQ3 HQ2 HB3
        obtain ⟨j, hj, rfl, HQ, HQ2, HB⟩ := hrel
        by_cases hlt : j < 7
        · have hI : (j : Int) < 7 := by omega
          have ca := HQ.out.cell hlt
          obtain ⟨fa, Hfa⟩ : ∃ z, Hid (f j = z) := ⟨_, rfl⟩
          obtain ⟨da, Hda⟩ : ∃ z, Hid (d j = z) := ⟨_, rfl⟩
          obtain ⟨fb, Hfb⟩ : ∃ z, Hid (f2 j = z) := ⟨_, rfl⟩
          obtain ⟨db, Hdb⟩ : ∃ z, Hid (d2 j = z) := ⟨_, rfl⟩
          rw [Hfa.out, Hda.out] at ca
          have ks := same_d fa a0 32 da 32 c0 k0 k0 _ (by rw [← Hfa.out]; exact (HQ.out.vs j hlt).bs) (HK.out.below HB.out) (by unfold maxLen; omega) (by unfold maxLen; omega)
          rw [sameB_self] at ks
          go_wp2_with fail
          refine ks.mono ?_
          rintro e w6 ⟨rfl, g6⟩
          have HQa := hid (HQ.out.on g6.below)
          have HQb := hid (HQ2.out.on g6.below)
          have HBa : Hid (Below w.heap.size w w6) := bel_bel HB.out HB.out.size g6.below
          clear ks ca g6 HQ HQ2 HB
          have cb := HQb.out.cell hlt
          rw [Hfb.out, Hdb.out] at cb
          have ks := same_d fb a1 32 db 32 c1 ys ys w6 (by rw [← Hfb.out]; exact (HQb.out.vs j hlt).bs) (HM.out.below HBa.out) (by unfold maxLen; omega) (by unfold maxLen; omega)
          rw [sameB_self] at ks
          go_wp2_with fail
          refine ks.mono ?_
          rintro e w7 ⟨rfl, g7⟩
          have HQc := hid (HQa.out.on g7.below)
          have HQd := hid (HQb.out.on g7.below)
          have HBb : Hid (Below w.heap.size w w7) := bel_bel HBa.out HBa.out.size g7.below
          clear ks cb g7 HQa HQb HBa
          go_wp2_with fail
          go_roundw
          case rel => exact ⟨j + 1, by omega, by go_num, HQc, HQd, HBb⟩
          case measure => simp [intOf]; omega
        · have hI : ¬ (j : Int) < 7 := by omega
          go_wp2_with fail
          go_ret
          exact ⟨rfl, HB.out⟩
end Go.Proofs.Ytmbopaemnlikkaa
