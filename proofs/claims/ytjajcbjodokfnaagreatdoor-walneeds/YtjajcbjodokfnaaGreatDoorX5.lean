import Derived.Test.YtjajcbjodokfnaaGreatDoorX2
namespace Go.Proofs.YtjajcbjodokfnaaGreatDoor
set_option maxRecDepth 100000
open Go.RowKit Go.Shelf
set_option linter.unusedVariables false
set_option linter.unusedSimpArgs false

/-- A sector in a list: what it is, where its body lies. -/
structure Sx where
  x : Sec
  a : Option Addr
  n : Nat
  c : Nat
def scs : List Sx → List Value
  | [] => []
  | y :: l => .string y.x.T :: .int .i64 y.x.e :: .int .i64 y.x.q :: .int .i64 y.x.p :: .slice y.a y.n y.c :: scs l
theorem scs_length : ∀ l : List Sx, (scs l).length = l.length * 5
  | [] => rfl
  | y :: l => by simp [scs, scs_length l]; omega
theorem scs_app : ∀ (a b : List Sx), scs (a ++ b) = scs a ++ scs b
  | [], b => rfl
  | y :: a, b => by simp [scs, scs_app a b]
theorem scs_get : ∀ (l : List Sx) (j : Nat) (y : Sx), l[j]? = some y → (scs l)[j * 5]? = some (.string y.x.T) ∧ (scs l)[j * 5 + 1]? = some (.int .i64 y.x.e) ∧ (scs l)[j * 5 + 2]? = some (.int .i64 y.x.q) ∧ (scs l)[j * 5 + 3]? = some (.int .i64 y.x.p) ∧ (scs l)[j * 5 + 4]? = some (.slice y.a y.n y.c)
  | [], j, y, h => by simp at h
  | z :: l, 0, y, h => by simp at h; subst h; simp [scs]
  | z :: l, j + 1, y, h => by
    have := scs_get l j y (by simpa using h)
    rw [show (j + 1) * 5 = j * 5 + 5 from by omega, show j * 5 + 5 + 1 = j * 5 + 1 + 5 from by omega, show j * 5 + 5 + 2 = j * 5 + 2 + 5 from by omega, show j * 5 + 5 + 3 = j * 5 + 3 + 5 from by omega, show j * 5 + 5 + 4 = j * 5 + 4 + 5 from by omega]
    simpa [scs] using this
theorem scs_one : ∀ (l : List Sx), ∀ v ∈ scs l, v.oneCell' = true
  | [], v, h => by simp [scs] at h
  | y :: l, v, h => by
    simp only [scs, List.mem_cons] at h
    rcases h with rfl | rfl | rfl | rfl | rfl | h
    · rfl
    · rfl
    · rfl
    · rfl
    · rfl
    · exact scs_one l v h
/-- The list in memory. -/
def Sl (w : World) (b : Option Addr) (m : Nat) (xs : List Sx) : Prop := xs.length = m ∧ (m = 0 ∨ ∃ g off, b = some ⟨g, off, none⟩ ∧ ∀ i u, (scs xs)[i]? = some u → w.cell? ⟨g, off + i, none⟩ = some u)
/-- Its bodies in memory; each sector may be. -/
def Sb (w : World) (xs : List Sx) : Prop := ∀ y ∈ xs, Bs w y.a y.n y.x.l ∧ MayN y.x.T y.x.e y.x.q y.x.p y.n
theorem Sl.fr {R : Nat → Prop} {w w' : World} {b : Option Addr} {m : Nat} {xs : List Sx} (h : Sl w b m xs) (hf : Fr R w w') (hq : ∀ ad, b = some ad → 0 < m → ¬ R ad.block) : Sl w' b m xs := by
  refine ⟨h.1, ?_⟩
  rcases h.2 with h0 | ⟨g, off, rfl, hc⟩
  · exact .inl h0
  · by_cases hm : m = 0
    · exact .inl hm
    · refine .inr ⟨g, off, rfl, fun i u hu => ?_⟩
      have hlt := World.block_lt_of_cell? w _ (hc i u hu)
      exact (World.cell?_of_block (w := w) (a := ⟨g, off + i, none⟩) (hf.same g hlt (hq _ rfl (by omega)))).trans (hc i u hu)
theorem Sb.fr {R : Nat → Prop} {w w' : World} {xs : List Sx} (h : Sb w xs) (hf : Fr R w w') (hq : ∀ y ∈ xs, ∀ ad, y.a = some ad → 0 < y.n → ¬ R ad.block) : Sb w' xs := fun y hy => ⟨(h y hy).1.fr hf (hq y hy), (h y hy).2⟩
/-- The writes of a list. -/
def wrl (N : Nat) (xs : List Sx) : List (Nat × List Int) := xs.map fun y => (hom N y.x, ps y.x)
theorem wrl_take (N : Nat) (xs : List Sx) (j : Nat) {y : Sx} (h : xs[j]? = some y) : wrl N (xs.take (j + 1)) = wrl N (xs.take j) ++ [(hom N y.x, ps y.x)] := by
  unfold wrl
  rw [List.take_add_one, h, List.map_append]
  rfl
theorem wrs_app' : ∀ (a b : List (Nat × List Int)) (s : St), wrs s (a ++ b) = if (wrs s a).1 = 0 then wrs (wrs s a).2 b else wrs s a
  | [], b, s => by simp [wrs]
  | (i, z) :: r, b, s => by
    simp only [List.cons_append, wrs]
    split
    · exact wrs_app' r b _
    · rfl
theorem wrs_n' : ∀ (ws : List (Nat × List Int)) (s : St), (wrs s ws).2.n = s.n ∧ (wrs s ws).2.k = s.k ∧ (wrs s ws).2.c ≤ s.c + ws.length ∧ (wrs s ws).2.P.length ≤ s.P.length + ws.length
  | [], s => ⟨rfl, rfl, Nat.le_refl _, Nat.le_refl _⟩
  | (i, z) :: r, s => by
    unfold wrs
    have o1 := opS_c s
    have o2 := opS_n s
    have o3 := opS_k s
    have o4 := opS_P s
    split
    · obtain ⟨h1, h2, h3, h4⟩ := wrs_n' r { opS s with P := s.P ++ [(i, z)] }
      simp only [List.length_append, List.length_cons, List.length_nil] at h1 h2 h3 h4 ⊢
      exact ⟨h1.trans o2, h2.trans o3, by omega, by omega⟩
    · simp only [List.length_cons]
      exact ⟨o2, o3, by omega, by rw [o4]; omega⟩
theorem wr_in' {s : St} {i : Nat} {z : List Int} (hi : i < s.n) (hz : z.length = 512) : wrE s (i : Int) 512 = opE s ∧ wrS s (i : Int) z = if opE s = 0 then { opS s with P := s.P ++ [(i, z)] } else opS s := by
  unfold wrE wrS
  rw [if_pos ⟨by omega, by omega⟩, if_pos rfl, if_pos ⟨by omega, by omega, hz⟩, Int.toNat_natCast]
  exact ⟨rfl, rfl⟩
/-- The home of a sector, whatever it is. -/
theorem whome_ {w : World} {d : Nat} {s : St} {Q : Nat → Prop} (h : Dev w d s Q) (x : Sec) (n : Nat) (v : Value) (hM : MayN x.T x.e x.q x.p n) : Calls Tryz.prog 139 #[.pointer (some ⟨d, 0, none⟩), .agg #[.string x.T, .int .i64 x.e, .int .i64 x.q, .int .i64 x.p, v]] w fun en w' => en = .returned (.int .i64 (hom s.n x)) ∧ Below w.heap.size w w' := by
  obtain ⟨hT, ⟨e1, e2⟩, ⟨q1, q2⟩, ⟨p1, p2⟩, hn⟩ := hM
  obtain ⟨T, e, q, p, l⟩ := x
  simp only at *
  obtain ⟨e', rfl⟩ : ∃ k : Nat, (k : Int) = e := ⟨e.toNat, by omega⟩
  obtain ⟨p', rfl⟩ : ∃ k : Nat, (k : Int) = p := ⟨p.toNat, by omega⟩
  unfold hom
  simp only [Int.toNat_natCast]
  by_cases h1 : T = t1
  · subst h1
    rw [if_pos rfl]
    exact whome_s h e' q p' v
  · rw [if_neg h1]
    exact whome_r h T h1 e' q p' v (by omega) (by omega)
end Go.Proofs.YtjajcbjodokfnaaGreatDoor
namespace Go.Proofs.YtjajcbjodokfnaaGreatDoor
set_option maxRecDepth 100000
open Go.RowKit Go.Shelf
set_option linter.unusedVariables false
set_option linter.unusedSimpArgs false

theorem Row.bs12 {w : World} {g n : Nat} {zs : List Int} (h : Row w g zs) (hl : zs.length = n) (hy : By zs) : Bs w (some ⟨g, 0, none⟩) n zs := by
  refine ⟨hl, hy, .inr ⟨g, 0, rfl, fun i hi => ?_⟩⟩
  rw [Nat.zero_add]
  exact h.cell i (by omega)
set_option maxHeartbeats 8000000 in
/-- Sectors are written, each at its home, and a flush. -/
theorem wlay_ (d : Nat) (s : St) (Q : Nat → Prop) (b : Option Addr) (m c : Nat) (xs : List Sx) (w : World) (h : Dev w d s Q) (hT : Tab w) (h0 : ¬ Q 0) (hs : Sl w b m xs) (hx : Sb w xs) (hqb : ∀ ad, b = some ad → 0 < m → ¬ Q ad.block) (hqx : ∀ y ∈ xs, ∀ ad, y.a = some ad → 0 < y.n → ¬ Q ad.block) (hh : ∀ y ∈ xs, hom s.n y.x < s.n) (hm : m ≤ c) (hcm : c ≤ maxLen) (hm5 : m ≤ 5000) (hsc : s.c ≤ 50000) (hP : s.P.length ≤ 50000) :
    Calls Tryz.prog 99 #[.pointer (some ⟨d, 0, none⟩), .slice b m c] w fun en w' => en = .returned (.int .i64 (wfl s (wrl s.n xs)).1) ∧ Dev w' d (wfl s (wrl s.n xs)).2 (Qn Q w w') ∧ Fr Q w w' := by
  have HD := hid h
  have HT := hid hT
  have H0 := hid h0
  have HS := hid hs
  have HX := hid hx
  have HQB := hid hqb
  have HQX := hid hqx
  have HH := hid hh
  have hl := hs.1
  have hlw := h.lt
  unfold maxLen at hcm
  have HLW := hid hlw
  clear h hT h0 hs hx hqb hqx hh hlw
  go_enter Tryz.func99, Tryz.ntmps99
  go_wp2_with fail
  go_loopw [6, 7, 8, 9, 12] (fun _ _ _ _ i wr => ∃ j : Nat, j ≤ m ∧ i = .int .i64 j ∧ Hid ((wrs s (wrl s.n (xs.take j))).1 = 0) ∧ Dev wr d (wrs s (wrl s.n (xs.take j))).2 (Qn Q w wr) ∧ Fr Q w wr) (fun _ _ _ _ i _ => m - (intOf i).toNat)
  case atStart => exact ⟨0, Nat.zero_le _, rfl, rfl, HD.out.weak (fun b q => .inl q) (fun b q => by
    rcases q with q | q
    · exact HLW.out b q
    · exact q.2), .refl _ _⟩
  case round =>
    obtain ⟨j, hj, rfl, HW, D1, F1⟩ := hrel
    obtain ⟨sn1, sk1, sc1, sp1⟩ := wrs_n' (wrl s.n (xs.take j)) s
    have hlen : (wrl s.n (xs.take j)).length = j := by unfold wrl; simp; omega
    rw [hlen] at sc1 sp1
    have T1 := HT.out.fr F1 H0.out
    by_cases hlt : j < m
    · have hjI : (j : Int) < (m : Int) := by omega
      obtain ⟨y, HY⟩ : ∃ y, Hid (xs[j]? = some y) := ⟨xs[j]'(by omega), by show _ = _; simp [show j < xs.length by omega]⟩
      have hym : y ∈ xs := List.mem_of_getElem? HY.out
      have S1 := HS.out.fr F1 HQB.out
      have X1 := HX.out.fr F1 HQX.out
      obtain ⟨gb, off, rfl, hcell⟩ : ∃ gb off, b = some ⟨gb, off, none⟩ ∧ ∀ i u, (scs xs)[i]? = some u → wr.cell? ⟨gb, off + i, none⟩ = some u := by
        rcases S1.2 with q | q
        · omega
        · exact q
      obtain ⟨k0, k1, k2, k3, k4⟩ := scs_get xs j y HY.out
      have c0 := hcell _ _ k0
      have c1 := hcell _ _ k1
      have c2 := hcell _ _ k2
      have c3 := hcell _ _ k3
      have c4 := hcell _ _ k4
      obtain ⟨yb, yM⟩ := X1 y hym
      have hhy := HH.out y hym
      have HWS : Hid (wrs s (wrl s.n (xs.take (j + 1))) = if opE (wrs s (wrl s.n (xs.take j))).2 = 0 then (0, { opS (wrs s (wrl s.n (xs.take j))).2 with P := (wrs s (wrl s.n (xs.take j))).2.P ++ [(hom s.n y.x, ps y.x)] }) else (opE (wrs s (wrl s.n (xs.take j))).2, opS (wrs s (wrl s.n (xs.take j))).2)) := by
        show _ = _
        rw [wrl_take _ _ _ HY.out, wrs_app', if_pos HW.out]
        simp only [wrs]
      have HNE : Hid ((wrs s (wrl s.n (xs.take (j + 1)))).1 ≠ 0 → wfl s (wrl s.n xs) = wrs s (wrl s.n (xs.take (j + 1)))) := fun hne => by
        have hr : wrl s.n xs = wrl s.n (xs.take (j + 1)) ++ wrl s.n (xs.drop (j + 1)) := by unfold wrl; rw [← List.map_append, List.take_append_drop]
        have h1 : wrs s (wrl s.n xs) = wrs s (wrl s.n (xs.take (j + 1))) := by rw [hr, wrs_app', if_neg hne]
        unfold wfl
        rw [h1, if_neg hne]
      have HD1 := hid D1
      have HF1 := hid F1
      have HT1 := hid T1
      have HYB := hid yb
      have HYM := hid yM
      generalize (wrs s (wrl s.n (xs.take j))).2 = sj at *
      have hyl := yb.1
      clear D1 F1 T1 S1 X1 yb k0 k1 k2 k3 k4 hcell hym hlt
      obtain ⟨⟨yT, ye, yq, yp, yl⟩, ya, yn, yc⟩ := y
      simp only at *
      rw [show off + (j * 5 + 1) = off + j * 5 + 1 from by omega] at c1
      rw [show off + (j * 5 + 2) = off + j * 5 + 2 from by omega] at c2
      rw [show off + (j * 5 + 3) = off + j * 5 + 3 from by omega] at c3
      rw [show off + (j * 5 + 4) = off + j * 5 + 4 from by omega] at c4
      go_wp2_with fail
      have m0 := Sm.new wr yT ye yq yp (.slice ya yn yc)
      have BA := snew wr yT ye yq yp (.slice ya yn yc)
      have D2 := HD1.out.below BA
      have T2 := HT1.out.bel BA
      have B2 := HYB.out.below BA
      generalize wr.alloc (.cells #[.string yT, .int .i64 ye, .int .i64 yq, .int .i64 yp, .slice ya yn yc] 40) = W at *
      refine (put_y yT ye yq yp ya yn yc yl W T2 B2 HYM.out).mono ?_
      rintro en w2 ⟨gz, rfl, hgz, rz, g2⟩
      have D3 := D2.below g2
      have m2 := m0.kept g2
      have d0 := m2.c0
      have d1 := m2.c1
      have d2 := m2.c2
      have d3 := m2.c3
      have d4 := m2.c4
      have HB2 := hid (bel_bel BA BA.size g2)
      have HRZ := hid rz
      have hw := BA.size
      have kh := whome_ D3 ⟨yT, ye, yq, yp, yl⟩ yn (.slice ya yn yc) HYM.out
      rw [sn1] at kh
      obtain ⟨H, HHm⟩ : ∃ H, Hid (hom s.n ⟨yT, ye, yq, yp, yl⟩ = H) := ⟨_, rfl⟩
      rw [HHm.out] at kh hhy HWS
      have HD3 := hid D3
      clear m0 m2 BA D2 T2 B2 g2 rz D3 c0 c1 c2 c3 c4
      go_wp2_with fail
      refine kh.mono ?_
      rintro en w3 ⟨rfl, g3⟩
      have D4 := HD3.out.below g3
      have rz3 : Row w3 gz (ps ⟨yT, ye, yq, yp, yl⟩) := (g3.block gz HRZ.out.lt).trans HRZ.out
      have B3 := bel_bel HB2.out HB2.out.size g3
      have HPM : May ⟨yT, ye, yq, yp, yl⟩ := (may_n (s := ⟨yT, ye, yq, yp, yl⟩) hyl).2 HYM.out
      have hpl := ps_length HPM
      have hpb : By (ps ⟨yT, ye, yq, yp, yl⟩) := ps_by HYB.out.2.1
      have bz := rz3.bs12 hpl hpb
      obtain ⟨z, HZ⟩ : ∃ z, Hid (ps ⟨yT, ye, yq, yp, yl⟩ = z) := ⟨_, rfl⟩
      rw [HZ.out] at bz hpl HWS
      obtain ⟨wr1, wr2⟩ := wr_in' (s := sj) (i := H) (z := z) (by rw [sn1]; exact hhy) hpl
      have kw := write_ d sj (Qn Q w wr) (H : Int) (some ⟨gz, 0, none⟩) 512 512 z w3 D4 (by omega) (by omega) bz (fun ad ha _ q => by
        obtain rfl := Option.some.inj ha
        have h1 : gz < wr.heap.size := HD1.out.lt _ q
        omega)
      obtain ⟨E, HE⟩ : ∃ E, Hid (opE sj = E) := ⟨_, rfl⟩
      rw [wr1, wr2] at kw
      rw [HE.out] at kw HWS
      have HB3 := hid B3
      clear D4 rz3 B3 HPM hpl hpb bz wr1 wr2 g3 kh d0 d1 d2 d3 d4
      go_wp2_with fail
      refine kw.mono ?_
      rintro en w4 ⟨rfl, D5, F5⟩
      have F6 : Fr (Qn Q w wr) wr w4 := (Fr.ofB HB3.out).trans F5
      have HF7 : Hid (Fr Q w w4) := ⟨F6.os.trans HF1.out.os, F6.tape.trans HF1.out.tape, F6.output.trans HF1.out.output, Nat.le_trans HF1.out.size F6.size, fun b hb hn => (F6.same b (Nat.lt_of_lt_of_le hb HF1.out.size) (fun q => by
        rcases q with q | q
        · exact hn q
        · omega)).trans (HF1.out.same b hb hn)⟩
      have s1 := HF1.out.size
      have s3 := HB3.out.size
      have s5 := F5.size
      have D6 := D5.weak (R := Qn Q w w4) (fun b q => by
        rcases q with (q | q) | q
        · exact .inl q
        · exact .inr ⟨q.1, by omega⟩
        · exact .inr ⟨by omega, q.2⟩) (fun b q => by
        rcases q with q | q
        · have := HLW.out b q; omega
        · exact q.2)
      have HD6 := hid D6
      clear kw D5 F5 F6 D6 HB3 HB2 HD3 HRZ
      by_cases hE : E = 0
      · subst hE
        rw [if_pos rfl] at HWS
        rw [if_pos rfl] at HD6
        go_wp2_with fail
        go_roundw
        case rel => exact ⟨j + 1, by omega, by go_num, by show _ = _; rw [HWS.out], by rw [HWS.out]; exact HD6.out, HF7.out⟩
        case measure => simp [intOf]; omega
      · have hEb : (E != 0) = true := by rw [bne_iff_ne]; exact hE
        rw [if_neg hE] at HWS
        rw [if_neg hE] at HD6
        have hfin := HNE.out (by rw [HWS.out]; exact hE)
        rw [HWS.out] at hfin
        have HFIN := hid hfin
        clear hfin hE
        go_wp2_with fail
        go_ret
        rw [HFIN.out]
        exact ⟨rfl, HD6.out, HF7.out⟩
    · obtain rfl : j = m := by omega
      have hjI : ¬ (j : Int) < (j : Int) := by omega
      have HTK : Hid (xs.take j = xs) := List.take_of_length_le (by omega)
      rw [HTK.out] at HW D1 sn1 sc1 sp1
      have HFL : Hid (wfl s (wrl s.n xs) = (opE (wrs s (wrl s.n xs)).2, flS (wrs s (wrl s.n xs)).2)) := by
        show _ = _
        unfold wfl
        rw [if_pos HW.out]
        rfl
      have kf := flush_ d (wrs s (wrl s.n xs)).2 (Qn Q w wr) wr D1 (by omega) (by omega)
      generalize (wrs s (wrl s.n xs)).2 = sj at *
      obtain ⟨E, HE⟩ : ∃ E, Hid (opE sj = E) := ⟨_, rfl⟩
      rw [HE.out] at kf HFL
      have HF1 := hid F1
      clear D1 F1 T1
      go_wp2_with fail
      refine kf.mono ?_
      rintro en w2 ⟨rfl, D2, F2⟩
      have HF7 : Hid (Fr Q w w2) := ⟨F2.os.trans HF1.out.os, F2.tape.trans HF1.out.tape, F2.output.trans HF1.out.output, Nat.le_trans HF1.out.size F2.size, fun b hb hn => (F2.same b (Nat.lt_of_lt_of_le hb HF1.out.size) (fun q => by
        rcases q with q | q
        · exact hn q
        · omega)).trans (HF1.out.same b hb hn)⟩
      have s1 := HF1.out.size
      have s2 := F2.size
      have HD6 := hid (D2.weak (R := Qn Q w w2) (fun b q => by
        rcases q with q | q
        · exact .inl q
        · exact .inr ⟨q.1, by omega⟩) (fun b q => by
        rcases q with q | q
        · have := HLW.out b q; omega
        · exact q.2))
      clear kf D2 F2
      go_wp2_with fail
      go_ret
      rw [HFL.out]
      exact ⟨rfl, HD6.out, HF7.out⟩
end Go.Proofs.YtjajcbjodokfnaaGreatDoor
