import Derived.Test.YtcaecfdeieoenaaR5
namespace Go.Proofs.Ytcaecfdeieoenaa
open Go.RowKit
set_option linter.unusedVariables false

theorem ixo_lt {l : List Wy} {p : Wy} : (0 ≤ ixo l p ↔ has p l = true) ∧ -1 ≤ ixo l p ∧ ixo l p < l.length := by
  unfold ixo
  cases h : l.findIdx? (fun x => x.sm p) with
  | none =>
    rw [List.findIdx?_eq_none_iff] at h
    refine ⟨⟨fun h' => by simp at h', fun h' => ?_⟩, by simp, by simp; omega⟩
    obtain ⟨x, hx, hs⟩ := has_true.1 h'
    rw [h x hx] at hs
    cases hs
  | some i =>
    rw [List.findIdx?_eq_some_iff_getElem] at h
    obtain ⟨hi, hs, _⟩ := h
    refine ⟨⟨fun _ => has_true.2 ⟨_, List.getElem_mem hi, hs⟩, fun _ => by simp⟩, by simp, by simpa using hi⟩
/-- The same, and a row of one's own beside it. -/
def SAw (k g q o : Nat) (s : Value) (x p : Wy) (w0 w1 : World) (v : Value) (row : List Wy) (w : World) : Prop := SAt k g q o s x p w0 w1 w ∧ Wo w w1.heap.size v row
theorem SAw.kept {k g q o : Nat} {s : Value} {x p : Wy} {w0 w1 w w' : World} {v : Value} {row : List Wy} (h : SAw k g q o s x p w0 w1 v row w) (hb : Below w.heap.size w w') : SAw k g q o s x p w0 w1 v row w' := ⟨h.1.kept hb, h.2.kept hb⟩
set_option maxRecDepth 100000 in
set_option maxHeartbeats 4000000 in
theorem refWith_ (v : Value) (l : List Wy) (p : Wy) (w : World) (h : Rt w v l) (hp : p.In) (hl : l.length ≤ 99999) :
    Calls Try.prog 23 #[v, p.px, .int .i64 p.K] w fun e w' => ((wE p l ≠ 0 ∧ e = .returned (.tuple #[.pointer none, .int .i64 (wE p l)])) ∨ (wE p l = 0 ∧ ∃ v', e = .returned (.tuple #[v', .int .i64 0]) ∧ Rt w' v' (ins p l))) ∧ Below w.heap.size w w' := by
  have HRt := hid h
  have HP := hid hp
  obtain ⟨pF, pH, pL, pB, pK⟩ := hp
  have k1 := fun w => refValid_ p.F p.H p.L p.B w pH pL pB
  have k2 := fun w h => refAt_ v l p w h
  have HX := hid (ixo_lt (l := l) (p := p))
  obtain ⟨k, s, rfl, hk, hs⟩ := h
  obtain ⟨a, c, rfl, hn, hc, HW⟩ := hs.read
  have ck := Rt.cell hk
  have B0 := pnew w p.F p.H p.L p.B
  have m0 := Pm.new w p.F p.H p.L p.B
  have HWh := hid (HW.kept B0)
  replace ck := cell_be8 B0 ck
  replace HRt := hid (HRt.out.kept B0)
  unfold maxLen at hc
  clear hk hs HW pF pH pL pB
  have c0 := m0.c0
  have c1 := m0.c1
  have c2 := m0.c2
  have c3 := m0.c3
  unfold Wy.px
  go_enter Try.func23, Try.ntmps23
  go_wp2_with fail
  generalize w.alloc (.cells #[.int .i64 p.F, .int .u64 p.H, .int .u64 p.L, .int .i64 p.B] 32) = w1 at *
  refine (k1 _).mono ?_
  rintro e w2 ⟨rfl, g2⟩
  replace m0 := m0.kept g2
  replace ck := cell_be8 g2 ck
  replace HRt := hid (HRt.out.kept g2)
  replace HWh := hid (HWh.out.kept g2)
  replace B0 := bel_bel B0 B0.size g2
  clear g2 c0 c1 c2 c3 k1
  have c0 := m0.c0
  have c1 := m0.c1
  have c2 := m0.c2
  have c3 := m0.c3
  go_wp2_with fail
  refine (k2 _ HRt.out).mono ?_
  rintro e w3 ⟨rfl, g2⟩
  replace m0 := m0.kept g2
  replace ck := cell_be8 g2 ck
  replace HWh := hid (HWh.out.kept g2)
  replace B0 := bel_bel B0 B0.size g2
  clear g2 c0 c1 c2 c3 k2 HRt w1 w2
  cases hv : vp p.F p.H p.L p.B with
  | false =>
    have HE : Hid (wE p l = 70) := by show _ = _; unfold wE; rw [hv]; rfl
    clear hv
    go_wp2_with fail
    go_ret2
    exact ⟨.inl ⟨by rw [HE.out]; decide, by rw [HE.out]; rfl⟩, B0⟩
  | true =>
    by_cases h1 : p.K < 1
    · have HE : Hid (wE p l = 81) := by show _ = _; unfold wE; rw [hv, if_neg (by simp), if_pos (.inl h1)]
      clear hv
      go_wp2_with fail
      go_ret2
      exact ⟨.inl ⟨by rw [HE.out]; decide, by rw [HE.out]; rfl⟩, B0⟩
    by_cases h2 : 4294967295 < p.K
    · have HE : Hid (wE p l = 81) := by show _ = _; unfold wE; rw [hv, if_neg (by simp), if_pos (.inr h2)]
      clear hv
      go_wp2_with fail
      go_ret2
      exact ⟨.inl ⟨by rw [HE.out]; decide, by rw [HE.out]; rfl⟩, B0⟩
    by_cases h3 : 0 ≤ ixo l p
    · have HE : Hid (wE p l = 80) := by show _ = _; unfold wE; rw [hv, if_neg (by simp), if_neg (by omega), if_pos (HX.out.1.1 h3)]
      clear hv
      go_wp2_with fail
      go_ret2
      exact ⟨.inl ⟨by rw [HE.out]; decide, by rw [HE.out]; rfl⟩, B0⟩
    have HE : Hid (wE p l = 0) := by show _ = _; unfold wE; rw [hv, if_neg (by simp), if_neg (by omega), if_neg (fun hh => h3 (HX.out.1.2 hh))]
    clear hv
    go_wp2_with fail
    go_loopw [10, 11, 12] (fun lv lb i wr => ∃ (j : Nat) (b : Bool) (row : List Wy), j ≤ l.length ∧ i = .int .i64 j ∧ lb = .bool b ∧ Wo wr w3.heap.size lv row ∧ Lp p l j b row ∧ Below w3.heap.size w3 wr) (fun _ _ i _ => l.length - (intOf i).toNat)
    case atStart => exact ⟨0, false, [], by omega, rfl, rfl, Wo.nil _ _, .inl ⟨rfl, rfl, fun i y hi => by omega⟩, Below.refl _ _⟩
    case round =>
      obtain ⟨j, b, row, hj, rfl, rfl, hrow, hlp, hB3⟩ := hrel
      have m1 := m0.kept hB3
      have d0 := cell_be8 hB3 ck
      have hB := bel_bel B0 B0.size hB3
      by_cases hlt : j < l.length
      · have hI : (j : Int) < (l.length : Int) := by omega
        obtain ⟨x, hx⟩ : ∃ x, l[j]? = some x := ⟨_, List.getElem?_eq_getElem hlt⟩
        obtain ⟨q, off, rfl, hq⟩ : ∃ q off, a = some ⟨q, off, none⟩ ∧ (w3.cell? ⟨q, off + j * 5, none⟩ = some (.int .i64 x.F) ∧ w3.cell? ⟨q, off + j * 5 + 1, none⟩ = some (.int .u64 x.H) ∧ w3.cell? ⟨q, off + j * 5 + 2, none⟩ = some (.int .u64 x.L) ∧ w3.cell? ⟨q, off + j * 5 + 3, none⟩ = some (.int .i64 x.B) ∧ w3.cell? ⟨q, off + j * 5 + 4, none⟩ = some (.int .i64 x.K)) := by
          rcases HWh.out.2 with h | ⟨q, off, e, h⟩
          · rw [h] at hlt
            simp at hlt
          · exact ⟨q, off, e, h j x hx⟩
        have HXI := hid (HWh.out.1 x (List.mem_of_getElem? hx))
        have HQ := hid hq
        have S0 : SAt k w.heap.size q (off + j * 5) (.slice (some ⟨q, off, none⟩) l.length c) x p w w3 wr := ⟨⟨d0, cell_be8 hB3 hq.1, cell_be8 hB3 hq.2.1, cell_be8 hB3 hq.2.2.1, cell_be8 hB3 hq.2.2.2.1, m1.c0, m1.c1, m1.c2, m1.c3⟩, hB, hB3⟩
        clear hq
        have k1 := fun w => refCompare_ p.F p.H p.L p.B x.F x.H x.L x.B w
        have hrl := hlp.len hj
        have k1 : ∀ w, Calls Try.prog 46 #[.agg #[.int .i64 p.F, .int .u64 p.H, .int .u64 p.L, .int .i64 p.B], .agg #[.int .i64 x.F, .int .u64 x.H, .int .u64 x.L, .int .i64 x.B]] w fun e w' => e = .returned (.int .i64 (p.cm x)) ∧ Below w.heap.size w w' := k1
        go_wp2_with fail
        refine wp_region_quiet (C := SAw k w.heap.size q (off + j * 5) (.slice (some ⟨q, off, none⟩) l.length c) x p w w3 u10 row) (by kernel_rfl) (by kernel_rfl) ⟨S0.drew, hrow.kept ⟨rfl, rfl, rfl, Nat.le_refl _, fun _ _ => rfl⟩⟩ ?_
        repeat
          refine wpQuiet_step (fun K hK => ?_)
          go_simp
          first
            | (refine hK _ ?_; clear hK K)
            | (apply Exists.intro
               refine ⟨fun wq hq => ?_, hK _ ?_⟩
               · first
                 | rfl
                 | (go_at_call 46; exact (k1 _).mono fun _ _ h => ⟨h.1, hq.kept h.2⟩)
                 | (obtain ⟨⟨⟨q0, q1, q2, q3, q4, q5, q6, q7, q8⟩, _⟩, _⟩ := hq; go_simp; rfl)
               clear hK K)
        refine wpQuiet_nil ?_
        intro w2 s2
        obtain ⟨s2, hrow2⟩ := s2
        obtain ⟨_, hB2, g2⟩ := s2
        have hsz := g2.size
        obtain ⟨n0, n1, n2, n3, n4⟩ := HQ.out
        have e0 := cell_be8 g2 ck
        have f0 := cell_be8 g2 n0
        have f1 := cell_be8 g2 n1
        have f2 := cell_be8 g2 n2
        have f3 := cell_be8 g2 n3
        have f4 := cell_be8 g2 n4
        have m2 := m0.kept g2
        have a0 := m2.c0
        have a1 := m2.c1
        have a2 := m2.c2
        have a3 := m2.c3
        clear n0 n1 n2 n3 n4 S0 hrow hB3 hB m1 k1 d0
        have LP := hid hlp
        clear hlp
        have hrl2 : row.length ≤ 100000 := by omega
        by_cases hneg : p.cm x < 0
        · cases b with
          | false =>
            have LP2 := hid (LP.out.put hx hneg)
            have hrl3 : (row ++ [p]).length ≤ 100000 := by rw [List.length_append, List.length_singleton]; omega
            go_wp2_with (at_builtin; first | (refine wpList_way rfl _ _ rfl w3.heap.size _ (row ++ [p]) rfl (hrow5.kept ((Below.refl _ _).alloc (Nat.le_refl _) _)) w5.heap.size x rfl (heap_alloc_new _ _) HXI.out hrl3 (by simp; omega) ?_; intro v6 w6 hrow6 g5) | (refine wpList_way rfl _ _ rfl w3.heap.size _ row rfl (hrow2.kept ((Below.refl _ _).alloc (Nat.le_refl _) _)) w2.heap.size p rfl (heap_alloc_new _ _) HP.out (by omega) (by simp; omega) ?_; intro v5 w5 hrow5 g5; have g6 : Below w3.heap.size w3 w5 := (g2.alloc hsz _).trans g5; have hs6 := g6.size; clear e0 f0 f1 f2 f3 f4 a0 a1 a2 a3 hrow2 g5 g2 hB2 hsz m2; have e0 := cell_be8 g6 ck; have f0 := cell_be8 g6 HQ.out.1; have f1 := cell_be8 g6 HQ.out.2.1; have f2 := cell_be8 g6 HQ.out.2.2.1; have f3 := cell_be8 g6 HQ.out.2.2.2.1; have f4 := cell_be8 g6 HQ.out.2.2.2.2))
            have g7 : Below w3.heap.size w3 w6 := (g6.alloc hs6 _).trans g5
            go_wp2_with fail
            go_roundw
            case rel => exact ⟨j + 1, true, _, by omega, rfl, rfl, hrow6, LP2.out.next hx, g7⟩
            case measure => simp [intOf]; omega
          | true =>
            go_wp2_with (at_builtin; refine wpList_way rfl _ _ rfl w3.heap.size _ row rfl (hrow2.kept ((Below.refl _ _).alloc (Nat.le_refl _) _)) w2.heap.size x rfl (heap_alloc_new _ _) HXI.out (by omega) (by simp; omega) ?_; intro v6 w6 hrow6 g5)

            have g7 : Below w3.heap.size w3 w6 := (g2.alloc hsz _).trans g5
            go_wp2_with fail
            go_roundw
            case rel => exact ⟨j + 1, true, _, by omega, rfl, rfl, hrow6, LP.out.next hx, g7⟩
            case measure => simp [intOf]; omega
        go_wp2_with (at_builtin; refine wpList_way rfl _ _ rfl w3.heap.size _ row rfl (hrow2.kept ((Below.refl _ _).alloc (Nat.le_refl _) _)) w2.heap.size x rfl (heap_alloc_new _ _) HXI.out (by omega) (by simp; omega) ?_; intro v6 w6 hrow6 g5)

        have g7 : Below w3.heap.size w3 w6 := (g2.alloc hsz _).trans g5
        go_wp2_with fail
        go_roundw
        case rel =>
          refine ⟨j + 1, b, _, by omega, rfl, rfl, hrow6, ?_, g7⟩
          cases b with
          | true => exact LP.out.next hx
          | false => exact LP.out.pass hx hneg
        case measure => simp [intOf]; omega
      · have hI : ¬ (j : Int) < (l.length : Int) := by omega
        obtain rfl : j = l.length := by omega
        have a0 := m1.c0
        have a1 := m1.c1
        have a2 := m1.c2
        have a3 := m1.c3
        have hrl := hlp.len hj
        have HD := hid hlp.done
        clear hlp
        have hsz := hB3.size
        cases b with
        | false =>
          go_wp2_with (at_builtin; refine wpList_way rfl _ _ rfl w3.heap.size _ row rfl (hrow.kept ((Below.refl _ _).alloc (Nat.le_refl _) _)) wr.heap.size p rfl (heap_alloc_new _ _) HP.out (by omega) (by simp; omega) ?_; intro v6 w6 hrow6 g5; obtain ⟨a6, c6, rfl, _, _, _⟩ := hrow6.read)

          have g7 : Below w3.heap.size w3 w6 := (hB3.alloc hsz _).trans g5
          go_wp2_with fail
          go_ret2
          refine ⟨.inr ⟨HE.out, _, rfl, w6.heap.size, _, rfl, heap_alloc_new _ _, ?_⟩, ?_⟩
          · rw [HD.out]
            show Wo _ 0 _ (row ++ [p])
            rw [List.length_append, List.length_singleton] at hrow6
            exact (hrow6.mono (Nat.zero_le _)).kept ((Below.refl _ _).alloc (Nat.le_refl _) _)
          · exact (bel_bel B0 B0.size g7).alloc (Nat.le_trans B0.size g7.size) _
        | true =>
          obtain ⟨a6, c6, rfl, _, _, _⟩ := hrow.read
          go_wp2_with fail
          go_ret2
          refine ⟨.inr ⟨HE.out, _, rfl, wr.heap.size, _, rfl, heap_alloc_new _ _, ?_⟩, ?_⟩
          · rw [HD.out]
            exact (hrow.mono (Nat.zero_le _)).kept ((Below.refl _ _).alloc (Nat.le_refl _) _)
          · exact (bel_bel B0 B0.size hB3).alloc (Nat.le_trans B0.size hB3.size) _
end Go.Proofs.Ytcaecfdeieoenaa
