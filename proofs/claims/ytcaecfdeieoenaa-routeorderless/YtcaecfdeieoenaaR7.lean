import Derived.Test.YtcaecfdeieoenaaR6
namespace Go.Proofs.Ytcaecfdeieoenaa
open Go.RowKit
set_option linter.unusedVariables false

theorem ixo_uni {l : List Wy} {p : Wy} (hl : Srt l) (h : 0 ≤ ixo l p) {i : Nat} {x : Wy} (hx : l[i]? = some x) : x.sm p = decide ((i : Int) = ixo l p) := by
  unfold ixo at *
  cases hf : l.findIdx? (fun x => x.sm p) with
  | none => rw [hf] at h; simp at h
  | some k =>
    simp only
    rw [List.findIdx?_eq_some_iff_getElem] at hf
    obtain ⟨hk, hs, _⟩ := hf
    obtain ⟨hi, e⟩ := List.getElem?_eq_some_iff.1 hx
    unfold Srt at hl
    rw [List.pairwise_iff_getElem] at hl
    have key : ∀ a b : Wy, a.cm b < 0 → a.sm p = true → b.sm p = true → False := fun a b hc h1 h2 => by
      have := (cm_not hc).1
      rw [sm_iff] at h1 h2
      rw [Bool.eq_false_iff] at this
      exact this ((sm_iff _ _).2 (by omega))
    by_cases hik : i = k
    · subst hik
      rw [← e, hs]
      simp
    · rw [decide_eq_false (by omega)]
      refine Bool.eq_false_iff.2 (fun hh => ?_)
      rw [← e] at hh
      rcases Nat.lt_or_ge i k with h | h
      · exact key _ _ (hl i k hi hk h) hh hs
      · exact key _ _ (hl k i hk hi (by omega)) hs hh
theorem del_snoc {p x : Wy} (l : List Wy) : del p (l ++ [x]) = if x.sm p = true then del p l else del p l ++ [x] := by
  unfold del
  rw [List.filter_append]
  by_cases h : x.sm p = true
  · rw [if_pos h, List.filter_cons_of_neg (by rw [h]; simp), List.filter_nil, List.append_nil]
  · rw [if_neg h, List.filter_cons_of_pos (by simpa using h), List.filter_nil]
theorem del_len (p : Wy) (l : List Wy) : (del p l).length ≤ l.length := List.length_filter_le _ _
set_option maxRecDepth 100000 in
set_option maxHeartbeats 4000000 in
theorem refWithout_ (v : Value) (l : List Wy) (p : Wy) (w : World) (h : Rt w v l) (hS : Srt l) (hp : p.In) (hl : l.length ≤ 99999) :
    Calls Try.prog 25 #[v, p.px] w fun e w' => ((oE p l ≠ 0 ∧ e = .returned (.tuple #[.pointer none, .int .i64 (oE p l)])) ∨ (oE p l = 0 ∧ ∃ v', e = .returned (.tuple #[v', .int .i64 0]) ∧ Rt w' v' (del p l))) ∧ Below w.heap.size w w' := by
  have HRt := hid h
  have HS := hid hS
  obtain ⟨pF, pH, pL, pB, pK⟩ := hp
  have k1 := fun w => refValid_ p.F p.H p.L p.B w pH pL pB
  have k2 := fun w h => refAt_ v l p w h
  have HX := hid (ixo_lt (l := l) (p := p))
  obtain ⟨k, s, rfl, hk, hs⟩ := h
  obtain ⟨a, c, rfl, hn, hc, HW⟩ := hs.read
  have ck := Rt.cell hk
  have B0 := pnew w p.F p.H p.L p.B
  have m0 := Pm.new w p.F p.H p.L p.B
  have HWh := hid (HW.kept B0)
  replace ck := cell_be8 B0 ck
  replace HRt := hid (HRt.out.kept B0)
  unfold maxLen at hc
  clear hk hs HW pF pH pL pB hS
  have c0 := m0.c0
  have c1 := m0.c1
  have c2 := m0.c2
  have c3 := m0.c3
  unfold Wy.px
  go_enter Try.func25, Try.ntmps25
  go_wp2_with fail
  generalize w.alloc (.cells #[.int .i64 p.F, .int .u64 p.H, .int .u64 p.L, .int .i64 p.B] 32) = w1 at *
  refine (k1 _).mono ?_
  rintro e w2 ⟨rfl, g2⟩
  replace m0 := m0.kept g2
  replace ck := cell_be8 g2 ck
  replace HRt := hid (HRt.out.kept g2)
  replace HWh := hid (HWh.out.kept g2)
  replace B0 := bel_bel B0 B0.size g2
  clear g2 c0 c1 c2 c3 k1
  have c0 := m0.c0
  have c1 := m0.c1
  have c2 := m0.c2
  have c3 := m0.c3
  go_wp2_with fail
  refine (k2 _ HRt.out).mono ?_
  rintro e w3 ⟨rfl, g2⟩
  replace m0 := m0.kept g2
  replace ck := cell_be8 g2 ck
  replace HWh := hid (HWh.out.kept g2)
  replace B0 := bel_bel B0 B0.size g2
  clear g2 c0 c1 c2 c3 k2 HRt w1 w2
  cases hv : vp p.F p.H p.L p.B with
  | false =>
    have HE : Hid (oE p l = 70) := by show _ = _; unfold oE; rw [hv]; rfl
    clear hv
    go_wp2_with fail
    go_ret2
    exact ⟨.inl ⟨by rw [HE.out]; decide, by rw [HE.out]; rfl⟩, B0⟩
  | true =>
    by_cases h3 : ixo l p < 0
    · have HE : Hid (oE p l = 82) := by show _ = _; unfold oE; rw [hv, if_neg (by simp), if_pos (Bool.eq_false_iff.2 (fun hh => by have := HX.out.1.2 hh; omega))]
      clear hv
      go_wp2_with fail
      go_ret2
      exact ⟨.inl ⟨by rw [HE.out]; decide, by rw [HE.out]; rfl⟩, B0⟩
    have HE : Hid (oE p l = 0) := by show _ = _; unfold oE; rw [hv, if_neg (by simp), if_neg (by rw [HX.out.1.1 (by omega)]; simp)]
    have HU : Hid (∀ (i : Nat) (x : Wy), l[i]? = some x → x.sm p = decide ((i : Int) = ixo l p)) := fun i x hx => ixo_uni HS.out (by omega) hx
    clear hv m0
    generalize ixo l p = kk at *
    go_wp2_with fail
    go_loopw [8, 9] (fun lv i wr => ∃ (j : Nat), j ≤ l.length ∧ i = .int .i64 j ∧ Wo wr w3.heap.size lv (del p (l.take j)) ∧ Below w3.heap.size w3 wr) (fun _ i _ => l.length - (intOf i).toNat)
    case atStart => exact ⟨0, by omega, rfl, Wo.nil _ _, Below.refl _ _⟩
    case round =>
      obtain ⟨j, hj, rfl, hrow, hB3⟩ := hrel
      have e0 := cell_be8 hB3 ck
      have hsz := hB3.size
      by_cases hlt : j < l.length
      · have hI : (j : Int) < (l.length : Int) := by omega
        obtain ⟨x, hx⟩ : ∃ x, l[j]? = some x := ⟨_, List.getElem?_eq_getElem hlt⟩
        obtain ⟨q, off, rfl, n0, n1, n2, n3, n4⟩ : ∃ q off, a = some ⟨q, off, none⟩ ∧ (w3.cell? ⟨q, off + j * 5, none⟩ = some (.int .i64 x.F) ∧ w3.cell? ⟨q, off + j * 5 + 1, none⟩ = some (.int .u64 x.H) ∧ w3.cell? ⟨q, off + j * 5 + 2, none⟩ = some (.int .u64 x.L) ∧ w3.cell? ⟨q, off + j * 5 + 3, none⟩ = some (.int .i64 x.B) ∧ w3.cell? ⟨q, off + j * 5 + 4, none⟩ = some (.int .i64 x.K)) := by
          rcases HWh.out.2 with h | ⟨q, off, e, h⟩
          · rw [h] at hlt
            simp at hlt
          · exact ⟨q, off, e, h j x hx⟩
        have HXI := hid (HWh.out.1 x (List.mem_of_getElem? hx))
        have f0 := cell_be8 hB3 n0
        have f1 := cell_be8 hB3 n1
        have f2 := cell_be8 hB3 n2
        have f3 := cell_be8 hB3 n3
        have f4 := cell_be8 hB3 n4
        have HN : Hid (del p (l.take (j + 1)) = if (j : Int) = kk then del p (l.take j) else del p (l.take j) ++ [x]) := by
          show _ = _
          rw [← take_snoc hx, del_snoc, HU.out j x hx]
          by_cases h : (j : Int) = kk
          · rw [if_pos h, if_pos (decide_eq_true h)]
          · rw [if_neg h, if_neg (by simpa using h)]
        have hrl : (del p (l.take j)).length ≤ 100000 := Nat.le_trans (del_len _ _) (by rw [List.length_take]; omega)
        clear n0 n1 n2 n3 n4
        generalize del p (l.take j) = row at *
        by_cases hjk : (j : Int) = kk
        · obtain rfl := hjk
          go_wp2_with fail
          go_roundw
          case rel => exact ⟨j + 1, by omega, rfl, by rw [HN.out, if_pos rfl]; exact hrow, hB3⟩
          case measure => simp [intOf]; omega
        · go_wp2_with (at_builtin; refine wpList_way rfl _ _ rfl w3.heap.size _ row rfl (hrow.kept ((Below.refl _ _).alloc (Nat.le_refl _) _)) wr.heap.size x rfl (heap_alloc_new _ _) HXI.out (by omega) (by simp; omega) ?_; intro v6 w6 hrow6 g5)
          have g7 : Below w3.heap.size w3 w6 := (hB3.alloc hsz _).trans g5
          go_wp2_with fail
          go_roundw
          case rel => exact ⟨j + 1, by omega, rfl, by rw [HN.out, if_neg hjk]; exact hrow6, g7⟩
          case measure => simp [intOf]; omega
      · have hI : ¬ (j : Int) < (l.length : Int) := by omega
        obtain rfl : j = l.length := by omega
        rw [List.take_length] at hrow
        obtain ⟨a6, c6, rfl, _, _, _⟩ := hrow.read
        go_wp2_with fail
        go_ret2
        refine ⟨.inr ⟨HE.out, _, rfl, wr.heap.size, _, rfl, heap_alloc_new _ _, ?_⟩, ?_⟩
        · exact (hrow.mono (Nat.zero_le _)).kept ((Below.refl _ _).alloc (Nat.le_refl _) _)
        · exact (bel_bel B0 B0.size hB3).alloc (Nat.le_trans B0.size hB3.size) _
end Go.Proofs.Ytcaecfdeieoenaa
