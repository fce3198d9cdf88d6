import Derived.Test.YthflghjmpellpaaNB
namespace Go.Proofs.Ythflghjmpellpaa
open Go.RowKit Go.Maps
set_option linter.unusedVariables false
set_option maxRecDepth 100000

/-! Are two flights the same? -/
theorem fl_eq (f f' : Fl) : decide (f = f') = (sameB f.d f'.d && (f.no == f'.no) && (f.to == f'.to)) := by
  obtain ⟨a, b, c⟩ := f
  obtain ⟨a', b', c'⟩ := f'
  by_cases h : (⟨a, b, c⟩ : Fl) = ⟨a', b', c'⟩
  · rw [decide_eq_true h]
    injection h with h1 h2 h3
    subst h1 h2 h3
    simp [sameB_self]
  · rw [decide_eq_false h]
    symm
    simp only [Bool.and_eq_false_iff, beq_eq_false_iff_ne]
    unfold sameB
    simp only [decide_eq_false_iff_not]
    by_cases h1 : c = c'
    · by_cases h2 : a = a'
      · by_cases h3 : b = b'
        · subst h1 h2 h3; exact absurd rfl h
        · exact .inr h3
      · exact .inl (.inr h2)
    · exact .inl (.inl h1)
set_option maxHeartbeats 1000000 in
theorem sameFlight_ (a b : Option Addr) (n c m d : Nat) (f f' : Fl) (w : World) (hx : Bs w a n f.d) (hy : Bs w b m f'.d) (hn : n ≤ 100000) (hm : m ≤ 100000) {Q : Bool} (hQ : decide (f = f') = Q) :
    Calls Try.prog 15 #[.agg #[.int .i64 f.no, .int .i64 f.to, .slice a n c], .agg #[.int .i64 f'.no, .int .i64 f'.to, .slice b m d]] w fun e w' => e = .returned (.bool Q) ∧ Below w.heap.size w w' := by
  subst hQ
  rw [fl_eq]
  have B : Below w.heap.size w ((w.alloc (.cells #[.int .i64 f.no, .int .i64 f.to, .slice a n c] 34)).alloc (.cells #[.int .i64 f'.no, .int .i64 f'.to, .slice b m d] 34)) := ((Below.refl w.heap.size w).alloc (Nat.le_refl _) _).alloc (by simp) _
  have k1 := same_d a b n c m d f.d f'.d _ (hx.below B) (hy.below B) (by unfold maxLen; omega) (by unfold maxLen; omega)
  have HB := hid B
  obtain ⟨q, HQ⟩ : ∃ q, Hid (sameB f.d f'.d = q) := ⟨_, rfl⟩
  rw [HQ.out] at k1 ⊢
  obtain ⟨x1, x2⟩ : ∃ x y : Bool, (f.no == f'.no) = x ∧ (f.to == f'.to) = y := ⟨_, _, rfl, rfl⟩
  obtain ⟨x2, h1, h2⟩ := x2
  rw [h1, h2]
  clear hx hy B
  have c0 : ((w.alloc (.cells #[.int .i64 f.no, .int .i64 f.to, .slice a n c] 34)).alloc (.cells #[.int .i64 f'.no, .int .i64 f'.to, .slice b m d] 34)).heap[w.heap.size]? = some (.cells #[.int .i64 f.no, .int .i64 f.to, .slice a n c] 34 (0, 0)) := (Below.heap_alloc _ _ _ (by simp)).trans (heap_alloc_new w _)
  have c1 : ((w.alloc (.cells #[.int .i64 f.no, .int .i64 f.to, .slice a n c] 34)).alloc (.cells #[.int .i64 f'.no, .int .i64 f'.to, .slice b m d] 34)).heap[w.heap.size + 1]? = some (.cells #[.int .i64 f'.no, .int .i64 f'.to, .slice b m d] 34 (0, 0)) := by
    have := heap_alloc_new (w.alloc (.cells #[.int .i64 f.no, .int .i64 f.to, .slice a n c] 34)) (.cells #[.int .i64 f'.no, .int .i64 f'.to, .slice b m d] 34)
    rw [World.size_alloc] at this
    exact this
  have C0 := hid c0
  have C1 := hid c1
  clear c0 c1
  cases q
  all_goals
    cases x1
    all_goals
      go_enter Try.func15, Try.ntmps15
      go_wp2_with fail
      refine k1.mono ?_
      rintro e w1 ⟨rfl, hd⟩
      have HB1 : Hid (Below w.heap.size w w1) := HB.out.trans ⟨hd.os, hd.tape, hd.output, by rw [hd.heap]; exact Nat.le_refl _, fun k _ => by rw [hd.heap]⟩
      have C2 : w1.heap[w.heap.size]? = some (.cells #[.int .i64 f.no, .int .i64 f.to, .slice a n c] 34 (0, 0)) := (hd.at _).trans C0.out
      have C3 : w1.heap[w.heap.size + 1]? = some (.cells #[.int .i64 f'.no, .int .i64 f'.to, .slice b m d] 34 (0, 0)) := (hd.at _).trans C1.out
      have e0 : w1.cell? ⟨w.heap.size, 0, none⟩ = some (.int .i64 f.no) := (cell_of_row _ _ 0 _ _ (0, 0) C2).trans rfl
      have e1 : w1.cell? ⟨w.heap.size, 1, none⟩ = some (.int .i64 f.to) := (cell_of_row _ _ 1 _ _ (0, 0) C2).trans rfl
      have e2 : w1.cell? ⟨w.heap.size + 1, 0, none⟩ = some (.int .i64 f'.no) := (cell_of_row _ _ 0 _ _ (0, 0) C3).trans rfl
      have e3 : w1.cell? ⟨w.heap.size + 1, 1, none⟩ = some (.int .i64 f'.to) := (cell_of_row _ _ 1 _ _ (0, 0) C3).trans rfl
      clear k1 hd C0 C1 C2 C3 HB
      go_wp2_with fail
      go_ret
      exact ⟨rfl, HB1.out⟩
theorem getD_ext {l l' : List Fl} {n : Nat} (h1 : l.length = n) (h2 : l'.length = n) (h : ∀ i, i < n → l.getD i fl0 = l'.getD i fl0) : l = l' := by
  apply List.ext_getElem (by omega)
  intro i a b
  have := h i (by omega)
  simpa [List.getD, a, b] using this
set_option maxHeartbeats 2000000 in
theorem sameFlights_ (V V' : Nat → Prop) (a b : Option Addr) (n c m d : Nat) (l l' : List Fl) (w : World) (hx : Fls w V a n l) (hy : Fls w V' b m l') (hn : n ≤ 1000000) (hm : m ≤ 1000000) (hl : ∀ f ∈ l, f.d.length ≤ 100000) (hl' : ∀ f ∈ l', f.d.length ≤ 100000) {Q : Bool} (hQ : decide (l = l') = Q) :
    Calls Try.prog 16 #[.slice a n c, .slice b m d] w fun e w' => e = .returned (.bool Q) ∧ Below w.heap.size w w' := by
  by_cases hnm : n = m
  case neg =>
    have hq : Q = false := by
      rw [← hQ]
      exact decide_eq_false fun e => hnm (by rw [← hx.len, ← hy.len, e])
    subst hq
    have hne : ((n : Int) != m) = true := bne_iff_ne.2 (by omega)
    clear hx hy hl hl' hQ hnm
    go_enter Try.func16, Try.ntmps16
    go_wp2_with fail
    go_ret
    exact ⟨rfl, Below.refl _ _⟩
  case pos =>
    subst hnm
    have hne : ((n : Int) != n) = false := by simp
    have HX := hid hx
    have HY := hid hy
    have HL := hid hl
    have HL' := hid hl'
    have HQ := hid hQ
    clear hx hy hl hl' hQ hm
    go_enter Try.func16, Try.ntmps16
    go_wp2_with fail
    go_loopw [5] (fun i wr => ∃ j : Nat, j ≤ n ∧ i = .int .i64 j ∧ Hid (∀ i, i < j → l.getD i fl0 = l'.getD i fl0) ∧ Hid (Below w.heap.size w wr)) (fun i _ => n - (intOf i).toNat)
    case atStart => exact ⟨0, by omega, rfl, fun i hi => by omega, Below.refl _ _⟩
    case round =>
      obtain ⟨j, hj, rfl, HE, HB⟩ := hrel
      by_cases hlt : j < n
      · have hI : (j : Int) < n := by omega
        obtain ⟨b1, o1, da, dc, dn, rfl, hdn, c0, c1, c2, vs⟩ := HX.out.at hlt
        obtain ⟨b2, o2, da', dc', dn', rfl, hdn', c0', c1', c2', vs'⟩ := HY.out.at hlt
        have hmem : l.getD j fl0 ∈ l := by have := HX.out.len; simp [List.getD, show j < l.length by omega]
        have hmem' : l'.getD j fl0 ∈ l' := by have := HY.out.len; simp [List.getD, show j < l'.length by omega]
        have h1 := HL.out _ hmem
        have h2 := HL'.out _ hmem'
        obtain ⟨f, HF⟩ : ∃ f, Hid (l.getD j fl0 = f) := ⟨_, rfl⟩
        obtain ⟨f', HF'⟩ : ∃ f, Hid (l'.getD j fl0 = f) := ⟨_, rfl⟩
        rw [HF.out] at hdn c0 c1 vs h1
        rw [HF'.out] at hdn' c0' c1' vs' h2
        have hw : ∀ {o : Nat} {b : Nat} {v : Value}, w.cell? ⟨b, o, none⟩ = some v → wr.cell? ⟨b, o, none⟩ = some v := fun h => (HB.out.cell (World.block_lt_of_cell? w _ h)).trans h
        replace c0 := hw c0
        replace c1 := hw c1
        replace c2 := hw c2
        replace c0' := hw c0'
        replace c1' := hw c1'
        replace c2' := hw c2'
        obtain ⟨q, HQQ⟩ : ∃ q, Hid (decide (f = f') = q) := ⟨_, rfl⟩
        have HK := hid fun wx (hb : Below w.heap.size w wx) => sameFlight_ da da' dn dc dn' dc' f f' wx (vs.bs.below hb) (vs'.bs.below hb) (by omega) (by omega) HQQ.out
        clear vs vs' hmem hmem' h1 h2 hdn hdn' hw
        obtain ⟨fn, ft, fd⟩ := f
        obtain ⟨fn', ft', fd'⟩ := f'
        simp only at c0 c1 c0' c1' HK
        go_wp2_with fail
        go_region_with (go_at_call 15; refine (HK.out _ (by exact bel_drawn HB.out 1)).mono ?_; rintro e w4 ⟨rfl, g4⟩; have HB4 : Hid (Below w.heap.size w w4) := bel_bel (bel_drawn HB.out 1) HB.out.size g4; clear g4)
        all_goals
          clear HK c0 c1 c2 c0' c1' c2' HB
          cases q
          · have hq : Q = false := by
              rw [← HQ.out]
              refine decide_eq_false fun e => ?_
              have h3 := of_decide_eq_false HQQ.out
              rw [← HF.out, ← HF'.out, e] at h3
              exact h3 rfl
            subst hq
            go_wp2_with fail
            go_ret
            exact ⟨rfl, HB4.out⟩
          · have HE2 : Hid (∀ i, i < j + 1 → l.getD i fl0 = l'.getD i fl0) := fun i hi => by
              by_cases e : i = j
              · rw [e, HF.out, HF'.out]; exact of_decide_eq_true HQQ.out
              · exact HE.out i (by omega)
            go_wp2_with fail
            go_roundw
            case rel => exact ⟨j + 1, by omega, by go_num, HE2, HB4⟩
            case measure => simp [intOf]; omega
      · have hI : ¬ (j : Int) < n := by omega
        have hq : Q = true := by
          rw [← HQ.out]
          exact decide_eq_true (getD_ext HX.out.len HY.out.len fun i hi => HE.out i (by omega))
        subst hq
        go_wp2_with fail
        go_ret
        exact ⟨rfl, HB.out⟩
end Go.Proofs.Ythflghjmpellpaa
