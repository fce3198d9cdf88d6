import Derived.Test.YtajjilheellfeabDoorC6
import Derived.Laws.RangeAny
import Derived.Lib.OthersKept
namespace Go.Proofs.YtajjilheellfeabDoor
open Go.RowKit
set_option linter.unusedVariables false

theorem Sm.set0 {w : World} {g : Nat} {s n : Int} (h : Sm w g s n) (s' : Int) : Sm (w.setCell ⟨g, 0, none⟩ (.int .i64 s')) g s' n := by
  unfold Sm at *
  simp [World.setCell, Array.getElem?_modify, h]
theorem Sm.set1 {w : World} {g : Nat} {s n : Int} (h : Sm w g s n) (n' : Int) : Sm (w.setCell ⟨g, 1, none⟩ (.int .i64 n')) g s n' := by
  unfold Sm at *
  simp [World.setCell, Array.getElem?_modify, h]
theorem Sm.oth {w : World} {g g' i : Nat} {s n : Int} {v : Value} (h : Sm w g s n) (hn : g ≠ g') : Sm (w.setCell ⟨g', i, none⟩ v) g s n := h.at (setCell_other6 _ _ _ _ _ hn)
/-- A text's iterator. -/
def It (w : World) (k : Nat) (S : ByteArray) (j : Nat) : Prop := w.heap[k]? = some (.stringIter S j)
theorem It.oth {w : World} {k g i j : Nat} {S : ByteArray} {v : Value} (h : It w k S j) (hn : k ≠ g) : It (w.setCell ⟨g, i, none⟩ v) k S j := by
  unfold It at *
  rw [setCell_other6 _ _ _ _ _ hn]
  exact h
theorem It.pos {w : World} {k j : Nat} {S : ByteArray} (h : It w k S j) : w.iterPos k = j := by
  unfold It at h
  simp [World.iterPos, h]
theorem sb_at (l : List Nat) (hy : ∀ x ∈ l, x < 256) (j : Nat) (hj : j < l.length) : ∃ h : j < (sb l).size, ((sb l)[j]'h).toNat = l.getD j 0 := by
  obtain ⟨h', e⟩ := sb_get l hy j hj
  exact ⟨h', e⟩
theorem next_low (l : List Nat) (hy : ∀ x ∈ l, x < 256) (j : Nat) (hj : j < l.length) (w : World) (k : Nat) (hk : It w k (sb l) j) (hx : l.getD j 0 < 128) :
    (Instr.next (.pointer (some ⟨k, 0, none⟩)) true 0).run Tryd.prog w = .ok (.tuple #[.bool true, .int .i64 j, .int .i32 ((l.getD j 0 : Nat) : Int)]) (w.iterAt k (sb l) (j + 1)) := by
  obtain ⟨h, e⟩ := sb_at l hy j hj
  rw [Lib.run_next_ascii_at w k (sb l) j 0 hk h (by rw [e]; exact hx), e]
theorem next_high (l : List Nat) (hy : ∀ x ∈ l, x < 256) (j : Nat) (hj : j < l.length) (w : World) (k : Nat) (hk : It w k (sb l) j) (hx : 128 ≤ l.getD j 0) :
    ∃ R p : Nat, 128 ≤ R ∧ R ≤ 2147483647 ∧ (Instr.next (.pointer (some ⟨k, 0, none⟩)) true 0).run Tryd.prog w = .ok (.tuple #[.bool true, .int .i64 j, .int .i32 (R : Int)]) (w.iterAt k (sb l) p) := by
  obtain ⟨h, e⟩ := sb_at l hy j hj
  exact ⟨_, _, (decode_high (sb l) j h (by rw [e]; exact hx)).1, decode_le (sb l) j, Lib.run_next_any_at w k (sb l) j 0 hk h⟩
theorem next_end (l : List Nat) (w : World) (k : Nat) (hk : It w k (sb l) l.length) :
    (Instr.next (.pointer (some ⟨k, 0, none⟩)) true 0).run Tryd.prog w = .ok (.tuple #[.bool false]) w :=
  Lib.run_next_end_at w k (sb l) l.length 0 hk (by rw [sb_size]; omega)
theorem Sm.it {w : World} {g k : Nat} {s n : Int} (h : Sm w g s n) (S : ByteArray) (p : Nat) (hn : g ≠ k) : Sm (w.iterAt k S p) g s n := h.at (Lib.iterAt_other w k g S p hn)
theorem nst_high {q : Nat × Nat × Bool} {x : Nat} (h : 57 < x) : nst q x = none := by
  unfold nst
  rw [if_neg (by omega), if_neg (by omega)]
theorem nst_low {q : Nat × Nat × Bool} {x : Nat} (h : x < 48) (hn : x ≠ 46) : nst q x = none := by
  unfold nst
  rw [if_neg hn, if_neg (by omega)]
theorem nst_point (q : Nat × Nat × Bool) : nst q 46 = some (q.1, q.2.1, true) := by
  unfold nst
  rw [if_pos rfl]
theorem nst_big {q : Nat × Nat × Bool} {x : Nat} (h : 48 ≤ x) (hn : ¬ 10 * nv q + (x - 48) ≤ lim q.2.2) : nst q x = none := by
  unfold nst
  rw [if_neg (by omega), if_neg (by omega)]
theorem nst_fits {q : Nat × Nat × Bool} {x : Nat} (h : 48 ≤ x) (h9 : x ≤ 57) (hn : 10 * nv q + (x - 48) ≤ lim q.2.2) : nst q x = some (nup q (x - 48)) := by
  unfold nst
  rw [if_neg (by omega), if_pos ⟨h, h9, hn⟩]
set_option maxHeartbeats 4000000 in
theorem numbers_ (l : List Nat) (w : World) (hy : ∀ x ∈ l, x < 256) (hlen : l.length ≤ maxLen) :
    Calls Tryd.prog 26 #[.string (sb l)] w fun e w' => e = .returned (.tuple #[.agg #[.int .i64 (us l), .int .i64 (un l)], .bool (uo l)]) ∧ Below w.heap.size w w' := by
  have HNL := hid (next_low l hy)
  have HNH := hid (next_high l hy)
  have HNE := hid (next_end l)
  have HY := hid hy
  have HUN := hid (u_none (l := l))
  have HUS := hid (fun q => u_some (l := l) (q := q))
  unfold maxLen at hlen
  have B0 := snew2 w 0 0 0 0
  obtain ⟨m0, m1⟩ := snew3 w 0 0 0 0
  obtain ⟨S, HS⟩ : ∃ S, Hid (sb l = S) := ⟨_, rfl⟩
  rw [HS.out] at HNL HNH HNE ⊢
  clear hy
  go_enter Tryd.func26, Tryd.ntmps26
  go_wp2_with fail
  replace m0 := m0.alloc (.stringIter S 0)
  replace m1 := m1.alloc (.stringIter S 0)
  replace B0 := B0.alloc (by simp; omega) (.stringIter S 0)
  have hit : It (((w.alloc (.cells #[.int .i64 0, .int .i64 0] 23)).alloc (.cells #[.int .i64 0, .int .i64 0] 23)).alloc (.stringIter S 0)) (w.heap.size + 1 + 1) S 0 := by
    have := heap_alloc_new ((w.alloc (.cells #[.int .i64 0, .int .i64 0] 23)).alloc (.cells #[.int .i64 0, .int .i64 0] 23)) (.stringIter S 0)
    rw [World.size_alloc, World.size_alloc] at this
    exact this
  go_loopw [5, 6] (fun u v wr => ∃ (j s n : Nat) (p : Bool), j ≤ l.length ∧ u = .pointer (some ⟨w.heap.size + 1, (if p then 1 else 0), none⟩) ∧ v = .int .i64 (lim p : Nat) ∧ Hid (nrun (0, 0, false) (l.take j) = some (s, n, p)) ∧ Hid (s ≤ 9223372036854775807 ∧ n ≤ 999999999) ∧ Sm wr w.heap.size 0 0 ∧ Sm wr (w.heap.size + 1) s n ∧ It wr (w.heap.size + 1 + 1) S j ∧ Below w.heap.size w wr) (fun _ _ wr => l.length - wr.iterPos (w.heap.size + 1 + 1))
  case atStart => exact ⟨0, 0, 0, false, by omega, rfl, rfl, rfl, ⟨by omega, by omega⟩, m0, m1, hit, B0⟩
  case round =>
    clear m0 m1 B0 hit
    obtain ⟨j, s, n, p, hj, rfl, rfl, HR, HBD, m0, m1, hit, B0⟩ := hrel
    have HP1 := hid hit.pos
    by_cases hlt : j < l.length
    · have HT := hid (nrun_take l j _ _ hlt HR.out)
      have HST := hid (nrun_stop l j _ _ hlt HR.out)
      obtain ⟨x, Hx⟩ : ∃ x, Hid (l.getD j 0 = x) := ⟨_, rfl⟩
      have hx256 : x < 256 := by rw [← Hx.out]; exact getD_lt6 HY.out j
      rw [Hx.out] at HT HST
      by_cases hx : x < 128
      · have hnx := HNL.out j hlt wr _ hit (by rw [Hx.out]; exact hx)
        rw [Hx.out] at hnx
        replace m0 := m0.it S (j + 1) (k := w.heap.size + 1 + 1) (by omega)
        replace m1 := m1.it S (j + 1) (k := w.heap.size + 1 + 1) (by omega)
        have hit2 : It (wr.iterAt (w.heap.size + 1 + 1) S (j + 1)) (w.heap.size + 1 + 1) S (j + 1) := Lib.iterAt_heap wr _ S j (j + 1) hit
        replace B0 := Lib.below_iterAt B0 (k := w.heap.size + 1 + 1) (by omega) S (j + 1)
        clear hit
        generalize wr.iterAt (w.heap.size + 1 + 1) S (j + 1) = w2 at *
        have c0 := m1.c0
        have c1 := m1.c1
        have f0 := m1.fz 0
        have f1 := m1.fz 1
        by_cases h46 : x = 46
        · subst h46
          rw [nst_point] at HT
          clear HST
          go_wp2_with fail
          go_roundw
          case rel => exact ⟨j + 1, s, n, true, by omega, rfl, rfl, HT, HBD, m0, m1, hit2, B0⟩
          case measure => rw [hit2.pos, HP1.out]; omega
        · have h46i : ¬ (x : Int) = 46 := by omega
          have h46 := hid h46
          cases p with
          | false =>
            have HLM : Hid (lim false = 9223372036854775807) := rfl
            have hl1 : ((lim false : Nat) : Int) = 9223372036854775807 := rfl
            rw [hl1]
            clear hl1
            have HBD' := HBD.out
            by_cases hd : 48 ≤ x ∧ x ≤ 57
            · have hw : wti ((x : Int) - 48) 9 = true := decide_eq_true (by omega)
              have ed : (9223372036854775807 - ((x : Int) - 48)).tdiv 10 = (9223372036854775807 - ((x : Int) - 48)) / 10 := Int.tdiv_eq_ediv_of_nonneg (by omega)
              by_cases hov : 10 * s + (x - 48) ≤ 9223372036854775807
              · have HN := hid (nst_fits (q := (s, n, false)) hd.1 hd.2 (by show 10 * s + (x - 48) ≤ 9223372036854775807; exact hov))
                rw [HN.out] at HT
                have HD := hid hd
                have d6 : decide ((9223372036854775807 - ((x : Int) - 48)) / 10 < (s : Int)) = false := decide_eq_false (by omega)
                have hup : 10 * (s : Int) + ((x : Int) - 48) ≤ 9223372036854775807 := by omega
                have hup2 : 10 * (s : Int) ≤ 9223372036854775807 := by omega
                replace m0 := m0.oth (g' := w.heap.size + 1) (i := 0) (v := .int .i64 (10 * (s : Int) + ((x : Int) - 48))) (by omega)
                replace m1 := m1.set0 (10 * (s : Int) + ((x : Int) - 48))
                replace hit2 := hit2.oth (g := w.heap.size + 1) (i := 0) (v := .int .i64 (10 * (s : Int) + ((x : Int) - 48))) (by omega)
                replace B0 := B0.setCell (p := ⟨w.heap.size + 1, 0, none⟩) (Nat.le_succ w.heap.size) (.int .i64 (10 * (s : Int) + ((x : Int) - 48)))
                obtain ⟨hd1, hd2⟩ := hd
                clear HST
                go_wp2_with fail
                refine (within_ _ _ _).mono ?_
                rintro e wx ⟨rfl, rfl⟩
                go_wp2_with fail
                go_roundw
                case rel =>
                  refine ⟨j + 1, 10 * s + (x - 48), n, false, by omega, rfl, rfl, HT, ⟨by exact hov, by omega⟩, m0, ?_, hit2, B0⟩
                  have e : ((10 * s + (x - 48) : Nat) : Int) = 10 * (s : Int) + ((x : Int) - 48) := by have := HD.out; omega
                  rw [e]
                  exact m1
                case measure => rw [hit2.pos, HP1.out]; omega
              · have HU := hid (HUN.out (HST.out (nst_big (q := (s, n, false)) hd.1 (by show ¬ 10 * s + (x - 48) ≤ 9223372036854775807; exact hov))))
                have d6 : decide ((9223372036854775807 - ((x : Int) - 48)) / 10 < (s : Int)) = true := decide_eq_true (by omega)
                clear HST HT
                go_wp2_with fail
                refine (within_ _ _ _).mono ?_
                rintro e wx ⟨rfl, rfl⟩
                go_wp2_with (refine wpList_sst rfl rfl _ _ rfl w.heap.size 0 0 rfl rfl 0 0 (by with_reducible exact m0) ?_)
                refine bodyPost_ret (v := .tuple #[.agg #[.int .i64 0, .int .i64 0], .bool false]) ?_ rfl ⟨ret_st HU.out.1.symm HU.out.2.1.symm HU.out.2.2.symm, bel_row B0 (Nat.le_refl _) _⟩
                exact results_st rfl _ _ w.heap.size 0 0 _ rfl rfl (m0.row 0 0).c0 (m0.row 0 0).c1
            · have hw : wti ((x : Int) - 48) 9 = false := decide_eq_false (by omega)
              have hno : nst (s, n, false) x = none := by
                by_cases h : x < 48
                · exact nst_low h h46.out
                · exact nst_high (by omega)
              have HU := hid (HUN.out (HST.out hno))
              clear HST HT hno hd
              go_wp2_with fail
              refine (within_ _ _ _).mono ?_
              rintro e wx ⟨rfl, rfl⟩
              go_wp2_with (refine wpList_sst rfl rfl _ _ rfl w.heap.size 0 0 rfl rfl 0 0 (by with_reducible exact m0) ?_)
              refine bodyPost_ret (v := .tuple #[.agg #[.int .i64 0, .int .i64 0], .bool false]) ?_ rfl ⟨ret_st HU.out.1.symm HU.out.2.1.symm HU.out.2.2.symm, bel_row B0 (Nat.le_refl _) _⟩
              exact results_st rfl _ _ w.heap.size 0 0 _ rfl rfl (m0.row 0 0).c0 (m0.row 0 0).c1
          | true =>
            have HLM : Hid (lim true = 999999999) := rfl
            have hl1 : ((lim true : Nat) : Int) = 999999999 := rfl
            rw [hl1]
            clear hl1
            have HBD' := HBD.out
            by_cases hd : 48 ≤ x ∧ x ≤ 57
            · have hw : wti ((x : Int) - 48) 9 = true := decide_eq_true (by omega)
              have ed : (999999999 - ((x : Int) - 48)).tdiv 10 = (999999999 - ((x : Int) - 48)) / 10 := Int.tdiv_eq_ediv_of_nonneg (by omega)
              by_cases hov : 10 * n + (x - 48) ≤ 999999999
              · have HN := hid (nst_fits (q := (s, n, true)) hd.1 hd.2 (by show 10 * n + (x - 48) ≤ 999999999; exact hov))
                rw [HN.out] at HT
                have HD := hid hd
                have d6 : decide ((999999999 - ((x : Int) - 48)) / 10 < (n : Int)) = false := decide_eq_false (by omega)
                have hup : 10 * (n : Int) + ((x : Int) - 48) ≤ 999999999 := by omega
                have hup2 : 10 * (n : Int) ≤ 999999999 := by omega
                replace m0 := m0.oth (g' := w.heap.size + 1) (i := 1) (v := .int .i64 (10 * (n : Int) + ((x : Int) - 48))) (by omega)
                replace m1 := m1.set1 (10 * (n : Int) + ((x : Int) - 48))
                replace hit2 := hit2.oth (g := w.heap.size + 1) (i := 1) (v := .int .i64 (10 * (n : Int) + ((x : Int) - 48))) (by omega)
                replace B0 := B0.setCell (p := ⟨w.heap.size + 1, 1, none⟩) (Nat.le_succ w.heap.size) (.int .i64 (10 * (n : Int) + ((x : Int) - 48)))
                obtain ⟨hd1, hd2⟩ := hd
                clear HST
                go_wp2_with fail
                refine (within_ _ _ _).mono ?_
                rintro e wx ⟨rfl, rfl⟩
                go_wp2_with fail
                go_roundw
                case rel =>
                  refine ⟨j + 1, s, 10 * n + (x - 48), true, by omega, rfl, rfl, HT, ⟨by omega, by exact hov⟩, m0, ?_, hit2, B0⟩
                  have e : ((10 * n + (x - 48) : Nat) : Int) = 10 * (n : Int) + ((x : Int) - 48) := by have := HD.out; omega
                  rw [e]
                  exact m1
                case measure => rw [hit2.pos, HP1.out]; omega
              · have HU := hid (HUN.out (HST.out (nst_big (q := (s, n, true)) hd.1 (by show ¬ 10 * n + (x - 48) ≤ 999999999; exact hov))))
                have d6 : decide ((999999999 - ((x : Int) - 48)) / 10 < (n : Int)) = true := decide_eq_true (by omega)
                clear HST HT
                go_wp2_with fail
                refine (within_ _ _ _).mono ?_
                rintro e wx ⟨rfl, rfl⟩
                go_wp2_with (refine wpList_sst rfl rfl _ _ rfl w.heap.size 0 0 rfl rfl 0 0 (by with_reducible exact m0) ?_)
                refine bodyPost_ret (v := .tuple #[.agg #[.int .i64 0, .int .i64 0], .bool false]) ?_ rfl ⟨ret_st HU.out.1.symm HU.out.2.1.symm HU.out.2.2.symm, bel_row B0 (Nat.le_refl _) _⟩
                exact results_st rfl _ _ w.heap.size 0 0 _ rfl rfl (m0.row 0 0).c0 (m0.row 0 0).c1
            · have hw : wti ((x : Int) - 48) 9 = false := decide_eq_false (by omega)
              have hno : nst (s, n, true) x = none := by
                by_cases h : x < 48
                · exact nst_low h h46.out
                · exact nst_high (by omega)
              have HU := hid (HUN.out (HST.out hno))
              clear HST HT hno hd
              go_wp2_with fail
              refine (within_ _ _ _).mono ?_
              rintro e wx ⟨rfl, rfl⟩
              go_wp2_with (refine wpList_sst rfl rfl _ _ rfl w.heap.size 0 0 rfl rfl 0 0 (by with_reducible exact m0) ?_)
              refine bodyPost_ret (v := .tuple #[.agg #[.int .i64 0, .int .i64 0], .bool false]) ?_ rfl ⟨ret_st HU.out.1.symm HU.out.2.1.symm HU.out.2.2.symm, bel_row B0 (Nat.le_refl _) _⟩
              exact results_st rfl _ _ w.heap.size 0 0 _ rfl rfl (m0.row 0 0).c0 (m0.row 0 0).c1
      · obtain ⟨R, q, hR1, hR2, hnx⟩ := HNH.out j hlt wr _ hit (by rw [Hx.out]; omega)
        replace m0 := m0.it S q (k := w.heap.size + 1 + 1) (by omega)
        replace m1 := m1.it S q (k := w.heap.size + 1 + 1) (by omega)
        replace B0 := Lib.below_iterAt B0 (k := w.heap.size + 1 + 1) (by omega) S q
        have HU := hid (HUN.out (HST.out (nst_high (by omega))))
        clear hit HST HT
        generalize wr.iterAt (w.heap.size + 1 + 1) S q = w2 at *
        have c0 := m1.c0
        have c1 := m1.c1
        have h46i : ¬ (R : Int) = 46 := by omega
        have hw : wti ((R : Int) - 48) 9 = false := decide_eq_false (by omega)
        cases p with
        | false =>
          have hl1 : ((lim false : Nat) : Int) = 9223372036854775807 := rfl
          rw [hl1]
          clear hl1
          go_wp2_with fail
          refine (within_ _ _ _).mono ?_
          rintro e wx ⟨rfl, rfl⟩
          go_wp2_with (refine wpList_sst rfl rfl _ _ rfl w.heap.size 0 0 rfl rfl 0 0 (by with_reducible exact m0) ?_)
          refine bodyPost_ret (v := .tuple #[.agg #[.int .i64 0, .int .i64 0], .bool false]) ?_ rfl ⟨ret_st HU.out.1.symm HU.out.2.1.symm HU.out.2.2.symm, bel_row B0 (Nat.le_refl _) _⟩
          exact results_st rfl _ _ w.heap.size 0 0 _ rfl rfl (m0.row 0 0).c0 (m0.row 0 0).c1
        | true =>
          have hl1 : ((lim true : Nat) : Int) = 999999999 := rfl
          rw [hl1]
          clear hl1
          go_wp2_with fail
          refine (within_ _ _ _).mono ?_
          rintro e wx ⟨rfl, rfl⟩
          go_wp2_with (refine wpList_sst rfl rfl _ _ rfl w.heap.size 0 0 rfl rfl 0 0 (by with_reducible exact m0) ?_)
          refine bodyPost_ret (v := .tuple #[.agg #[.int .i64 0, .int .i64 0], .bool false]) ?_ rfl ⟨ret_st HU.out.1.symm HU.out.2.1.symm HU.out.2.2.symm, bel_row B0 (Nat.le_refl _) _⟩
          exact results_st rfl _ _ w.heap.size 0 0 _ rfl rfl (m0.row 0 0).c0 (m0.row 0 0).c1
    · obtain rfl : j = l.length := by omega
      have hnx := HNE.out wr _ hit
      rw [List.take_length] at HR
      have HU := hid (HUS.out _ HR.out)
      have c0 := m1.c0
      have c1 := m1.c1
      clear HR hlt
      cases p
      all_goals
       go_wp2_with (refine wpList_sst rfl rfl _ _ rfl w.heap.size (s : Int) (n : Int) rfl rfl 0 0 (by with_reducible exact m0) ?_)
       refine bodyPost_ret (v := .tuple #[.agg #[.int .i64 (s : Int), .int .i64 (n : Int)], .bool true]) ?_ rfl ⟨ret_st HU.out.1.symm HU.out.2.1.symm HU.out.2.2.symm, bel_row B0 (Nat.le_refl _) _⟩
       exact results_st rfl _ _ w.heap.size (s : Int) (n : Int) _ rfl rfl (m0.row _ _).c0 (m0.row _ _).c1
end Go.Proofs.YtajjilheellfeabDoor
