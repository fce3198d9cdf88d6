import Derived.Test.YthjfgdldclhbhaaDB
namespace Go.Proofs.Ythjfgdldclhbhaa
set_option maxRecDepth 100000
open Go.RowKit Go.Shelf
set_option linter.unusedVariables false

theorem getD_mem {fs : List (Int × Int)} {i : Nat} (h : i < fs.length) : fs.getD i (0, 0) ∈ fs := by simp [List.getD, h]
/-- The first j are right. -/
def Upt (fs : List (Int × Int)) (j : Nat) : Prop := (∀ t, t < j → 1 ≤ (fs.getD t (0, 0)).1 ∧ ((fs.getD t (0, 0)).2 = 1 ∨ (fs.getD t (0, 0)).2 = 2)) ∧ ∀ t, t + 1 < j → (fs.getD t (0, 0)).1 ≠ (fs.getD (t + 1) (0, 0)).1
theorem upt_all {fs : List (Int × Int)} (hs : fs.Pairwise (fun a b => a.1 ≤ b.1)) (h : Upt fs fs.length) : okF fs ∧ srt fs := by
  have key : srt fs := by
    refine List.pairwise_iff_getElem.2 (fun i j hi hj hij => ?_)
    have step : ∀ k, i + k + 1 < fs.length → (fs.getD i (0, 0)).1 < (fs.getD (i + k + 1) (0, 0)).1 := by
      intro k
      induction k with
      | zero =>
        intro hk
        have h1 := h.2 i hk
        have h2 := List.pairwise_iff_getElem.1 hs i (i + 1) hi hk (by omega)
        simp only [Nat.add_zero] at hk ⊢
        simp only [List.getD, List.getElem?_eq_getElem hi, List.getElem?_eq_getElem hk, Option.getD_some] at h1 ⊢
        omega
      | succ k ih =>
        intro hk
        have h1 := ih (by omega)
        have h2 := List.pairwise_iff_getElem.1 hs (i + k + 1) (i + (k + 1) + 1) (by omega) hk (by omega)
        simp only [List.getD, List.getElem?_eq_getElem hi, List.getElem?_eq_getElem hk, List.getElem?_eq_getElem (show i + k + 1 < fs.length from by omega), Option.getD_some] at h1 ⊢
        omega
    have := step (j - i - 1) (by omega)
    rw [show i + (j - i - 1) + 1 = j from by omega] at this
    simpa only [List.getD, List.getElem?_eq_getElem hi, List.getElem?_eq_getElem hj, Option.getD_some] using this
  refine ⟨⟨fun f hf => ?_, srt_ne key⟩, key⟩
  obtain ⟨i, hi, rfl⟩ := List.getElem_of_mem hf
  have := h.1 i hi
  simpa only [List.getD, List.getElem?_eq_getElem hi, Option.getD_some] using this
theorem not_ok1 {fs : List (Int × Int)} {j : Nat} (hj : j < fs.length) (h : ¬ (1 ≤ (fs.getD j (0, 0)).1 ∧ ((fs.getD j (0, 0)).2 = 1 ∨ (fs.getD j (0, 0)).2 = 2))) : decide (okF fs) = false := decide_eq_false (fun h2 => h (h2.1 _ (getD_mem hj)))
theorem not_ok2 {fs : List (Int × Int)} {j : Nat} (hj : j + 1 < fs.length) (h : (fs.getD j (0, 0)).1 = (fs.getD (j + 1) (0, 0)).1) : decide (okF fs) = false := decide_eq_false (fun h2 => by
  have := List.pairwise_iff_getElem.1 h2.2 j (j + 1) (by omega) hj (by omega)
  simp only [List.getD, List.getElem?_eq_getElem hj, List.getElem?_eq_getElem (show j < fs.length from by omega), Option.getD_some] at h
  exact this h)
set_option maxHeartbeats 4000000 in
theorem armable_ (a : Option Addr) (m c : Nat) (fs : List (Int × Int)) (w : World) (h : Fs w a m fs) (hs : fs.Pairwise (fun a b => a.1 ≤ b.1)) (hm : m ≤ 140737488355328) :
    Calls Try.prog 62 #[.slice a m c] w fun e w' => e = .returned (.bool (decide (okF fs))) ∧ Below w.heap.size w w' := by
  have HF := hid h
  have HS := hid hs
  have hl := h.1
  obtain ⟨R, HR⟩ : ∃ R, Hid (decide (okF fs) = R) := ⟨_, rfl⟩
  rw [HR.out]
  clear h hs
  go_enter Try.func62, Try.ntmps62
  go_wp2_with fail
  go_loopw [3, 4, 7] (fun _ _ i wr => ∃ j : Nat, j ≤ m ∧ i = .int .i64 j ∧ Upt fs j ∧ Below w.heap.size w wr) (fun _ _ i _ => m - (intOf i).toNat)
  case atStart => exact ⟨0, Nat.zero_le _, rfl, ⟨fun t ht => by omega, fun t ht => by omega⟩, Below.refl _ _⟩
  case round =>
    obtain ⟨j, hj, rfl, hu, hbl⟩ := hrel
    have HU := hid hu
    clear hu
    by_cases hlt : j < m
    · have hjI : (j : Int) < (m : Int) := by omega
      obtain ⟨b, off, rfl, hc⟩ : ∃ b off, a = some ⟨b, off, none⟩ ∧ ∀ i, i < m → w.cell? ⟨b, off + i * 2, none⟩ = some (.int .i64 (fs.getD i (0, 0)).1) ∧ w.cell? ⟨b, off + i * 2 + 1, none⟩ = some (.int .i64 (fs.getD i (0, 0)).2) := by
        rcases HF.out.2 with h0 | h
        · omega
        · exact h
      have hbl' : ∀ o : Obj, Below w.heap.size w (wr.alloc o) := fun o => hbl.alloc hbl.size o
      have HBL := hid hbl'
      have cc : ∀ i, i < m → wr.cell? ⟨b, off + i * 2, none⟩ = some (.int .i64 (fs.getD i (0, 0)).1) ∧ wr.cell? ⟨b, off + i * 2 + 1, none⟩ = some (.int .i64 (fs.getD i (0, 0)).2) := fun i hi => ⟨(hbl.cell (p := ⟨b, off + i * 2, none⟩) (World.block_lt_of_cell? w _ (hc i hi).1)).trans (hc i hi).1, (hbl.cell (p := ⟨b, off + i * 2 + 1, none⟩) (World.block_lt_of_cell? w _ (hc i hi).2)).trans (hc i hi).2⟩
      have hbw : b < wr.heap.size := World.block_lt_of_cell? wr _ (cc j hlt).1
      obtain ⟨c0, c1⟩ := cc j hlt
      obtain ⟨A, HA⟩ : ∃ A, Hid ((fs.getD j (0, 0)).1 = A) := ⟨_, rfl⟩
      obtain ⟨K, HK⟩ : ∃ K, Hid ((fs.getD j (0, 0)).2 = K) := ⟨_, rfl⟩
      rw [HA.out] at c0
      rw [HK.out] at c1
      have HCC := hid cc
      clear hc cc hbl hbl'
      by_cases hA : A < 1
      · have HN : Hid (R = false) := by show _ = _; rw [← HR.out]; exact not_ok1 (j := j) (by omega) (fun h => by rw [HA.out] at h; omega)
        go_wp2_with fail
        go_ret
        exact ⟨by rw [HN.out]; rfl, HBL.out _⟩
      · by_cases hK : K = 1 ∨ K = 2
        case neg =>
          have k1 : (K != 1) = true := by rw [bne_iff_ne]; omega
          have k2 : (K != 2) = true := by rw [bne_iff_ne]; omega
          have HN : Hid (R = false) := by show _ = _; rw [← HR.out]; exact not_ok1 (j := j) (by omega) (fun h => by rw [HK.out] at h; omega)
          clear hK
          go_wp2_with fail
          go_ret
          exact ⟨by rw [HN.out]; rfl, HBL.out _⟩
        case pos =>
          have HOK : Hid (1 ≤ (fs.getD j (0, 0)).1 ∧ ((fs.getD j (0, 0)).2 = 1 ∨ (fs.getD j (0, 0)).2 = 2)) := by
            show _ ∧ _
            rw [HA.out, HK.out]
            exact ⟨by omega, hK⟩
          have kk : ((K != 1) = true ∧ (K != 2) = false) ∨ (K != 1) = false := by
            rcases hK with rfl | rfl
            · exact .inr rfl
            · exact .inl ⟨rfl, rfl⟩
          clear hK
          by_cases hj0 : j = 0
          · have HU1 : Hid (Upt fs (j + 1)) := by
              refine ⟨fun t ht => ?_, fun t ht => by omega⟩
              obtain rfl : t = j := by omega
              exact HOK.out
            have e0 : decide ((0 : Int) < (j : Int)) = false := decide_eq_false (by omega)
            have e0' : decide (0 < j) = false := decide_eq_false (by omega)
            clear hj0
            rcases kk with ⟨k1, k2⟩ | k1
            all_goals
              go_wp2_with fail
              go_quiet (fail)
              go_wp2_with fail
              go_roundw
              case rel => exact ⟨j + 1, by omega, by go_num, HU1.out, bel_drawn (HBL.out _) _⟩
              case measure => simp [intOf]; omega
          · obtain ⟨i, HJ⟩ : ∃ i, Hid (j = i + 1) := ⟨j - 1, by show _ = _; omega⟩
            have him : i < m := by have := HJ.out; omega
            obtain ⟨p0, p1⟩ := HCC.out i him
            obtain ⟨A', HA'⟩ : ∃ A', Hid ((fs.getD i (0, 0)).1 = A') := ⟨_, rfl⟩
            rw [HA'.out] at p0
            have q0 := (((Below.refl wr.heap.size wr).alloc (Nat.le_refl _) (.cells #[.int .i64 A, .int .i64 K] 71)).cell (p := ⟨b, off + i * 2, none⟩) hbw).trans p0
            have ej : (j : Int) - 1 = (i : Int) := by have := HJ.out; omega
            have eg : decide ((0 : Int) < (j : Int)) = true := decide_eq_true (by omega)
            have eg' : decide (0 < j) = true := decide_eq_true (by omega)
            have hjm : (i : Int) < (m : Int) := by omega
            clear p1 hj0
            by_cases hq : A' = A
            · have HN : Hid (R = false) := by
                show _ = _
                rw [← HR.out]
                have hl2 : i + 1 < fs.length := by have := HJ.out; omega
                exact not_ok2 (j := i) hl2 (by rw [HA'.out, hq, ← HJ.out, HA.out])
              have eq1 : (A' == A) = true := by simpa using hq
              clear hq
              rcases kk with ⟨k1, k2⟩ | k1
              all_goals
                go_wp2_with fail
                go_quiet (fail)
                go_wp2_with fail
                go_ret
                exact ⟨by rw [HN.out]; rfl, bel_drawn (HBL.out _) _⟩
            · have eq1 : (A' == A) = false := by simpa using hq
              have HU1 : Hid (Upt fs (j + 1)) := by
                refine ⟨fun t ht => ?_, fun t ht => ?_⟩
                · by_cases e : t = j
                  · rw [e]; exact HOK.out
                  · exact HU.out.1 t (by omega)
                · by_cases e : t = i
                  · rw [e, HA'.out, ← HJ.out, HA.out]; exact hq
                  · exact HU.out.2 t (by have := HJ.out; omega)
              clear hq
              rcases kk with ⟨k1, k2⟩ | k1
              all_goals
                go_wp2_with fail
                go_quiet (fail)
                go_wp2_with fail
                go_roundw
                case rel => exact ⟨j + 1, by omega, by go_num, HU1.out, bel_drawn (HBL.out _) _⟩
                case measure => simp [intOf]; omega
    · have hjI : ¬ (j : Int) < (m : Int) := by omega
      obtain rfl : j = m := by omega
      have HN : Hid (R = true) := by
        show _ = _
        rw [← HR.out]
        refine decide_eq_true ?_
        have := HU.out
        rw [← hl] at this
        exact (upt_all HS.out this).1
      go_wp2_with fail
      go_ret
      exact ⟨by rw [HN.out]; rfl, hbl⟩
end Go.Proofs.Ythjfgdldclhbhaa
