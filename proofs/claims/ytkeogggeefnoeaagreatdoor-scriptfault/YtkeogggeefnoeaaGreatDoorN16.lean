import Derived.Deep.MidRow
import Derived.Test.YtkeogggeefnoeaaGreatDoorN12
namespace Go.Proofs.YtkeogggeefnoeaaGreatDoor
set_option linter.unusedSimpArgs false
open Go.RowKit
set_option linter.unusedVariables false
set_option maxRecDepth 100000

/-! Reading: names of steps and changes; how many words. -/
theorem rngS (w : World) (hq : Tq w) : w.rangeAt 0 0 (nmV sNm) := fun j z hz => by
  have := World.var?_cell gSt hq.st j
  rw [List.getElem?_toArray, hz] at this
  simpa using this
theorem rngC (w : World) (hq : Tq w) : w.rangeAt 4 0 (nmV cNm) := fun j z hz => by
  have := World.var?_cell gCh hq.ch j
  rw [List.getElem?_toArray, hz] at this
  simpa using this
theorem ixS (w : World) : ∀ j : Nat, j < 15 → (Instr.index 78 (.agg (nmV sNm).toArray) (.int .i64 (j : Int))).run Tryz.prog w = .ok (.agg #[.string (sb (sNm.getD j ([], [])).1), .string (sb (sNm.getD j ([], [])).2)]) w := by
  intro j hj
  rcases (show j = 0 ∨ j = 1 ∨ j = 2 ∨ j = 3 ∨ j = 4 ∨ j = 5 ∨ j = 6 ∨ j = 7 ∨ j = 8 ∨ j = 9 ∨ j = 10 ∨ j = 11 ∨ j = 12 ∨ j = 13 ∨ j = 14 by omega) with rfl | rfl | rfl | rfl | rfl | rfl | rfl | rfl | rfl | rfl | rfl | rfl | rfl | rfl | rfl <;> rfl
theorem ixC (w : World) : ∀ j : Nat, j < 6 → (Instr.index 173 (.agg (nmV cNm).toArray) (.int .i64 (j : Int))).run Tryz.prog w = .ok (.agg #[.string (sb (cNm.getD j ([], [])).1), .string (sb (cNm.getD j ([], [])).2)]) w := by
  intro j hj
  rcases (show j = 0 ∨ j = 1 ∨ j = 2 ∨ j = 3 ∨ j = 4 ∨ j = 5 by omega) with rfl | rfl | rfl | rfl | rfl | rfl <;> rfl
theorem sNm_lt {j : Nat} : ∀ x ∈ (sNm.getD j ([], [])).1, x < 256 := by
  by_cases h : j < 15
  · rcases (show j = 0 ∨ j = 1 ∨ j = 2 ∨ j = 3 ∨ j = 4 ∨ j = 5 ∨ j = 6 ∨ j = 7 ∨ j = 8 ∨ j = 9 ∨ j = 10 ∨ j = 11 ∨ j = 12 ∨ j = 13 ∨ j = 14 by omega) with rfl | rfl | rfl | rfl | rfl | rfl | rfl | rfl | rfl | rfl | rfl | rfl | rfl | rfl | rfl <;> decide
  · rw [show sNm.getD j ([], []) = ([], []) by simp [List.getD, show sNm.length ≤ j from Nat.le_of_not_lt h]]
    simp
theorem cNm_lt {j : Nat} : ∀ x ∈ (cNm.getD j ([], [])).1, x < 256 := by
  by_cases h : j < 6
  · rcases (show j = 0 ∨ j = 1 ∨ j = 2 ∨ j = 3 ∨ j = 4 ∨ j = 5 by omega) with rfl | rfl | rfl | rfl | rfl | rfl <;> decide
  · rw [show cNm.getD j ([], []) = ([], []) by simp [List.getD, show cNm.length ≤ j from Nat.le_of_not_lt h]]
    simp
theorem map_fst {l : List (List Nat × List Nat)} (j : Nat) : (l.map (·.1)).getD j [] = (l.getD j ([], [])).1 := by
  simp only [List.getD, List.getElem?_map]
  cases l[j]? <;> rfl
set_option maxHeartbeats 1000000 in
theorem stepNamed_ (l : List Nat) (hy : ∀ x ∈ l, x < 256) (w : World) (hq : Tq w) : Calls Tryz.prog 68 #[.string (sb l)] w fun e w' => e = .returned (.int .i64 (sKd l : Nat)) ∧ Below w.heap.size w w' := by
  have HRG := hid (rngS w hq)
  have HIX := hid fun wx j hj => ixS wx j hj
  have HQE := hid fun j => sb_eq (a := (sNm.getD j ([], [])).1) (l := l) sNm_lt hy
  have HF1 : Hid (∀ j, j < 15 → (∀ k, k < j → (sNm.getD k ([], [])).1 ≠ l) → (sNm.getD j ([], [])).1 = l → sKd l = j) := fun j hj h1 h2 => by
    have := fndN_hit l (sNm.map (·.1)) 0 j (by simpa [sNm] using hj) (fun k hk => by rw [map_fst]; exact h1 k hk) (by rw [map_fst]; exact h2)
    rwa [Nat.zero_add] at this
  have HF0 : Hid ((∀ k, k < 15 → (sNm.getD k ([], [])).1 ≠ l) → sKd l = 0) := fun h => show fndN 0 l (sNm.map (·.1)) = 0 from fndN_none l (sNm.map (·.1)) 0 fun k hk => by rw [map_fst]; exact h k (by simpa [sNm] using hk)
  obtain ⟨f, HF⟩ : ∃ z, Hid (sKd l = z) := ⟨_, rfl⟩
  rw [HF.out] at HF1 HF0 ⊢
  obtain ⟨S, HS⟩ : ∃ z, Hid (sb l = z) := ⟨_, rfl⟩
  rw [HS.out] at HQE ⊢
  obtain ⟨AG, HAG⟩ : ∃ z, Hid (Value.agg (nmV sNm).toArray = z) := ⟨_, rfl⟩
  rw [HAG.out] at HIX
  clear hq
  go_enter Tryz.func68, Tryz.ntmps68
  go_wp2_with (with_reducible show wpList _ _ _ (_ :: _) _ _; refine wpList_load_mid rfl 78 _ rfl 0 0 rfl (nmV sNm) _ HRG.out Tryz.underlying78 rfl (by kernel_rfl) ?_; rw [HAG.out])
  go_loopw [6] (fun i wr => ∃ j : Nat, j ≤ 15 ∧ i = .int .i64 (j : Int) ∧ Hid (Below w.heap.size w wr) ∧ Hid (∀ k, k < j → (sNm.getD k ([], [])).1 ≠ l)) (fun i _ => 15 - (intOf i).toNat)
  case atStart => exact ⟨0, by omega, rfl, Below.refl _ _, (by show ∀ k, _; intro k hk; omega)⟩
  case round =>
    obtain ⟨j, hj, rfl, HB, HK⟩ := hrel
    by_cases hlt : j < 15
    · have h1 : (j : Int) < 15 := by omega
      have hix := HIX.out wr j hlt
      have q := HQE.out j
      have HHT := hid (HF1.out j hlt HK.out)
      have HST : Hid (¬ (sNm.getD j ([], [])).1 = l → ∀ k, k < j + 1 → (sNm.getD k ([], [])).1 ≠ l) := fun h k hk => by
        by_cases e : k = j
        · subst e; exact h
        · exact HK.out k (by omega)
      obtain ⟨nm, HNM⟩ : ∃ z, Hid ((sNm.getD j ([], [])).1 = z) := ⟨_, rfl⟩
      obtain ⟨fs, HFS⟩ : ∃ z, Hid ((sNm.getD j ([], [])).2 = z) := ⟨_, rfl⟩
      rw [HNM.out] at hix q HHT HST
      rw [HFS.out] at hix
      go_upto_region 4 with fail
      have HF2 : Hid (Fo (wr.alloc (.cells #[.string (sb nm), .string (sb fs)] 77)) wr.heap.size nm fs) := heap_alloc_new wr _
      have HB2 : Hid (Below w.heap.size w (wr.alloc (.cells #[.string (sb nm), .string (sb fs)] 77))) := HB.out.alloc HB.out.size _
      obtain ⟨w2, HW2⟩ : ∃ z, Hid (wr.alloc (.cells #[.string (sb nm), .string (sb fs)] 77) = z) := ⟨_, rfl⟩
      obtain ⟨fg, HFG⟩ : ∃ z, Hid (wr.heap.size = z) := ⟨_, rfl⟩
      rw [HW2.out] at HF2 HB2 ⊢
      rw [HFG.out] at HF2 ⊢
      have n0 := HF2.out.c0
      by_cases h : nm = l
      · rw [decide_eq_true h] at q
        have HE := hid (HHT.out h)
        obtain ⟨X, HX⟩ : ∃ z, Hid (sb nm = z) := ⟨_, rfl⟩
        rw [HX.out] at q n0 ⊢
        clear h hix HHT HST HK
        go_wp2_with fail
        go_ret
        exact ⟨by rw [HE.out]; rfl, HB2.out⟩
      · rw [decide_eq_false h] at q
        have HE := hid (HST.out h)
        obtain ⟨X, HX⟩ : ∃ z, Hid (sb nm = z) := ⟨_, rfl⟩
        rw [HX.out] at q n0 ⊢
        clear h hix HHT HST HK
        go_wp2_with fail
        go_roundw
        case rel => exact ⟨j + 1, by omega, by first | rfl | go_num, HB2, HE.out⟩
        case measure => simp [intOf]; omega
    · obtain rfl : j = 15 := by omega
      have HE := hid (HF0.out HK.out)
      clear HK
      go_wp2_with fail
      go_ret
      exact ⟨by rw [HE.out]; rfl, HB.out⟩
set_option maxHeartbeats 1000000 in
theorem changeNamed_ (l : List Nat) (hy : ∀ x ∈ l, x < 256) (w : World) (hq : Tq w) : Calls Tryz.prog 136 #[.string (sb l)] w fun e w' => e = .returned (.int .i64 (cKd l : Nat)) ∧ Below w.heap.size w w' := by
  have HRG := hid (rngC w hq)
  have HIX := hid fun wx j hj => ixC wx j hj
  have HQE := hid fun j => sb_eq (a := (cNm.getD j ([], [])).1) (l := l) cNm_lt hy
  have HF1 : Hid (∀ j, j < 6 → (∀ k, k < j → (cNm.getD k ([], [])).1 ≠ l) → (cNm.getD j ([], [])).1 = l → cKd l = j) := fun j hj h1 h2 => by
    have := fndN_hit l (cNm.map (·.1)) 0 j (by simpa [cNm] using hj) (fun k hk => by rw [map_fst]; exact h1 k hk) (by rw [map_fst]; exact h2)
    rwa [Nat.zero_add] at this
  have HF0 : Hid ((∀ k, k < 6 → (cNm.getD k ([], [])).1 ≠ l) → cKd l = 0) := fun h => show fndN 0 l (cNm.map (·.1)) = 0 from fndN_none l (cNm.map (·.1)) 0 fun k hk => by rw [map_fst]; exact h k (by simpa [cNm] using hk)
  obtain ⟨f, HF⟩ : ∃ z, Hid (cKd l = z) := ⟨_, rfl⟩
  rw [HF.out] at HF1 HF0 ⊢
  obtain ⟨S, HS⟩ : ∃ z, Hid (sb l = z) := ⟨_, rfl⟩
  rw [HS.out] at HQE ⊢
  obtain ⟨AG, HAG⟩ : ∃ z, Hid (Value.agg (nmV cNm).toArray = z) := ⟨_, rfl⟩
  rw [HAG.out] at HIX
  clear hq
  go_enter Tryz.func136, Tryz.ntmps136
  go_wp2_with (with_reducible show wpList _ _ _ (_ :: _) _ _; refine wpList_load_mid rfl 173 _ rfl 4 0 rfl (nmV cNm) _ HRG.out Tryz.underlying173 rfl (by kernel_rfl) ?_; rw [HAG.out])
  go_loopw [6] (fun i wr => ∃ j : Nat, j ≤ 6 ∧ i = .int .i64 (j : Int) ∧ Hid (Below w.heap.size w wr) ∧ Hid (∀ k, k < j → (cNm.getD k ([], [])).1 ≠ l)) (fun i _ => 6 - (intOf i).toNat)
  case atStart => exact ⟨0, by omega, rfl, Below.refl _ _, (by show ∀ k, _; intro k hk; omega)⟩
  case round =>
    obtain ⟨j, hj, rfl, HB, HK⟩ := hrel
    by_cases hlt : j < 6
    · have h1 : (j : Int) < 6 := by omega
      have hix := HIX.out wr j hlt
      have q := HQE.out j
      have HHT := hid (HF1.out j hlt HK.out)
      have HST : Hid (¬ (cNm.getD j ([], [])).1 = l → ∀ k, k < j + 1 → (cNm.getD k ([], [])).1 ≠ l) := fun h k hk => by
        by_cases e : k = j
        · subst e; exact h
        · exact HK.out k (by omega)
      obtain ⟨nm, HNM⟩ : ∃ z, Hid ((cNm.getD j ([], [])).1 = z) := ⟨_, rfl⟩
      obtain ⟨fs, HFS⟩ : ∃ z, Hid ((cNm.getD j ([], [])).2 = z) := ⟨_, rfl⟩
      rw [HNM.out] at hix q HHT HST
      rw [HFS.out] at hix
      go_upto_region 4 with fail
      have HF2 : Hid (Fo (wr.alloc (.cells #[.string (sb nm), .string (sb fs)] 77)) wr.heap.size nm fs) := heap_alloc_new wr _
      have HB2 : Hid (Below w.heap.size w (wr.alloc (.cells #[.string (sb nm), .string (sb fs)] 77))) := HB.out.alloc HB.out.size _
      obtain ⟨w2, HW2⟩ : ∃ z, Hid (wr.alloc (.cells #[.string (sb nm), .string (sb fs)] 77) = z) := ⟨_, rfl⟩
      obtain ⟨fg, HFG⟩ : ∃ z, Hid (wr.heap.size = z) := ⟨_, rfl⟩
      rw [HW2.out] at HF2 HB2 ⊢
      rw [HFG.out] at HF2 ⊢
      have n0 := HF2.out.c0
      by_cases h : nm = l
      · rw [decide_eq_true h] at q
        have HE := hid (HHT.out h)
        obtain ⟨X, HX⟩ : ∃ z, Hid (sb nm = z) := ⟨_, rfl⟩
        rw [HX.out] at q n0 ⊢
        clear h hix HHT HST HK
        go_wp2_with fail
        go_ret
        exact ⟨by rw [HE.out]; rfl, HB2.out⟩
      · rw [decide_eq_false h] at q
        have HE := hid (HST.out h)
        obtain ⟨X, HX⟩ : ∃ z, Hid (sb nm = z) := ⟨_, rfl⟩
        rw [HX.out] at q n0 ⊢
        clear h hix HHT HST HK
        go_wp2_with fail
        go_roundw
        case rel => exact ⟨j + 1, by omega, by first | rfl | go_num, HB2, HE.out⟩
        case measure => simp [intOf]; omega
    · obtain rfl : j = 6 := by omega
      have HE := hid (HF0.out HK.out)
      clear HK
      go_wp2_with fail
      go_ret
      exact ⟨by rw [HE.out]; rfl, HB.out⟩
theorem at_sb {l : List Nat} (hy : ∀ x ∈ l, x < 256) {i : Nat} (hi : i < l.length) (h : i < (sb l).size) : ((sb l)[i]'h).toNat = l.getD i 0 := by
  obtain ⟨h', e⟩ := sb_get l hy i hi
  exact e
theorem fits_ (fs : List Nat) (hy : ∀ x ∈ fs, x < 256) (h0 : fs ≠ []) (h9 : fs.length ≤ 9) (n : Nat) (hn : n ≤ 2000000) (w : World) : Calls Tryz.prog 69 #[.string (sb fs), .int .i64 (n : Int)] w fun e w' => e = .returned (.bool (sFit fs n)) ∧ w' = w := by
  have hp := List.length_pos_iff.2 h0
  have hsz : (sb fs).size = fs.length := sb_size fs
  have HAT := hid fun h => at_sb hy (i := fs.length - 1) (by omega) h
  obtain ⟨s, hs⟩ : ∃ s, fs.length = s + 1 := ⟨fs.length - 1, by omega⟩
  have hr : sFit fs n = if fs.getD s 0 = 67 then decide (s ≤ n) else if fs.getD s 0 = 70 then decide (s ≤ n ∧ (n - s) % 2 = 0) else decide (n = s + 1) := by
    unfold sFit
    rw [hs, Nat.add_sub_cancel]
  rw [hr]
  rw [hs] at hsz HAT
  rw [Nat.add_sub_cancel] at HAT
  have hc256 : fs.getD s 0 < 256 := hy _ (by simp [List.getD, show s < fs.length by omega])
  obtain ⟨c, HC⟩ : ∃ z, Hid (fs.getD s 0 = z) := ⟨_, rfl⟩
  rw [HC.out] at HAT hc256 ⊢
  obtain ⟨S, HS⟩ : ∃ z, Hid (sb fs = z) := ⟨_, rfl⟩
  rw [HS.out] at HAT hsz ⊢
  have q1 := HAT.out
  have hs9 : s ≤ 8 := by omega
  have i1 : (s : Int) < (S.size : Int) := by omega
  clear hr hs hp h0 h9 hy
  by_cases h67 : c = 67
  · subst h67
    rw [if_pos rfl]
    go_enter Tryz.func69, Tryz.ntmps69
    go_wp2_with fail
    go_ret
    exact ⟨by first | rfl | (congr 2; simp), rfl⟩
  · have e67 : ((c : Int) == 67) = false := by simp; omega
    rw [if_neg h67]
    by_cases h70 : c = 70
    · subst h70
      rw [if_pos rfl]
      by_cases hle : s ≤ n
      · have il : (s : Int) ≤ (n : Int) := by omega
        have hm : Int.tmod ((n : Int) - (s : Int)) 2 = (((n - s) % 2 : Nat) : Int) := by
          rw [Int.tmod_eq_emod_of_nonneg (by omega)]
          omega
        go_enter Tryz.func69, Tryz.ntmps69
        go_wp2_with fail
        go_ret
        refine ⟨?_, rfl⟩
        have hb : ((((n - s : Nat) : Int) % 2 == 0) : Bool) = decide (s ≤ n ∧ (n - s) % 2 = 0) := by
          rw [Bool.beq_eq_decide_eq]
          exact decide_eq_decide.2 ⟨fun h => ⟨hle, by omega⟩, fun h => by have := h.2; omega⟩
        show Ending.returned (.bool _) = _
        rw [← hb]
      · have il : ¬ (s : Int) ≤ (n : Int) := by omega
        rw [decide_eq_false (fun h => hle h.1)]
        go_enter Tryz.func69, Tryz.ntmps69
        go_wp2_with fail
        go_ret
        exact ⟨by first | rfl | simp, rfl⟩
    · have e70 : ((c : Int) == 70) = false := by simp; omega
      rw [if_neg h70]
      go_enter Tryz.func69, Tryz.ntmps69
      go_wp2_with fail
      go_ret
      refine ⟨?_, rfl⟩
      have hb : (((n : Int) == (s : Int) + 1) : Bool) = decide (n = s + 1) := by
        rw [Bool.beq_eq_decide_eq]
        exact decide_eq_decide.2 ⟨fun h => by omega, fun h => by omega⟩
      show Ending.returned (.bool _) = _
      rw [← hb]
end Go.Proofs.YtkeogggeefnoeaaGreatDoor
namespace Go.Proofs.YtkeogggeefnoeaaGreatDoor
set_option linter.unusedSimpArgs false
open Go.RowKit
set_option linter.unusedVariables false
set_option maxRecDepth 100000

/-! Reading: bytes and bits. -/
theorem hxp_app : ∀ (a r bs : List Nat), hxp a = some bs → hxp (a ++ r) = (hxp r).map (bs ++ ·)
  | [], r, bs, h => by
    cases h
    show hxp r = _
    cases hxp r <;> rfl
  | [_], r, bs, h => by simp [hxp] at h
  | x :: y :: a, r, bs, h => by
    rw [hxp] at h
    split at h
    · rename_i u v s h1 h2 h3
      cases h
      have ih := hxp_app a r s h3
      show hxp (x :: y :: (a ++ r)) = _
      rw [hxp, h1, h2, ih]
      cases hxp r <;> rfl
    · cases h
theorem hxp_odd : ∀ l : List Nat, l.length % 2 = 1 → hxp l = none
  | [], h => by simp at h
  | [_], h => rfl
  | x :: y :: a, h => by
    have : a.length % 2 = 1 := by simp at h; omega
    rw [hxp, hxp_odd a this]
    cases hdv x <;> cases hdv y <;> rfl
theorem hxp_next {l bs : List Nat} {j : Nat} (h : hxp (l.take (2 * j)) = some bs) (hj : 2 * j + 1 < l.length) :
    (∀ z, q2 (l.getD (2 * j) 0) (l.getD (2 * j + 1) 0) = some z → hxp (l.take (2 * (j + 1))) = some (bs ++ [z])) ∧ (q2 (l.getD (2 * j) 0) (l.getD (2 * j + 1) 0) = none → hxp l = none) := by
  have e1 : l.getD (2 * j) 0 = l[2 * j] := by simp [List.getD, show 2 * j < l.length by omega]
  have e2 : l.getD (2 * j + 1) 0 = l[2 * j + 1] := by simp [List.getD, hj]
  have t1 : l.take (2 * (j + 1)) = l.take (2 * j) ++ [l.getD (2 * j) 0, l.getD (2 * j + 1) 0] := by
    rw [show 2 * (j + 1) = 2 * j + 1 + 1 by omega, List.take_succ_eq_append_getElem hj, List.take_succ_eq_append_getElem (show 2 * j < l.length by omega), List.append_assoc, e1, e2]
    rfl
  have t2 : l = l.take (2 * j) ++ (l.getD (2 * j) 0 :: l.getD (2 * j + 1) 0 :: l.drop (2 * j + 2)) := by
    conv => lhs; rw [← List.take_append_drop (2 * j) l]
    rw [List.drop_eq_getElem_cons (show 2 * j < l.length by omega), List.drop_eq_getElem_cons hj, e1, e2]
  refine ⟨fun z hz => ?_, fun hz => ?_⟩
  · rw [t1, hxp_app _ _ _ h]
    unfold q2 at hz
    split at hz
    · rename_i x y h1 h2
      cases hz
      rw [hxp, h1, h2]
      rfl
    · cases hz
  · rw [t2, hxp_app _ _ _ h]
    unfold q2 at hz
    rw [hxp]
    split at hz
    · cases hz
    · rename_i hno
      cases h1 : hdv (l.getD (2 * j) 0) with
      | none => rfl
      | some x =>
        cases h2 : hdv (l.getD (2 * j + 1) 0) with
        | none => rfl
        | some y => exact (hno x y h1 h2).elim
/-- A row of one's own, cell by cell. -/
def Yx (w : World) (g : Nat) (t : TypeId) (vs : List Value) : Prop := w.heap[g]? = some (.cells vs.toArray t (0, 0))
section
variable {w w' : World} {g : Nat} {t : TypeId} {vs : List Value}
theorem Yx.lt (h : Yx w g t vs) : g < w.heap.size := (Array.getElem?_eq_some_iff.1 h).1
theorem Yx.on (h : Yx w g t vs) (hb : Below w.heap.size w w') : Yx w' g t vs := (hb.block g h.lt).trans h
theorem Yx.cell (h : Yx w g t vs) (i : Nat) : w.cell? ⟨g, i, none⟩ = vs[i]? := (cell_of_row w g i _ t (0, 0) h).trans (by simp)
theorem Yx.fz (h : Yx w g t vs) (i : Nat) : w.frozen? ⟨g, i, none⟩ = false := by unfold Yx at h; simp [World.frozen?, h]
theorem Yx.set (h : Yx w g t vs) (i : Nat) (v : Value) : Yx (w.setCell ⟨g, i, none⟩ v) g t (vs.set i v) := by
  unfold Yx at *
  simp [World.setCell, Array.getElem?_modify, h]
theorem Yx.new (w : World) (t : TypeId) (vs : List Value) : Yx (w.alloc (.cells vs.toArray t)) w.heap.size t vs := heap_alloc_new w _
theorem Yx.other {g' i : Nat} {v : Value} (h : Yx w g t vs) (hg : g ≠ g') : Yx (w.setCell ⟨g', i, none⟩ v) g t vs := (Below.heap_setCell _ _ _ _ hg).trans h
end
theorem make_by (n : Nat) (hn : n ≤ 1048576) (wx : World) : (Instr.makeSlice 40 (.int .i64 (n : Int)) (.int .i64 (n : Int))).run Tryz.prog wx = .ok (.slice (some ⟨wx.heap.size, 0, none⟩) n n) (wx.alloc (.cells (List.replicate n (Value.int .u8 0)).toArray 5)) := by
  obtain ⟨i, hi, hz0, hz1, hz2⟩ := info_parts info5
  have h := run_make (P := Tryz.prog) wx 40 5 i (.int .u8 0) Tryz.underlying40 hi hz0 .i64 .i64 (n : Int) (n : Int) (by omega) (by omega) (by rw [hz2]; omega) (by omega)
  rw [h, hz1]
  simp only [Int.toNat_natCast, Nat.mul_one]
  congr 3
  apply Array.ext
  · simp [madeCells]
  · intro j h1 h2
    simp [madeCells, Value.cells, Nat.mod_one]
theorem infoB : (Tryz.prog.info? 4).map (fun i => (i.zero, i.size, i.bytes)) = some (some (.bool false), 1, 1) := by kernel_rfl
theorem make_bo (n : Nat) (hn : n ≤ 1048576) (wx : World) : (Instr.makeSlice 51 (.int .i64 (n : Int)) (.int .i64 (n : Int))).run Tryz.prog wx = .ok (.slice (some ⟨wx.heap.size, 0, none⟩) n n) (wx.alloc (.cells (List.replicate n (Value.bool false)).toArray 4)) := by
  obtain ⟨i, hi, hz0, hz1, hz2⟩ := info_parts infoB
  have h := run_make (P := Tryz.prog) wx 51 4 i (.bool false) Tryz.underlying51 hi hz0 .i64 .i64 (n : Int) (n : Int) (by omega) (by omega) (by rw [hz2]; omega) (by omega)
  rw [h, hz1]
  simp only [Int.toNat_natCast, Nat.mul_one]
  congr 3
  apply Array.ext
  · simp [madeCells]
  · intro j h1 h2
    simp [madeCells, Value.cells, Nat.mod_one]
/-- A list of bytes that was read, or an error. -/
def RxV (w : World) (l : List Nat) (e : Ending) (w' : World) : Prop := match hexv l with
  | none => e = .returned (.tuple #[.slice none 0 0, .int .i64 225])
  | some b => ∃ a p, e = .returned (.tuple #[.slice a b.length p, .int .i64 0]) ∧ Vs w' (fun x => w.heap.size ≤ x) a b.length p (ic b)
theorem yx_vs {w : World} {g n B : Nat} {vs : List Value} {b : List Nat} (h : Yx w g 5 vs) (hB : B ≤ g) (hn : b.length = n) (hnm : n ≤ 1048576) (hb : ∀ x ∈ b, x < 256) (hc : ∀ i, i < n → vs[i]? = some (.int .u8 (b.getD i 0 : Nat))) : Vs w (fun x => B ≤ x) (some ⟨g, 0, none⟩) n n (ic b) := by
  refine ⟨⟨by unfold ic; rw [List.length_map]; exact hn, fun z hz => ?_, .inr ⟨g, 0, rfl, fun i hi => ?_⟩⟩, Nat.le_refl _, by unfold maxLen; omega, fun e => (by cases e), fun ad e _ => (by obtain rfl := Option.some.inj e; exact hB)⟩
  · obtain ⟨y, hy, rfl⟩ := List.mem_map.1 hz
    have := hb y hy
    omega
  · rw [Nat.zero_add, h.cell, hc i hi]
    congr 2
    unfold ic
    simp [List.getD, show i < b.length by omega]
set_option maxHeartbeats 4000000 in
theorem readHex_ (l : List Nat) (hy : ∀ x ∈ l, x < 256) (hl : l.length ≤ 1048576) (w : World) (hT : Tb w) : Calls Tryz.prog 87 #[.string (sb l)] w fun e w' => RxV w l e w' ∧ Below w.heap.size w w' := by
  have e45 : (⟨#[45]⟩ : ByteArray).toList = [45] := by rw [toList_data]
  have q : ((sb l).toList == (⟨#[45]⟩ : ByteArray).toList) = decide (l = [45]) := sb_eq (l := [45]) hy (by decide)
  rw [e45] at q
  clear e45
  have hsz : (sb l).size = l.length := sb_size l
  by_cases h45 : l = [45]
  · rw [decide_eq_true h45] at q
    have HV : Hid (∀ w', RxV w l (.returned (.tuple #[.slice none 0 0, .int .i64 0])) w') := fun w' => by
      unfold RxV hexv
      rw [if_pos h45]
      exact ⟨none, 0, rfl, vs_none _ _⟩
    generalize sb l = S at *
    clear h45 hsz hy hl
    go_enter Tryz.func87, Tryz.ntmps87
    go_wp2_with fail
    go_ret2
    exact ⟨HV.out _, Below.refl _ _⟩
  · rw [decide_eq_false h45] at q
    by_cases hod : l.length % 2 = 1
    · have HV : Hid (∀ w', RxV w l (.returned (.tuple #[.slice none 0 0, .int .i64 225])) w') := fun w' => by
        unfold RxV hexv
        rw [if_neg h45, hxp_odd l hod]
      have hm : Int.tmod (l.length : Int) 2 = 1 := by rw [Int.tmod_eq_emod_of_nonneg (by omega)]; omega
      obtain ⟨n, HN⟩ : ∃ z, Hid (l.length = z) := ⟨_, rfl⟩
      rw [HN.out] at hsz hm
      generalize sb l = S at *
      clear h45 hy hl
      go_enter Tryz.func87, Tryz.ntmps87
      go_wp2_with fail
      go_ret2
      exact ⟨HV.out _, Below.refl _ _⟩
    · obtain ⟨n, HN⟩ : ∃ n, Hid (l.length = 2 * n) := ⟨l.length / 2, by show _ = _; omega⟩
      have hl2 := HN.out
      rw [hl2] at hsz
      have hm : Int.tmod ((2 * n : Nat) : Int) 2 = 0 := by rw [Int.tmod_eq_emod_of_nonneg (by omega)]; omega
      have hd : Int.tdiv ((2 * n : Nat) : Int) 2 = (n : Int) := by rw [Int.tdiv_eq_ediv_of_nonneg (by omega)]; omega
      have hn1 : n ≤ 524288 := by omega
      have hmk := make_by n (by omega)
      have HVN : Hid (hxp l = none → ∀ w', RxV w l (.returned (.tuple #[.slice none 0 0, .int .i64 225])) w') := fun h w' => by
        unfold RxV hexv
        rw [if_neg h45, h]
      have HVS : Hid (∀ bs, hxp l = some bs → ∀ w' vs, Yx w' w.heap.size 5 vs → bs.length = n → (∀ i, i < n → vs[i]? = some (.int .u8 (bs.getD i 0 : Nat))) → RxV w l (.returned (.tuple #[.slice (some ⟨w.heap.size, 0, none⟩) n n, .int .i64 0])) w') := fun bs h w' vs hY hbl hc => by
        unfold RxV hexv
        rw [if_neg h45, h]
        subst hbl
        exact ⟨_, _, rfl, yx_vs hY (Nat.le_refl _) rfl (by omega) (hxp_lt l bs h) hc⟩
      have HK := hid fun (a b : Nat) (ha : a < 256) (hb : b < 256) (w : World) (hT : Tb w) => (show Calls Tryz.prog 85 #[.string (sb [a, b]), .int .i64 16, .int .i64 8] w fun e w' => PuP (q2 a b) e ∧ Below w.heap.size w w' from by
        rw [← q8_two ha hb]
        exact pu8_ [a, b] w (by simp; omega) (by simp) hT)
      have HX : Hid (∀ j, j < n → (sb l).extract (2 * j) (2 * j + 2) = sb [l.getD (2 * j) 0, l.getD (2 * j + 1) 0]) := fun j hj => by
        rw [sb_cut22 l (2 * j) (2 * j + 2) (by omega)]
        congr 1
        have e1 : l.getD (2 * j) 0 = l[2 * j]'(by omega) := by simp [List.getD, show 2 * j < l.length by omega]
        have e2 : l.getD (2 * j + 1) 0 = l[2 * j + 1]'(by omega) := by simp [List.getD, show 2 * j + 1 < l.length by omega]
        rw [List.drop_take, show 2 * j + 2 - 2 * j = 2 by omega, List.drop_eq_getElem_cons (show 2 * j < l.length by omega), List.drop_eq_getElem_cons (show 2 * j + 1 < l.length by omega), e1, e2]
        rfl
      have HNX := hid fun bs j h hj => hxp_next (l := l) (bs := bs) (j := j) h hj
      have HBY := hid hy
      have HTB := hid hT
      obtain ⟨S, HS⟩ : ∃ z, Hid (sb l = z) := ⟨_, rfl⟩
      rw [HS.out] at q hsz HX ⊢
      have hub : Below w.heap.size w (w.alloc (.cells (List.replicate n (Value.int .u8 0)).toArray 5)) := (Below.refl _ _).alloc (Nat.le_refl _) _
      have hy0 := Yx.new w 5 (List.replicate n (Value.int .u8 0))
      have HUB := hid hub
      have HY0 := hid hy0
      obtain ⟨g, HG⟩ : ∃ z, Hid (w.heap.size = z) := ⟨_, rfl⟩
      obtain ⟨dd, HDD⟩ : ∃ z : Int, Hid (((2 * n : Nat) : Int) = z) := ⟨_, rfl⟩
      have hds : (S.size : Int) = dd := by rw [hsz, HDD.out]
      rw [HDD.out] at hm hd
      clear hub hy0 h45 hod hl hy hl2 hT hsz
      go_enter Tryz.func87, Tryz.ntmps87
      go_wp2_with fail
      obtain ⟨w1, HW1⟩ : ∃ z, Hid (w.alloc (.cells (List.replicate n (Value.int .u8 0)).toArray 5) = z) := ⟨_, rfl⟩
      have HW2 : Hid (w.alloc (.cells (Array.replicate n (Value.int .u8 0)) 5) = w1) := by show _ = _; rw [← HW1.out]; simp
      rw [HW1.out] at HUB HY0
      rw [HW2.out]
      rw [HG.out] at HY0 HVS ⊢
      clear hmk
      go_loopw [22] (fun i wr => ∃ (j : Nat) (bs : List Nat) (vs : List Value), i = .int .i64 (j : Int) ∧ j ≤ n ∧ Hid (Yx wr g 5 vs) ∧ vs.length = n ∧ Hid (hxp (l.take (2 * j)) = some bs ∧ bs.length = j ∧ ∀ i, i < j → vs[i]? = some (.int .u8 (bs.getD i 0 : Nat))) ∧ Hid (Below w.heap.size w wr)) (fun i _ => n - (intOf i).toNat)
      case atStart => exact ⟨0, [], List.replicate n (.int .u8 0), rfl, by omega, HY0, by simp, ⟨rfl, rfl, fun i hi => by omega⟩, HUB⟩
      case round =>
        clear HY0 HUB
        obtain ⟨j, bs, vs, rfl, hj, HY, hvl, HB, HBL⟩ := hrel
        by_cases hlt : j < n
        · have h1 : (j : Int) < (n : Int) := by omega
          have hlj : 2 * j + 1 < l.length := by rw [HN.out]; omega
          have HN2 := hid (HNX.out bs j HB.out.1 hlj)
          have HXJ := hid (HX.out j hlt)
          obtain ⟨a, HA⟩ : ∃ z, Hid (l.getD (2 * j) 0 = z) := ⟨_, rfl⟩
          obtain ⟨b, HBB⟩ : ∃ z, Hid (l.getD (2 * j + 1) 0 = z) := ⟨_, rfl⟩
          have ha : a < 256 := by rw [← HA.out]; exact HBY.out _ (by simp [List.getD, show 2 * j < l.length by omega])
          have hb : b < 256 := by rw [← HBB.out]; exact HBY.out _ (by simp [List.getD, hlj])
          rw [HA.out, HBB.out] at HN2 HXJ
          have k1 := HK.out a b ha hb wr (HTB.out.kept HBL.out)
          obtain ⟨Q, HQ⟩ : ∃ z, Hid (q2 a b = z) := ⟨_, rfl⟩
          rw [HQ.out] at k1 HN2
          rw [← HXJ.out] at k1
          obtain ⟨P, HP⟩ : ∃ z : Nat, Hid (2 * j = z) := ⟨_, rfl⟩
          rw [HP.out] at k1
          have i1 : 2 * (j : Int) = (P : Int) := by have := HP.out; omega
          have i2 : (P : Int) + 2 = ((P + 2 : Nat) : Int) := by omega
          have i3 : (P : Int) ≤ ((P + 2 : Nat) : Int) := by omega
          have i4 : ((P + 2 : Nat) : Int) ≤ (S.size : Int) := by rw [hds, ← HDD.out]; have := HP.out; omega
          obtain ⟨R, HR⟩ : ∃ z : Nat, Hid (P + 2 = z) := ⟨_, rfl⟩
          rw [HR.out] at i2 i3 i4 k1
          have i5 : (R : Int) ≤ dd := by rw [← hds]; exact i4
          clear ha hb hlj
          have hzb : ∀ z, Q = some z → z < 256 := fun z hz => by
            have := HQ.out
            rw [hz] at this
            unfold q2 at this
            split at this
            · rename_i x y h1 h2
              have := hdv_lt h1
              have := hdv_lt h2
              have := Option.some.inj ‹some _ = some z›
              omega
            · cases this
          go_wp2_with fail
          refine k1.mono ?_
          intro e w3 ⟨hP, g3⟩
          cases Q with
          | none =>
            obtain ⟨u, t, p, rfl⟩ := hP
            have HE := hid (HVN.out (HN2.out.2 rfl))
            have HB3 := hid (bel_bel HBL.out HBL.out.size g3)
            clear k1 g3 hzb
            go_wp2_with fail
            go_ret2
            exact ⟨HE.out _, HB3.out⟩
          | some z =>
            obtain rfl : e = _ := hP
            have hz := hzb z rfl
            have HY3 := hid (HY.out.on g3)
            have HB3 := hid (bel_bel HBL.out HBL.out.size g3)
            obtain ⟨u, hu⟩ : ∃ u, vs[j]? = some u := ⟨vs[j]'(by omega), by simp [show j < vs.length by omega]⟩
            have c0 := HY3.out.cell j
            rw [hu] at c0
            have f0 := HY3.out.fz j
            have z0 : (0 : Int) ≤ (z : Int) := by omega
            have z1 : (z : Int) ≤ 255 := by omega
            have HYN : Hid (Yx (w3.setCell ⟨g, j, none⟩ (.int .u8 (z : Int))) g 5 (vs.set j (.int .u8 (z : Int)))) := HY3.out.set j _
            have HBN : Hid (Below w.heap.size w (w3.setCell ⟨g, j, none⟩ (.int .u8 (z : Int)))) := HB3.out.setCell (p := ⟨g, j, none⟩) (by have := HG.out; show w.heap.size ≤ g; omega) _
            have HBS : Hid (hxp (l.take (2 * (j + 1))) = some (bs ++ [z]) ∧ (bs ++ [z]).length = j + 1 ∧ ∀ i, i < j + 1 → (vs.set j (.int .u8 (z : Int)))[i]? = some (.int .u8 ((bs ++ [z]).getD i 0 : Nat))) := by
              refine ⟨HN2.out.1 z rfl, by rw [List.length_append, HB.out.2.1]; rfl, fun i hi => ?_⟩
              have hbl := HB.out.2.1
              by_cases e : i = j
              · subst e
                rw [List.getElem?_set_self (by omega)]
                congr 2
                simp [List.getD, hbl]
              · rw [List.getElem?_set_ne (by omega), HB.out.2.2 i (by omega)]
                congr 2
                simp [List.getD, List.getElem?_append_left (show i < bs.length by omega)]
            have hvl2 : (vs.set j (.int .u8 (z : Int))).length = n := by rw [List.length_set]; exact hvl
            clear k1 g3 hzb HN2 HB hu hz HY3 HB3
            go_wp2_with fail
            go_roundw
            case rel => exact ⟨j + 1, bs ++ [z], _, by first | rfl | go_num, by omega, HYN, hvl2, HBS, HBN⟩
            case measure => simp [intOf]; omega
        · obtain rfl : j = n := by omega
          have HF : Hid (RxV w l (.returned (.tuple #[.slice (some ⟨g, 0, none⟩) j j, .int .i64 0])) wr) := by
            obtain ⟨h1, h2, h3⟩ := HB.out
            rw [← HN.out, List.take_length] at h1
            exact HVS.out bs h1 wr vs HY.out h2 h3
          clear HB HY HVS HVN
          go_wp2_with fail
          go_ret2
          exact ⟨HF.out, HBL.out⟩
end Go.Proofs.YtkeogggeefnoeaaGreatDoor
namespace Go.Proofs.YtkeogggeefnoeaaGreatDoor
set_option linter.unusedSimpArgs false
open Go.RowKit
set_option linter.unusedVariables false
set_option maxRecDepth 100000

/-! Reading: bits. -/
theorem btp_app : ∀ (a r : List Nat) (bs : List Bool), btp a = some bs → btp (a ++ r) = (btp r).map (bs ++ ·)
  | [], r, bs, h => by
    cases h
    show btp r = _
    cases btp r <;> rfl
  | x :: a, r, bs, h => by
    rw [btp] at h
    split at h
    · rename_i hx
      cases h1 : btp a with
      | none => rw [h1] at h; cases h
      | some s =>
        rw [h1] at h
        cases h
        show btp (x :: (a ++ r)) = _
        rw [btp, if_pos hx, btp_app a r s h1]
        cases btp r <;> rfl
    · cases h
theorem btp_next {l : List Nat} {bs : List Bool} {j : Nat} (h : btp (l.take j) = some bs) (hj : j < l.length) :
    ((l.getD j 0 = 48 ∨ l.getD j 0 = 49) → btp (l.take (j + 1)) = some (bs ++ [decide (l.getD j 0 = 49)])) ∧ (¬ (l.getD j 0 = 48 ∨ l.getD j 0 = 49) → btp l = none) := by
  have e1 : l.getD j 0 = l[j] := by simp [List.getD, hj]
  refine ⟨fun hx => ?_, fun hx => ?_⟩
  · rw [List.take_succ_eq_append_getElem hj, btp_app _ _ _ h, ← e1, btp, if_pos hx]
    rfl
  · have t2 : l = l.take j ++ (l.getD j 0 :: l.drop (j + 1)) := by
      conv => lhs; rw [← List.take_append_drop j l]
      rw [List.drop_eq_getElem_cons hj, e1]
    rw [t2, btp_app _ _ _ h, btp, if_neg hx]
    rfl
/-- A list of bits that was read, or an error. -/
def RbV (w : World) (l : List Nat) (e : Ending) (w' : World) : Prop := match bitv l with
  | none => e = .returned (.tuple #[.slice none 0 0, .int .i64 223])
  | some b => ∃ a p, e = .returned (.tuple #[.slice a b.length p, .int .i64 0]) ∧ Kps w' (fun x => w.heap.size ≤ x) a b.length b ∧ b.length ≤ p
theorem yx_kps {w : World} {g n B : Nat} {vs : List Value} {b : List Bool} (h : Yx w g 4 vs) (hB : B ≤ g) (hn : b.length = n) (hc : ∀ i, i < n → vs[i]? = some (.bool (b.getD i false))) : Kps w (fun x => B ≤ x) (some ⟨g, 0, none⟩) n b := by
  refine ⟨hn, .inr ⟨g, 0, rfl, hB, h.lt, fun i hi j u hu => ?_⟩⟩
  cases j with
  | succ j => simp at hu
  | zero =>
    simp only [List.getElem?_cons_zero, Option.some.injEq] at hu
    subst hu
    rw [Nat.zero_add, Nat.mul_one, Nat.add_zero, h.cell, hc i hi]
set_option maxHeartbeats 4000000 in
theorem readBits_ (l : List Nat) (hy : ∀ x ∈ l, x < 256) (hl : l.length ≤ 1048576) (w : World) : Calls Tryz.prog 89 #[.string (sb l)] w fun e w' => RbV w l e w' ∧ Below w.heap.size w w' := by
  have e45 : (⟨#[45]⟩ : ByteArray).toList = [45] := by rw [toList_data]
  have q : ((sb l).toList == (⟨#[45]⟩ : ByteArray).toList) = decide (l = [45]) := sb_eq (l := [45]) hy (by decide)
  rw [e45] at q
  clear e45
  have hsz : (sb l).size = l.length := sb_size l
  by_cases h45 : l = [45]
  · rw [decide_eq_true h45] at q
    have HV : Hid (∀ w', RbV w l (.returned (.tuple #[.slice none 0 0, .int .i64 0])) w') := fun w' => by
      unfold RbV bitv
      rw [if_pos h45]
      exact ⟨none, 0, rfl, ⟨rfl, .inl rfl⟩, Nat.le_refl _⟩
    generalize sb l = S at *
    clear h45 hsz hy hl
    go_enter Tryz.func89, Tryz.ntmps89
    go_wp2_with fail
    go_ret2
    exact ⟨HV.out _, Below.refl _ _⟩
  · rw [decide_eq_false h45] at q
    have HVN : Hid (btp l = none → ∀ w', RbV w l (.returned (.tuple #[.slice none 0 0, .int .i64 223])) w') := fun h w' => by
      unfold RbV bitv
      rw [if_neg h45, h]
    obtain ⟨n, HN⟩ : ∃ z, Hid (l.length = z) := ⟨_, rfl⟩
    have HVS : Hid (∀ bs, btp l = some bs → ∀ w' vs, Yx w' w.heap.size 4 vs → bs.length = n → (∀ i, i < n → vs[i]? = some (.bool (bs.getD i false))) → RbV w l (.returned (.tuple #[.slice (some ⟨w.heap.size, 0, none⟩) n n, .int .i64 0])) w') := fun bs h w' vs hY hbl hc => by
      unfold RbV bitv
      rw [if_neg h45, h]
      subst hbl
      exact ⟨_, _, rfl, yx_kps hY (Nat.le_refl _) rfl hc, Nat.le_refl _⟩
    have HNL := hid (next_low l hy)
    have HNH := hid (next_high l hy)
    have HNE := hid (next_end l)
    have HNX := hid fun bs j h hj => btp_next (l := l) (bs := bs) (j := j) h hj
    rw [HN.out] at hsz
    have hn1 : n ≤ 1048576 := by rw [← HN.out]; exact hl
    have hmk := make_bo n hn1
    obtain ⟨S, HS⟩ : ∃ z, Hid (sb l = z) := ⟨_, rfl⟩
    rw [HS.out] at q hsz HNL HNH HNE ⊢
    have hub : Below w.heap.size w (w.alloc (.cells (List.replicate n (Value.bool false)).toArray 4)) := (Below.refl _ _).alloc (Nat.le_refl _) _
    have hy0 := Yx.new w 4 (List.replicate n (Value.bool false))
    have HUB := hid hub
    have HY0 := hid hy0
    obtain ⟨g, HG⟩ : ∃ z, Hid (w.heap.size = z) := ⟨_, rfl⟩
    have hds : (S.size : Int) = (n : Int) := by rw [hsz]
    clear hub hy0 h45 hl hy
    go_enter Tryz.func89, Tryz.ntmps89
    go_upto_region 4 with fail
    obtain ⟨w1, HW1⟩ : ∃ z, Hid (w.alloc (.cells (List.replicate n (Value.bool false)).toArray 4) = z) := ⟨_, rfl⟩
    have HW2 : Hid (w.alloc (.cells (Array.replicate n (Value.bool false)) 4) = w1) := by show _ = _; rw [← HW1.out]; simp
    rw [HW1.out] at HUB HY0
    rw [HW2.out]
    rw [HG.out] at HY0 HVS ⊢
    clear hmk
    go_wp2_with fail
    have HI0 : Hid (It (w1.iter S 0) w1.heap.size S 0) := heap_alloc_new w1 _
    have hwb : Below w1.heap.size w1 (w1.iter S 0) := (Below.refl _ _).alloc (Nat.le_refl _) _
    have HB0 : Hid (Below w.heap.size w (w1.iter S 0)) := bel_bel HUB.out HUB.out.size hwb
    have HY1 := hid (HY0.out.on hwb)
    obtain ⟨ig, HIG⟩ : ∃ z, Hid (w1.heap.size = z) := ⟨_, rfl⟩
    have hgi : g < ig := by rw [← HIG.out]; exact HY0.out.lt
    have HLO : Hid (w.heap.size ≤ ig ∧ w.heap.size ≤ g) := ⟨by have := HIG.out; have := HUB.out.size; omega, by have := HG.out; omega⟩
    clear hwb HY0 HUB
    generalize w1.iter S 0 = w2 at *
    rw [HIG.out] at HI0 ⊢
    go_loopw [5, 6] (fun _ _ wr => ∃ (j : Nat) (bs : List Bool) (vs : List Value), j ≤ n ∧ Hid (Yx wr g 4 vs) ∧ vs.length = n ∧ Hid (btp (l.take j) = some bs ∧ bs.length = j ∧ ∀ i, i < j → vs[i]? = some (.bool (bs.getD i false))) ∧ Hid (It wr ig S j) ∧ Hid (Below w.heap.size w wr)) (fun _ _ wr => n - wr.iterPos ig)
    case atStart => exact ⟨0, [], List.replicate n (.bool false), by omega, HY1, by simp, ⟨rfl, rfl, fun i hi => by omega⟩, HI0, HB0⟩
    case round =>
      clear HY1 HB0 HI0
      obtain ⟨j, bs, vs, hj, HY, hvl, HB, HI, HBL⟩ := hrel
      by_cases hlt : j < n
      · have h1 : (j : Int) < (n : Int) := by omega
        have hlf : j < l.length := by rw [HN.out]; exact hlt
        have HN2 := hid (HNX.out bs j HB.out.1 hlf)
        obtain ⟨x, HX⟩ : ∃ z, Hid (l.getD j 0 = z) := ⟨_, rfl⟩
        have HP1 := hid HI.out.pos
        rw [HX.out] at HN2
        by_cases hx : x < 128
        · have hnx := HNL.out j hlf wr _ HI.out (by rw [HX.out]; exact hx)
          rw [HX.out] at hnx
          have hit2 : It (wr.iterAt ig S (j + 1)) ig S (j + 1) := Lib.iterAt_heap wr _ S j (j + 1) HI.out
          have HI2 := hid hit2
          have HY2 : Hid (Yx (wr.iterAt ig S (j + 1)) g 4 vs) := (Lib.iterAt_other wr ig g S (j + 1) (by omega)).trans HY.out
          have HB2 : Hid (Below w.heap.size w (wr.iterAt ig S (j + 1))) := Lib.below_iterAt HBL.out HLO.out.1 S (j + 1)
          clear hit2 HI HY HBL hlf
          generalize wr.iterAt ig S (j + 1) = w3 at *
          by_cases hb : x = 48 ∨ x = 49
          · obtain ⟨u, hu⟩ : ∃ u, vs[j]? = some u := ⟨vs[j]'(by omega), by simp [show j < vs.length by omega]⟩
            have c0 := HY2.out.cell j
            rw [hu] at c0
            have f0 := HY2.out.fz j
            obtain ⟨v, HVV⟩ : ∃ z : Bool, Hid (decide (x = 49) = z) := ⟨_, rfl⟩
            have HYN : Hid (Yx (w3.setCell ⟨g, j, none⟩ (.bool v)) g 4 (vs.set j (.bool v))) := HY2.out.set j _
            have HBN : Hid (Below w.heap.size w (w3.setCell ⟨g, j, none⟩ (.bool v))) := HB2.out.setCell (p := ⟨g, j, none⟩) HLO.out.2 _
            have HIN : Hid (It (w3.setCell ⟨g, j, none⟩ (.bool v)) ig S (j + 1)) := HI2.out.oth (by omega)
            have HBS : Hid (btp (l.take (j + 1)) = some (bs ++ [v]) ∧ (bs ++ [v]).length = j + 1 ∧ ∀ i, i < j + 1 → (vs.set j (.bool v))[i]? = some (.bool ((bs ++ [v]).getD i false))) := by
              refine ⟨by rw [HN2.out.1 hb, HVV.out], by rw [List.length_append, HB.out.2.1]; rfl, fun i hi => ?_⟩
              have hbl := HB.out.2.1
              by_cases e : i = j
              · subst e
                rw [List.getElem?_set_self (by omega)]
                congr 2
                simp [List.getD, hbl]
              · rw [List.getElem?_set_ne (by omega), HB.out.2.2 i (by omega)]
                congr 2
                simp [List.getD, List.getElem?_append_left (show i < bs.length by omega)]
            have hvl2 : (vs.set j (.bool v)).length = n := by rw [List.length_set]; exact hvl
            rcases hb with rfl | rfl
            · obtain rfl : v = false := HVV.out.symm
              rw [show ((48 : Nat) : Int) = 48 from rfl] at hnx
              clear hu HY2 HB2 HN2 HB
              go_wp2_with fail
              go_roundw
              case rel => exact ⟨j + 1, bs ++ [false], _, by omega, HYN, hvl2, HBS, HIN, HBN⟩
              case measure => rw [HIN.out.pos, HP1.out]; omega
            · obtain rfl : v = true := HVV.out.symm
              rw [show ((49 : Nat) : Int) = 49 from rfl] at hnx
              clear hu HY2 HB2 HN2 HB
              go_wp2_with fail
              go_roundw
              case rel => exact ⟨j + 1, bs ++ [true], _, by omega, HYN, hvl2, HBS, HIN, HBN⟩
              case measure => rw [HIN.out.pos, HP1.out]; omega
          · have HE := hid (HVN.out (HN2.out.2 hb))
            have e1 : ((x : Int) == 48) = false := by simp; omega
            have e2 : ((x : Int) == 49) = false := by simp; omega
            have e3 : ¬ (x : Int) = 48 := by omega
            have e4 : ¬ (x : Int) = 49 := by omega
            have e5 : ((x : Int) != 48) = true := by simp; omega
            have e6 : ((x : Int) != 49) = true := by simp; omega
            clear HY2 HN2 HB hb
            go_wp2_with fail
            go_ret2
            exact ⟨HE.out _, HB2.out⟩
        · obtain ⟨R, p, hR, _, hnx⟩ := HNH.out j hlf wr _ HI.out (by rw [HX.out]; omega)
          have HB2 : Hid (Below w.heap.size w (wr.iterAt ig S p)) := Lib.below_iterAt HBL.out HLO.out.1 S p
          have HE := hid (HVN.out (HN2.out.2 (by omega)))
          have e1 : ((R : Int) == 48) = false := by simp; omega
          have e2 : ((R : Int) == 49) = false := by simp; omega
          have e3 : ¬ (R : Int) = 48 := by omega
          have e4 : ¬ (R : Int) = 49 := by omega
          have e5 : ((R : Int) != 48) = true := by simp; omega
          have e6 : ((R : Int) != 49) = true := by simp; omega
          clear HY HI HBL HN2 HB hlf
          generalize wr.iterAt ig S p = w3 at *
          go_wp2_with fail
          go_ret2
          exact ⟨HE.out _, HB2.out⟩
      · obtain rfl : j = n := by omega
        have hie : It wr ig S l.length := by rw [HN.out]; exact HI.out
        have hnx := HNE.out wr _ hie
        have HF : Hid (RbV w l (.returned (.tuple #[.slice (some ⟨g, 0, none⟩) j j, .int .i64 0])) wr) := by
          obtain ⟨h1, h2, h3⟩ := HB.out
          rw [← HN.out, List.take_length] at h1
          exact HVS.out bs h1 wr vs HY.out h2 h3
        clear HB HY HVS HVN HI hie
        go_wp2_with fail
        go_ret2
        exact ⟨HF.out, HBL.out⟩
end Go.Proofs.YtkeogggeefnoeaaGreatDoor
namespace Go.Proofs.YtkeogggeefnoeaaGreatDoor
set_option linter.unusedSimpArgs false
open Go.RowKit Go.Shelf
set_option linter.unusedVariables false
set_option maxRecDepth 100000
attribute [local go_sem] Oper.semAt_some

/-! Reading: pairs of words. -/
/-- What a round must keep of the two boxes that Chunk reads. -/
def KC (B1 B2 : Nat) (W W' : World) : Prop := W'.heap[B1]? = W.heap[B1]? ∧ W'.heap[B2]? = W.heap[B2]?
theorem KC.trans {B1 B2 : Nat} {A B C : World} (h : KC B1 B2 A B) (k : KC B1 B2 B C) : KC B1 B2 A C := ⟨k.1.trans h.1, k.2.trans h.2⟩
theorem KC.b {B1 B2 : Nat} {w : World} (h1 : B1 < w.heap.size) (h2 : B2 < w.heap.size) (W : World) (l : Nat) (o o' : Obj) (hl : w.heap.size ≤ l) (h : W.heap[l]? = some o) (hc : o.isCells = false) (hw : o.isWalk = false) : KC B1 B2 W (W.putObj l o') := ⟨World.putObj_heap_other (by omega), World.putObj_heap_other (by omega)⟩
/-- The i-th pair. -/
def ckv (b off i : Nat) : Value := .slice (some ⟨b, off + 2 * i, none⟩) 2 2
theorem fins_next {K k : Nat} (h : k < K) : (List.finRange K).take (k + 1) = (List.finRange K).take k ++ [⟨k, h⟩] := by
  rw [List.take_succ_eq_append_getElem (by simpa using h)]
  simp
set_option maxHeartbeats 2000000 in
theorem chunk1_in (m : Nat) (hm : 1 ≤ m) (lp B1 B2 b off n c K : Nat) (hK : n = 2 * K) (hn : n ≤ 4000000) (hnc : n ≤ c) (hcm : c ≤ maxLen) (J Jx : List (Fin K) → World → Prop) (W : World) (hA : AbidesFrom W.heap.size J)
    (hY : ∀ pre x W1, J pre W1 → pre.length < K → YieldAt Fence.wide (m - 1) Tryz.prog lp #[ckv b off x.1] W1 fun e W' => (e = .returned (.bool true) ∧ J (pre ++ [x]) W' ∧ KC B1 B2 W1 W') ∨ (e = .returned (.bool false) ∧ Jx (pre ++ [x]) W'))
    (c1 : W.cell? ⟨B1, 0, none⟩ = some (.slice (some ⟨b, off, none⟩) n c)) (c2 : W.cell? ⟨B2, 0, none⟩ = some (.int .i64 2)) (h0 : J [] W) :
    CallsIn Fence.wide m Tryz.prog 133 #[.func (.yield lp) #[] #[], .pointer (some ⟨B1, 0, none⟩), .pointer (some ⟨B2, 0, none⟩)] W fun e W' => (∃ v, e = .returned v) ∧
      ((∃ ys, ys = List.finRange K ∧ J ys W') ∨ (∃ pre, pre <+: List.finRange K ∧ Jx pre W')) := by
  unfold maxLen at hcm
  have HA := hid fun pre W1 W2 (h : J pre W1) (hg : W1.grownBy W2 none) => hA pre W1 W2 none h hg (fun r e => by cases e)
  have HYY := hid hY
  have hmx : Tryz.prog.follows .mixedOrders = true := by kernel_rfl
  have HKK := hid hK
  clear hA hY hK
  refine callsIn_of_wp Tryz.func133 rfl trivial ?_ rfl
  simp only [Tryz.ntmps133, List.size_toArray, List.length_cons, List.length_nil, Nat.reduceAdd, Nat.reduceSub, Array.replicate_succ, Array.replicate_zero, List.push_toArray, List.append_toArray, List.nil_append, List.cons_append]
  gi_wp2
  gi_loopw [4, 5] (fun i _ wr => ∃ k : Nat, k ≤ K ∧ i = .int .i64 ((2 * k : Nat) : Int) ∧ J ((List.finRange K).take k) wr ∧ KC B1 B2 W wr) (fun i _ _ => (2 * K + 2 - intOf i).toNat)
  case atStart => exact ⟨0, Nat.zero_le _, rfl, h0, ⟨rfl, rfl⟩⟩
  case round =>
    obtain ⟨k, hk, rfl, hJs, hnx⟩ := hrel
    have d1 := (World.cell?_of_block (w := W) (a := ⟨B1, 0, none⟩) hnx.1).trans c1
    have d2 := (World.cell?_of_block (w := W) (a := ⟨B2, 0, none⟩) hnx.2).trans c2
    obtain ⟨M, HM⟩ : ∃ M, Hid (2 * k = M) := ⟨_, rfl⟩
    rw [HM.out]
    have hM := HM.out
    by_cases hl : k < K
    · have hK := HKK.out
      have hMn : (M : Int) < (n : Int) := by omega
      have hMc : ¬ c = M := by omega
      have i1 : (M : Int) ≤ (n : Int) := by omega
      have i2 : (n : Int) ≤ (c : Int) := by omega
      have e3 : min (2 : Int) ((n - M : Nat) : Int) = 2 := by omega
      obtain ⟨T, HT⟩ : ∃ T : Nat, Hid (M + 2 = T) := ⟨_, rfl⟩
      have hT := HT.out
      have e4 : (M : Int) + 2 = (T : Int) := by omega
      have i3 : (M : Int) ≤ (T : Int) := by omega
      have i4 : (T : Int) ≤ (c : Int) := by omega
      have i5 : ((T : Int) - (M : Int)).toNat = 2 := by omega
      have i6 : T - M = 2 := by omega
      have hTM : ¬ T = M := by omega
      have HLE : Hid (2 * k + 2 ≤ 2 * K) := by show _ ≤ _; omega
      clear hM hT hK
      have hJd := HA.out _ _ wr.drew hJs ⟨rfl, rfl, rfl, Nat.le_refl _, fun _ _ _ => rfl⟩
      have HB1 : Hid (KC B1 B2 W wr.drew) := hnx
      gi_wp2
      gi_region
      obtain ⟨fn, tmps, assign, body, hy, hR⟩ := HYY.out _ ⟨k, hl⟩ wr.drew hJd (by rw [List.length_take, List.length_finRange]; omega)
      unfold ckv at hy
      simp only at hy
      rw [HM.out] at hy
      clear hJd
      gi_wp2
      refine hR.mono ?_
      rintro e W3 (⟨rfl, hJ3, hk3⟩ | ⟨rfl, hJx3⟩)
      · have z2 := (World.cell?_of_block (w := wr.drew) (a := ⟨B2, 0, none⟩) hk3.2).trans d2
        obtain ⟨M2, HM2⟩ : ∃ M2 : Nat, Hid (2 * (k + 1) = M2) := ⟨_, rfl⟩
        have hM2 : (M : Int) + 2 = (M2 : Int) := by have := HM.out; have := HM2.out; omega
        have hM3 : M2 ≤ 2 * K := by have := HM2.out; have := HLE.out; omega
        clear hR hy d1 d2 e3 e4 i1 i2 i3 i4 i5 i6
        gi_wp2
        go_roundw
        case rel => exact ⟨k + 1, by omega, by rw [HM2.out], by rw [fins_next hl]; exact hJ3, KC.trans HB1.out hk3⟩
        case measure => simp [intOf]; omega
      · clear hR hy
        gi_wp2
        refine bodyPost_ret (results_none rfl _ _ _) rfl ?_
        exact ⟨⟨_, rfl⟩, .inr ⟨_, (by rw [← fins_next hl]; exact List.take_prefix _ _), hJx3⟩⟩
    · obtain rfl : k = K := by omega
      have hMn : ¬ (M : Int) < (n : Int) := by have := HKK.out; omega
      have hJF : J (List.finRange k) wr := by
        have e : (List.finRange k).take k = List.finRange k := List.take_of_length_le (by simp)
        rwa [e] at hJs
      clear hM hJs
      gi_wp2
      go_end0
      first
        | exact ⟨⟨_, rfl⟩, .inl ⟨_, rfl, hJF⟩⟩
        | exact ⟨⟨_, rfl⟩, .inl hJF⟩
set_option maxHeartbeats 1000000 in
theorem chunk1_nil (m : Nat) (lp B1 B2 : Nat) (a : Option Addr) (c : Nat) (J : List (Fin 0) → World → Prop) (W : World) (c1 : W.cell? ⟨B1, 0, none⟩ = some (.slice a 0 c)) (h0 : J [] W) :
    CallsIn Fence.wide m Tryz.prog 133 #[.func (.yield lp) #[] #[], .pointer (some ⟨B1, 0, none⟩), .pointer (some ⟨B2, 0, none⟩)] W fun e W' => (∃ v, e = .returned v) ∧ J [] W' := by
  refine callsIn_of_wp Tryz.func133 rfl trivial ?_ rfl
  simp only [Tryz.ntmps133, List.size_toArray, List.length_cons, List.length_nil, Nat.reduceAdd, Nat.reduceSub, Array.replicate_succ, Array.replicate_zero, List.push_toArray, List.append_toArray, List.nil_append, List.cons_append]
  gi_wp2
  gi_loopw [4, 5] (fun i _ wr => i = .int .i64 0 ∧ J [] wr ∧ wr.cell? ⟨B1, 0, none⟩ = some (.slice a 0 c)) (fun _ _ _ => 0)
  case atStart => exact ⟨rfl, h0, c1⟩
  case round =>
    obtain ⟨rfl, hJs, d1⟩ := hrel
    gi_wp2
    go_end0
    exact ⟨⟨_, rfl⟩, hJs⟩
theorem chunk_ (a : Option Addr) (n c : Nat) (w : World) :
    Calls Tryz.prog 112 #[.slice a n c, .int .i64 2] w fun e w' => e = .returned (.func (.func 133) #[] #[.pointer (some ⟨w.heap.size, 0, none⟩), .pointer (some ⟨w.heap.size + 1, 0, none⟩)]) ∧ w' = (w.alloc (.cells #[.slice a n c] 86)).alloc (.cells #[.int .i64 2] 3) := by
  have hmf : ∀ fn first cap w, (Instr.makeFunc fn first cap).run Tryz.prog w = .ok (.func fn first cap) w := fun _ _ _ _ => rfl
  have b2 := (Boxed.new (w.alloc (.cells #[.slice a n c] 86)) 3 (.int .i64 2)).cell
  rw [World.size_alloc] at b2
  go_enter Tryz.func112, Tryz.ntmps112
  go_wp2_with fail
  go_ret
  exact ⟨rfl, rfl⟩
/-- A pair's value, whatever came in. -/
def ckw (a : Option Addr) (i : Nat) : Value := match a with
  | some ad => ckv ad.block ad.off i
  | none => .slice none 0 0
theorem chunk1_stops (w0 W2 : World) (V : Nat → Prop) (a : Option Addr) (n p K B1 B2 : Nat) (ws : List (List Nat)) (h : Wv w0 V a n p ws) (hK : n = 2 * K) (hn : n ≤ 4000000) (h1 : B1 < W2.heap.size) (h2 : B2 < W2.heap.size)
    (c1 : W2.cell? ⟨B1, 0, none⟩ = some (.slice a n p)) (c2 : W2.cell? ⟨B2, 0, none⟩ = some (.int .i64 2)) :
    SeqStopsK Fence.wide 8 Tryz.prog 133 #[.pointer (some ⟨B1, 0, none⟩), .pointer (some ⟨B2, 0, none⟩)] (fun x : Fin K => #[ckw a x.1]) (KC B1 B2) (fun ys => ys = List.finRange K) (fun pre => pre <+: List.finRange K) K W2 := fun lp J Jx W hW hA _ hY hJ0 => by
  have d1 := (hW.cell (p := ⟨B1, 0, none⟩) h1).trans c1
  have d2 := (hW.cell (p := ⟨B2, 0, none⟩) h2).trans c2
  by_cases hz : K = 0
  · subst hz
    obtain rfl : n = 0 := by omega
    exact (chunk1_nil 8 lp B1 B2 a p J W d1 hJ0).mono fun e W' ⟨he, hj⟩ => ⟨he, .inl ⟨_, rfl, hj⟩⟩
  · obtain ⟨b, off, rfl, _⟩ := h.at (i := 0) (by omega)
    exact chunk1_in 8 (by omega) lp B1 B2 b off n p K hK hn h.np h.pm J Jx W hA hY d1 d2 hJ0
end Go.Proofs.YtkeogggeefnoeaaGreatDoor
