import Derived.Test.YtbdkmjjjafbaoaaV9
namespace Go.Proofs.Ytbdkmjjjafbaoaa
open Go.RowKit
set_option linter.unusedVariables false
set_option maxRecDepth 100000

/-! The document's window. -/
def Rr (w : World) (p : Nat) (F W : Int) (v : Value) : Prop := w.heap[p]? = some (.cells #[.int .u64 F, .int .i64 W, v] 57 (0, 0))
section
variable {w w' : World} {p : Nat} {F W : Int} {v : Value}
theorem Rr.c0 (k : Rr w p F W v) : w.cell? ⟨p, 0, none⟩ = some (.int .u64 F) := (cell_of_row _ _ 0 _ _ (0, 0) k).trans rfl
theorem Rr.c1 (k : Rr w p F W v) : w.cell? ⟨p, 1, none⟩ = some (.int .i64 W) := (cell_of_row _ _ 1 _ _ (0, 0) k).trans rfl
theorem Rr.c2 (k : Rr w p F W v) : w.cell? ⟨p, 2, none⟩ = some v := (cell_of_row _ _ 2 _ _ (0, 0) k).trans rfl
theorem Rr.fz (k : Rr w p F W v) (i : Nat) : w.frozen? ⟨p, i, none⟩ = false := by unfold Rr at k; simp [World.frozen?, k]
theorem Rr.lt (k : Rr w p F W v) : p < w.heap.size := (Array.getElem?_eq_some_iff.1 k).1
theorem Rr.at (k : Rr w p F W v) (e : w'.heap[p]? = w.heap[p]?) : Rr w' p F W v := e.trans k
theorem Rr.s2 (k : Rr w p F W v) (x : Value) : Rr (w.setCell ⟨p, 2, none⟩ x) p F W x := by unfold Rr at *; simp [World.setCell, Array.getElem?_modify, k]
end
set_option maxHeartbeats 1000000 in
theorem rfloor_ (p : Nat) (F W : Int) (v : Value) (w : World) (k : Rr w p F W v) :
    Calls Try.prog 22 #[.pointer (some ⟨p, 0, none⟩)] w fun e w' => e = .returned (.int .u64 F) ∧ w' = w := by
  have c0 := k.c0
  clear k
  go_enter Try.func22, Try.ntmps22
  go_wp2_with fail
  go_ret
  exact ⟨rfl, rfl⟩
set_option maxHeartbeats 2000000 in
theorem rtakes_ (w0 : World) (p : Nat) (F : Int) (m : Nat) (v : Value) (T : List Int) (c : Int) (w : World) (k : Rr w p F (64 * (m : Int)) v) (hu : Uo w0 w v T) (hT : ∀ t ∈ T, u64r t) (hl : T.length ≤ 100000) (h1 : 1 ≤ m) (h2 : m ≤ 16) (hc : u64r c) (hF : u64r F) {Q : Bool} (hQ : tkB F (64 * (m : Int)) T c = Q) :
    Calls Try.prog 20 #[.pointer (some ⟨p, 0, none⟩), .int .u64 c] w fun e w' => e = .returned (.bool Q) ∧ w' = w := by
  obtain ⟨av, cv, hv, hf⟩ := hu.form
  obtain ⟨L, hL⟩ : ∃ L, T.length = L := ⟨_, rfl⟩
  rw [hL] at hv hf hl
  subst hv
  obtain ⟨W, hW⟩ : ∃ W, 64 * (m : Int) = W := ⟨_, rfl⟩
  rw [hW] at k hQ
  have hW2 : 64 ≤ W ∧ W ≤ 1024 := by omega
  have hcv : IntKind.u64.wrap W = W := by rw [IntKind.wrap_u64]; omega
  have c0 := k.c0
  have c1 := k.c1
  have c2 := k.c2
  have HC := hid hc
  have HT := hid hT
  have HF := hid hf
  have HQ := hid hQ
  have HL := hid hL
  unfold u64r at hc hF
  clear k hu hT hf hQ hL h1 h2 hW
  go_enter Try.func20, Try.ntmps20
  go_wp2_with fail
  go_loopw [5] (fun i wr => ∃ j : Nat, j ≤ L ∧ i = .int .i64 j ∧ wr = w ∧ Hid (∀ t ∈ T.take j, t ≠ c ∧ t < c + W)) (fun i _ => L - (intOf i).toNat)
  case atStart => exact ⟨0, by omega, rfl, rfl, fun t ht => by simp at ht⟩
  case round =>
    obtain ⟨j, hj, rfl, rfl, HP⟩ := hrel
    by_cases hlt : j < L
    · have hjI : (j : Int) < L := by omega
      have hmem : T.getD j 0 ∈ T := by rw [show T.getD j 0 = T[j]'(by rw [HL.out]; exact hlt) from by simp [List.getD, show j < T.length by rw [HL.out]; exact hlt]]; exact List.getElem_mem _
      have htr := HT.out _ hmem
      have HNX : Hid (T.getD j 0 ≠ c → T.getD j 0 < c + W → ∀ t ∈ T.take (j + 1), t ≠ c ∧ t < c + W) := fun a b t ht => by
        have e := List.take_append_getElem (l := T) (i := j) (by rw [HL.out]; exact hlt)
        rw [← e] at ht
        rcases List.mem_append.1 ht with q | q
        · exact HP.out t q
        · have e2 : t = T.getD j 0 := by rw [List.mem_singleton.1 q]; simp [List.getD, show j < T.length by rw [HL.out]; exact hlt]
          rw [e2]; exact ⟨a, b⟩
      have HNO : Hid (¬ (T.getD j 0 ≠ c ∧ T.getD j 0 < c + W) → false = Q) := fun h => by
        rw [← HQ.out]; exact (tk_false.2 fun q => h (q.2 _ hmem)).symm
      obtain ⟨b, rfl, hcells⟩ : ∃ b, av = some ⟨b, 0, none⟩ ∧ ∀ i, i < L → wr.cell? ⟨b, i, none⟩ = some (.int .u64 (T.getD i 0)) := by
        rcases HF.out with h | h
        · omega
        · exact h
      have hcell := hcells j hlt
      obtain ⟨t, Ht⟩ : ∃ t, Hid (T.getD j 0 = t) := ⟨_, rfl⟩
      rw [Ht.out] at hcell htr HNX HNO
      unfold u64r at htr
      clear hmem hcells
      by_cases q1 : t = c
      · have q1b : (t == c) = true := by simp [q1]
        have hq := HNO.out (fun h => h.1 q1)
        subst hq
        have HQ1 := hid q1
        clear q1
        go_wp2_with fail
        go_ret
        exact ⟨rfl, rfl⟩
      · have q1b : (t == c) = false := by simp [q1]
        by_cases q2 : c < t
        · have hsub : IntKind.u64.wrap (t - c) = t - c := by rw [IntKind.wrap_u64]; omega
          by_cases q3 : W ≤ t - c
          · have hq := HNO.out (fun h => by omega)
            subst hq
            clear q1
            go_wp2_with fail
            go_ret
            exact ⟨rfl, rfl⟩
          · have HN := hid (HNX.out q1 (by omega))
            clear q1
            go_wp2_with fail
            go_roundw
            case rel => exact ⟨j + 1, by omega, by go_num, (by trivial), HN⟩
            case measure => simp [intOf]; omega
        · have HN := hid (HNX.out q1 (by omega))
          clear q1
          go_wp2_with fail
          go_roundw
          case rel => exact ⟨j + 1, by omega, by go_num, (by trivial), HN⟩
          case measure => simp [intOf]; omega
    · have hjI : ¬ (j : Int) < L := by omega
      have hq : decide (F ≤ c) = Q := by
        rw [← HQ.out]
        by_cases e : F ≤ c
        · rw [decide_eq_true e]
          exact (tk_iff.2 ⟨e, fun t ht => HP.out t (by rw [List.take_of_length_le (by rw [HL.out]; omega)]; exact ht)⟩).symm
        · rw [decide_eq_false e]
          exact (tk_low (by omega)).symm
      subst hq
      clear hlt
      go_wp2_with fail
      go_ret
      exact ⟨rfl, rfl⟩
set_option maxHeartbeats 2000000 in
theorem rtop_ (w0 : World) (p : Nat) (F W : Int) (v : Value) (T : List Int) (w : World) (k : Rr w p F W v) (hu : Uo w0 w v T) (hT : ∀ t ∈ T, u64r t) (hl : T.length ≤ 100000) {tp : Int} (htp : topI T = tp) {q : Bool} (hq : decide (T ≠ []) = q) :
    Calls Try.prog 21 #[.pointer (some ⟨p, 0, none⟩)] w fun e w' => e = .returned (.tuple #[.int .u64 tp, .bool q]) ∧ ∃ nq, w' = w.drewN nq := by
  obtain ⟨av, cv, hv, hf⟩ := hu.form
  obtain ⟨L, hL⟩ : ∃ L, T.length = L := ⟨_, rfl⟩
  have hq2 : decide ((0 : Int) < L) = q := by rw [← hq, ← hL]; cases T <;> simp <;> omega
  rw [hL] at hv hf hl
  subst hv
  have c2 := k.c2
  have HT := hid hT
  have HF := hid hf
  have HTP := hid htp
  have HL := hid hL
  clear k hu hT hf hq hL htp
  go_enter Try.func21, Try.ntmps21
  go_wp2_with fail
  go_loopw [5, 4] (fun i tv wr => ∃ (j : Nat) (s : Int), j ≤ L ∧ i = .int .i64 j ∧ tv = .int .u64 s ∧ wr = w ∧ Hid (topI (T.take j) = s)) (fun i _ _ => L - (intOf i).toNat)
  case atStart => exact ⟨0, 0, by omega, rfl, rfl, rfl, rfl⟩
  case round =>
    obtain ⟨j, s, hj, rfl, rfl, rfl, HS⟩ := hrel
    by_cases hlt : j < L
    · have hjI : (j : Int) < L := by omega
      have htk : T.take (j + 1) = T.take j ++ [T.getD j 0] := by
        rw [show T.getD j 0 = T[j]'(by rw [HL.out]; exact hlt) from by simp [List.getD, show j < T.length by rw [HL.out]; exact hlt]]
        exact (List.take_append_getElem (l := T) (i := j) (by rw [HL.out]; exact hlt)).symm
      obtain ⟨b, rfl, hcells⟩ : ∃ b, av = some ⟨b, 0, none⟩ ∧ ∀ i, i < L → wr.cell? ⟨b, i, none⟩ = some (.int .u64 (T.getD i 0)) := by
        rcases HF.out with h | h
        · omega
        · exact h
      have hcell := hcells j hlt
      obtain ⟨t, Ht⟩ : ∃ t, Hid (T.getD j 0 = t) := ⟨_, rfl⟩
      rw [Ht.out] at hcell htk
      have HN : Hid (topI (T.take (j + 1)) = max s t) := by show _ = _; rw [htk, top_app, HS.out]
      clear hcells htk
      by_cases q1 : s < t
      · rw [show max s t = t by omega] at HN
        go_wp2_with fail
        go_roundw
        case rel => exact ⟨j + 1, t, by omega, by go_num, rfl, (by trivial), HN⟩
        case measure => simp [intOf]; omega
      · rw [show max s t = s by omega] at HN
        go_wp2_with fail
        go_roundw
        case rel => exact ⟨j + 1, s, by omega, by go_num, rfl, (by trivial), HN⟩
        case measure => simp [intOf]; omega
    · have hjI : ¬ (j : Int) < L := by omega
      have hs : s = tp := by rw [← HS.out, ← HTP.out, List.take_of_length_le (by rw [HL.out]; omega)]
      subst hs
      subst hq2
      clear hlt
      go_wp2_with fail
      go_quiet (fail)
      go_wp2_with fail
      go_ret2
      exact ⟨by first | rfl | simp, _, rfl⟩
theorem rnew_cells (w : World) (F W : Int) : Rr (w.alloc (.cells #[.int .u64 F, .int .i64 W, .slice none 0 0] 57)) w.heap.size F W (.slice none 0 0) := heap_alloc_new w _
set_option maxHeartbeats 1000000 in
theorem rnew_no (F width : Int) (w : World) (hw : i64r width) (h : ¬ fitP width) :
    Calls Try.prog 18 #[.int .u64 F, .int .i64 width] w fun e w' => e = .returned (.pointer none) ∧ w' = w := by
  unfold fitP at h
  unfold i64r at hw
  by_cases h1 : width < 64
  · clear h
    go_enter Try.func18, Try.ntmps18
    go_wp2_with fail
    go_ret
    exact ⟨rfl, rfl⟩
  by_cases h2 : 1024 < width
  · clear h
    go_enter Try.func18, Try.ntmps18
    go_wp2_with fail
    go_ret
    exact ⟨rfl, rfl⟩
  have h3b : (width % 64 != 0) = true := by simp; omega
  clear h
  go_enter Try.func18, Try.ntmps18
  go_wp2_with fail
  go_ret
  exact ⟨rfl, rfl⟩
def RNewP (w : World) (F W : Int) (e : Ending) (w' : World) : Prop := e = .returned (.pointer (some ⟨w.heap.size, 0, none⟩)) ∧ w' = w.alloc (.cells #[.int .u64 F, .int .i64 W, .slice none 0 0] 57)
set_option maxHeartbeats 1000000 in
theorem rnew_yes (F width : Int) (w : World) (h : fitP width) :
    Calls Try.prog 18 #[.int .u64 F, .int .i64 width] w (RNewP w F width) := by
  unfold fitP at h
  have a1 : ¬ width < 64 := by omega
  have a2 : ¬ 1024 < width := by omega
  have a3 : (width % 64 != 0) = false := by simp; omega
  clear h
  go_enter Try.func18, Try.ntmps18
  go_wp2_with fail
  go_ret
  exact ⟨rfl, rfl⟩
end Go.Proofs.Ytbdkmjjjafbaoaa
