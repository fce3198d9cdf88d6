import Derived.Test.YtcaecfdeieoenaaRB
namespace Go.Proofs.Ytcaecfdeieoenaa
set_option maxRecDepth 100000
open Go.RowKit
set_option linter.unusedVariables false

theorem num_ (e : Int) (w : World) : Calls Try.prog 20 #[.int .i64 e] w fun en w' => en = .returned (.int .i64 e) ∧ w' = w := by
  go_enter Try.func20, Try.ntmps20
  go_wp2_with fail
  go_ret
  exact ⟨rfl, rfl⟩
/-- One way of a list that came in. -/
def SL (q o : Nat) (x : Wy) (w0 w : World) : Prop := (w.cell? ⟨q, o, none⟩ = some (.int .i64 x.F) ∧ w.cell? ⟨q, o + 1, none⟩ = some (.int .u64 x.H) ∧ w.cell? ⟨q, o + 2, none⟩ = some (.int .u64 x.L) ∧ w.cell? ⟨q, o + 3, none⟩ = some (.int .i64 x.B) ∧ w.cell? ⟨q, o + 4, none⟩ = some (.int .i64 x.K)) ∧ Below w0.heap.size w0 w
theorem SL.kept {q o : Nat} {x : Wy} {w0 w w' : World} (h : SL q o x w0 w) (hb : Below w.heap.size w w') : SL q o x w0 w' := by
  obtain ⟨⟨c0, c1, c2, c3, c4⟩, b⟩ := h
  exact ⟨⟨cell_be8 hb c0, cell_be8 hb c1, cell_be8 hb c2, cell_be8 hb c3, cell_be8 hb c4⟩, bel_bel b b.size hb⟩
theorem SL.drew {q o : Nat} {x : Wy} {w0 w : World} (h : SL q o x w0 w) : SL q o x w0 w.drew := h.kept ⟨rfl, rfl, rfl, Nat.le_refl _, fun _ _ => rfl⟩
theorem lay_len : ∀ (m l : List Wy), (m.foldl lay1 l).length ≤ l.length + m.length
  | [], l => by simp
  | x :: m, l => by
    rw [List.foldl_cons, List.length_cons]
    have h1 := lay_len m (lay1 l x)
    have h2 : (lay1 l x).length ≤ l.length + 1 := by
      unfold lay1
      split
      · rw [length_ins]; omega
      · omega
    omega
theorem lay_le (m : List Wy) : (layL m).length ≤ m.length := by
  have := lay_len m []
  unfold layL
  simpa using this
set_option maxHeartbeats 4000000 in
theorem lay_ {Tr : World → Value → List Wy → Prop} (R : Rte Tr) (a : Option Addr) (m : List Wy) (c : Nat) (w : World) (hm : Ws w a m) (hnc : m.length ≤ c ∧ c ≤ maxLen) :
    Calls Try.prog 12 #[.slice a m.length c] w fun e w' => (∃ v, e = .returned v ∧ Tr w' v (layL (m.take 300))) ∧ Below w.heap.size w w' := by
  have HM := hid hm
  obtain ⟨hn, hc⟩ := hnc
  unfold maxLen at hc
  clear hm
  go_enter Try.func12, Try.ntmps12
  go_wp2_with fail
  refine (R.new_ w).mono ?_
  rintro e w1 ⟨⟨t0, rfl, ht0⟩, B1⟩
  have HT0 := hid ht0
  clear ht0
  go_wp2_with fail
  go_loopw [3, 4] (fun tv i wr => ∃ j : Nat, j ≤ m.length ∧ j ≤ 300 ∧ i = .int .i64 j ∧ Tr wr tv (layL (m.take j)) ∧ Below w.heap.size w wr) (fun _ i _ => 300 - (intOf i).toNat)
  case atStart => exact ⟨0, by omega, by omega, rfl, HT0.out, B1⟩
  case round =>
    clear HT0 B1
    obtain ⟨j, hj, hj3, rfl, ht, hB⟩ := hrel
    obtain ⟨ta, rfl⟩ := R.ptr ht
    have HT := hid ht
    clear ht
    by_cases hlt : j < m.length ∧ j < 300
    · obtain ⟨h1, h2⟩ := hlt
      have hI1 : (j : Int) < (m.length : Int) := by omega
      have hI2 : (j : Int) < 300 := by omega
      obtain ⟨x, hx⟩ : ∃ x, m[j]? = some x := ⟨_, List.getElem?_eq_getElem h1⟩
      have hxi := HM.out.1 x (List.mem_of_getElem? hx)
      obtain ⟨q, off, rfl, hq⟩ : ∃ q off, a = some ⟨q, off, none⟩ ∧ SL q (off + j * 5) x w w := by
        rcases HM.out.2 with h | ⟨q, off, e, h⟩
        · rw [h] at h1
          simp at h1
        · exact ⟨q, off, e, h j x hx, Below.refl _ _⟩
      have S0 : SL q (off + j * 5) x wr wr := ⟨⟨(hB.cell (World.block_lt_of_cell? _ _ hq.1.1)).trans hq.1.1, (hB.cell (World.block_lt_of_cell? _ _ hq.1.2.1)).trans hq.1.2.1, (hB.cell (World.block_lt_of_cell? _ _ hq.1.2.2.1)).trans hq.1.2.2.1, (hB.cell (World.block_lt_of_cell? _ _ hq.1.2.2.2.1)).trans hq.1.2.2.2.1, (hB.cell (World.block_lt_of_cell? _ _ hq.1.2.2.2.2)).trans hq.1.2.2.2.2⟩, Below.refl _ _⟩
      have hll : (layL (m.take j)).length ≤ 99999 := by have := lay_le (m.take j); rw [List.length_take] at this; omega
      have HN : Hid (layL (m.take (j + 1)) = lay1 (layL (m.take j)) x) := by
        show _ = _
        rw [← take_snoc hx, lay_snoc]
      clear hq hx
      have k1 : ∀ W, SL q (off + j * 5) x wr W → Calls Try.prog 19 #[.pointer (some ta), .agg #[.int .i64 x.F, .int .u64 x.H, .int .u64 x.L, .int .i64 x.B], .int .i64 x.K] W fun e w' => ((wE x (layL (m.take j)) ≠ 0 ∧ e = .returned (.tuple #[.pointer none, .int .i64 (wE x (layL (m.take j)))])) ∨ (wE x (layL (m.take j)) = 0 ∧ ∃ v', e = .returned (.tuple #[v', .int .i64 0]) ∧ Tr w' v' (ins x (layL (m.take j))))) ∧ Below W.heap.size W w' := fun W hW => R.with_ W _ _ x (R.kept HT.out hW.2) hxi hll
      go_wp2_with fail
      refine wp_region_held_drew (S := SL q (off + j * 5) x wr) (by kernel_rfl) S0.drew (fun hHeld => ?_)
      clear S0
      generalize wr.drew = w5 at *
      refine take_to8 0 23 (.pointer (some ta)) rfl rfl (by kernel_rfl) (by kernel_rfl) (by kernel_rfl) (fun _ _ _ h => h) (Or.inl ⟨by rfl, fun w' h => ?_⟩) hHeld ?_
      · obtain ⟨⟨a0, a1, a2, a3, a4⟩, _⟩ := h
        go_simp
      try simp only [List.setIfInBounds_toArray, List.set_cons_zero, List.set_cons_succ]
      refine take_to8 1 24 (.slice (some ⟨q, off, none⟩) m.length c) rfl rfl (by kernel_rfl) (by kernel_rfl) (by kernel_rfl) (fun _ _ _ h => h) (Or.inl ⟨by rfl, fun w' h => ?_⟩) hHeld ?_
      · obtain ⟨⟨a0, a1, a2, a3, a4⟩, _⟩ := h
        go_simp
      try simp only [List.setIfInBounds_toArray, List.set_cons_zero, List.set_cons_succ]
      refine take_to8 2 25 (.int .i64 j) rfl rfl (by kernel_rfl) (by kernel_rfl) (by kernel_rfl) (fun _ _ _ h => h) (Or.inl ⟨by rfl, fun w' h => ?_⟩) hHeld ?_
      · obtain ⟨⟨a0, a1, a2, a3, a4⟩, _⟩ := h
        go_simp
      try simp only [List.setIfInBounds_toArray, List.set_cons_zero, List.set_cons_succ]
      refine take_to8 3 26 (.pointer (some ⟨q, off + j * 5, none⟩)) rfl rfl (by kernel_rfl) (by kernel_rfl) (by kernel_rfl) (fun _ _ _ h => h) (Or.inl ⟨by rfl, fun w' h => ?_⟩) hHeld ?_
      · obtain ⟨⟨a0, a1, a2, a3, a4⟩, _⟩ := h
        go_simp
      try simp only [List.setIfInBounds_toArray, List.set_cons_zero, List.set_cons_succ]
      refine take_to8 4 27 (.pointer (some ⟨q, off + j * 5, none⟩)) rfl rfl (by kernel_rfl) (by kernel_rfl) (by kernel_rfl) (fun _ _ _ h => h) (Or.inl ⟨by rfl, fun w' h => ?_⟩) hHeld ?_
      · obtain ⟨⟨a0, a1, a2, a3, a4⟩, _⟩ := h
        go_simp
      try simp only [List.setIfInBounds_toArray, List.set_cons_zero, List.set_cons_succ]
      refine take_to8 5 28 (.agg #[.int .i64 x.F, .int .u64 x.H, .int .u64 x.L, .int .i64 x.B]) rfl rfl (by kernel_rfl) (by kernel_rfl) (by kernel_rfl) (fun _ _ _ h => h) (Or.inl ⟨by rfl, fun w' h => ?_⟩) hHeld ?_
      · obtain ⟨⟨a0, a1, a2, a3, a4⟩, _⟩ := h
        go_simp
      try simp only [List.setIfInBounds_toArray, List.set_cons_zero, List.set_cons_succ]
      refine take_to8 6 29 (.slice (some ⟨q, off, none⟩) m.length c) rfl rfl (by kernel_rfl) (by kernel_rfl) (by kernel_rfl) (fun _ _ _ h => h) (Or.inl ⟨by rfl, fun w' h => ?_⟩) hHeld ?_
      · obtain ⟨⟨a0, a1, a2, a3, a4⟩, _⟩ := h
        go_simp
      try simp only [List.setIfInBounds_toArray, List.set_cons_zero, List.set_cons_succ]
      refine take_to8 7 30 (.int .i64 j) rfl rfl (by kernel_rfl) (by kernel_rfl) (by kernel_rfl) (fun _ _ _ h => h) (Or.inl ⟨by rfl, fun w' h => ?_⟩) hHeld ?_
      · obtain ⟨⟨a0, a1, a2, a3, a4⟩, _⟩ := h
        go_simp
      try simp only [List.setIfInBounds_toArray, List.set_cons_zero, List.set_cons_succ]
      refine take_to8 8 31 (.pointer (some ⟨q, off + j * 5, none⟩)) rfl rfl (by kernel_rfl) (by kernel_rfl) (by kernel_rfl) (fun _ _ _ h => h) (Or.inl ⟨by rfl, fun w' h => ?_⟩) hHeld ?_
      · obtain ⟨⟨a0, a1, a2, a3, a4⟩, _⟩ := h
        go_simp
      try simp only [List.setIfInBounds_toArray, List.set_cons_zero, List.set_cons_succ]
      refine take_to8 9 32 (.pointer (some ⟨q, off + j * 5 + 4, none⟩)) rfl rfl (by kernel_rfl) (by kernel_rfl) (by kernel_rfl) (fun _ _ _ h => h) (Or.inl ⟨by rfl, fun w' h => ?_⟩) hHeld ?_
      · obtain ⟨⟨a0, a1, a2, a3, a4⟩, _⟩ := h
        go_simp
      try simp only [List.setIfInBounds_toArray, List.set_cons_zero, List.set_cons_succ]
      refine take_to8 10 33 (.int .i64 x.K) rfl rfl (by kernel_rfl) (by kernel_rfl) (by kernel_rfl) (fun _ _ _ h => h) (Or.inl ⟨by rfl, fun w' h => ?_⟩) hHeld ?_
      · obtain ⟨⟨a0, a1, a2, a3, a4⟩, _⟩ := h
        go_simp
      try simp only [List.setIfInBounds_toArray, List.set_cons_zero, List.set_cons_succ]
      refine wpAnyH_ready (rs := [11]) (by kernel_rfl) (by simp) ?_
      refine AllReadyH.cons rfl (fun K' hK' => ?_) AllReadyH.nil
      rw [if_pos (by rfl)]
      have k2 := k1 _ hHeld
      clear k1
      generalize hE : wE x (layL (m.take j)) = E at *
      go_wp2_with fail
      refine k2.mono ?_
      rintro e w6 ⟨hr, g6⟩
      have hS6 := hHeld.kept g6
      clear hHeld k2
      rcases hr with ⟨hne, rfl⟩ | ⟨rfl, v', rfl, hT6⟩
      · have HL : Hid (lay1 (layL (m.take j)) x = layL (m.take j)) := by
          show _ = _
          unfold lay1
          rw [if_neg (by rw [hE]; exact hne)]
        clear hE
        try go_wp2_with fail
        refine hK'.out _ _ hS6 (fun hHeld => ?_)
        clear hK' K' hS6
        try simp only [Act.put, List.setIfInBounds_toArray, List.set_cons_zero, List.set_cons_succ]
        refine take_to8 12 22 (.tuple #[.pointer none, .int .i64 E]) rfl rfl (by kernel_rfl) (by kernel_rfl) (by kernel_rfl) (fun _ _ _ h => h) (Or.inl ⟨by rfl, fun w' h => ?_⟩) hHeld ?_
        · obtain ⟨⟨a0, a1, a2, a3, a4⟩, _⟩ := h
          go_simp
        try simp only [List.setIfInBounds_toArray, List.set_cons_zero, List.set_cons_succ]
        refine take_to8 13 35 (.pointer none) rfl rfl (by kernel_rfl) (by kernel_rfl) (by kernel_rfl) (fun _ _ _ h => h) (Or.inl ⟨by rfl, fun w' h => ?_⟩) hHeld ?_
        · obtain ⟨⟨a0, a1, a2, a3, a4⟩, _⟩ := h
          go_simp
        try simp only [List.setIfInBounds_toArray, List.set_cons_zero, List.set_cons_succ]
        refine take_to8 14 36 (.int .i64 E) rfl rfl (by kernel_rfl) (by kernel_rfl) (by kernel_rfl) (fun _ _ _ h => h) (Or.inl ⟨by rfl, fun w' h => ?_⟩) hHeld ?_
        · obtain ⟨⟨a0, a1, a2, a3, a4⟩, _⟩ := h
          go_simp
        try simp only [List.setIfInBounds_toArray, List.set_cons_zero, List.set_cons_succ]
        refine take_to8 15 5 (.pointer none) rfl rfl (by kernel_rfl) (by kernel_rfl) (by kernel_rfl) (fun _ _ _ h => h) (Or.inl ⟨by rfl, fun w' h => ?_⟩) hHeld ?_
        · obtain ⟨⟨a0, a1, a2, a3, a4⟩, _⟩ := h
          go_simp
        try simp only [List.setIfInBounds_toArray, List.set_cons_zero, List.set_cons_succ]
        refine take_to8 16 6 (.int .i64 E) rfl rfl (by kernel_rfl) (by kernel_rfl) (by kernel_rfl) (fun _ _ _ h => h) (Or.inl ⟨by rfl, fun w' h => ?_⟩) hHeld ?_
        · obtain ⟨⟨a0, a1, a2, a3, a4⟩, _⟩ := h
          go_simp
        try simp only [List.setIfInBounds_toArray, List.set_cons_zero, List.set_cons_succ]
        refine wpAnyH_done (by kernel_rfl) ?_ _
        have hB6 := bel_bel hB hB.size hHeld.2
        have hT6 := R.kept HT.out hHeld.2
        go_wp2_with fail
        refine (num_ _ _).mono ?_
        rintro e w7 ⟨rfl, rfl⟩
        have hEb : (E == 0) = false := by simpa using hne
        go_wp2_with fail
        go_roundw
        case rel => exact ⟨j + 1, by omega, by omega, rfl, by rw [HN.out, HL.out]; exact hT6, hB6⟩
        case measure => simp [intOf]; omega
      · have HL : Hid (lay1 (layL (m.take j)) x = ins x (layL (m.take j))) := by
          show _ = _
          unfold lay1
          rw [if_pos hE]
        obtain ⟨tb, rfl⟩ := R.ptr hT6
        have HT6 := hid hT6
        clear hE hT6
        try go_wp2_with fail
        refine hK'.out _ _ hS6 (fun hHeld => ?_)
        clear hK' K' hS6
        try simp only [Act.put, List.setIfInBounds_toArray, List.set_cons_zero, List.set_cons_succ]
        refine take_to8 12 22 (.tuple #[.pointer (some tb), .int .i64 0]) rfl rfl (by kernel_rfl) (by kernel_rfl) (by kernel_rfl) (fun _ _ _ h => h) (Or.inl ⟨by rfl, fun w' h => ?_⟩) hHeld ?_
        · obtain ⟨⟨a0, a1, a2, a3, a4⟩, _⟩ := h
          go_simp
        try simp only [List.setIfInBounds_toArray, List.set_cons_zero, List.set_cons_succ]
        refine take_to8 13 35 (.pointer (some tb)) rfl rfl (by kernel_rfl) (by kernel_rfl) (by kernel_rfl) (fun _ _ _ h => h) (Or.inl ⟨by rfl, fun w' h => ?_⟩) hHeld ?_
        · obtain ⟨⟨a0, a1, a2, a3, a4⟩, _⟩ := h
          go_simp
        try simp only [List.setIfInBounds_toArray, List.set_cons_zero, List.set_cons_succ]
        refine take_to8 14 36 (.int .i64 0) rfl rfl (by kernel_rfl) (by kernel_rfl) (by kernel_rfl) (fun _ _ _ h => h) (Or.inl ⟨by rfl, fun w' h => ?_⟩) hHeld ?_
        · obtain ⟨⟨a0, a1, a2, a3, a4⟩, _⟩ := h
          go_simp
        try simp only [List.setIfInBounds_toArray, List.set_cons_zero, List.set_cons_succ]
        refine take_to8 15 5 (.pointer (some tb)) rfl rfl (by kernel_rfl) (by kernel_rfl) (by kernel_rfl) (fun _ _ _ h => h) (Or.inl ⟨by rfl, fun w' h => ?_⟩) hHeld ?_
        · obtain ⟨⟨a0, a1, a2, a3, a4⟩, _⟩ := h
          go_simp
        try simp only [List.setIfInBounds_toArray, List.set_cons_zero, List.set_cons_succ]
        refine take_to8 16 6 (.int .i64 0) rfl rfl (by kernel_rfl) (by kernel_rfl) (by kernel_rfl) (fun _ _ _ h => h) (Or.inl ⟨by rfl, fun w' h => ?_⟩) hHeld ?_
        · obtain ⟨⟨a0, a1, a2, a3, a4⟩, _⟩ := h
          go_simp
        try simp only [List.setIfInBounds_toArray, List.set_cons_zero, List.set_cons_succ]
        refine wpAnyH_done (by kernel_rfl) ?_ _
        have hB6 := bel_bel hB hB.size hHeld.2
        go_wp2_with fail
        refine (num_ _ _).mono ?_
        rintro e w7 ⟨rfl, rfl⟩
        go_wp2_with fail
        go_roundw
        case rel => exact ⟨j + 1, by omega, by omega, rfl, by rw [HN.out, HL.out]; exact HT6.out, hB6⟩
        case measure => simp [intOf]; omega
    · have HD : Hid (m.take j = m.take 300) := by
        show _ = _
        rcases Nat.lt_or_ge j 300 with h | h
        · have : j = m.length := by omega
          rw [this, List.take_length, List.take_of_length_le (by omega)]
        · rw [show j = 300 by omega]
      rcases Nat.lt_or_ge j m.length with h | h
      · have hI1 : (j : Int) < (m.length : Int) := by omega
        have hI2 : ¬ (j : Int) < 300 := by omega
        go_wp2_with fail
        go_ret
        exact ⟨⟨_, rfl, by rw [← HD.out]; exact HT.out⟩, hB⟩
      · have hI1 : ¬ (j : Int) < (m.length : Int) := by omega
        go_wp2_with fail
        go_ret
        exact ⟨⟨_, rfl, by rw [← HD.out]; exact HT.out⟩, hB⟩
end Go.Proofs.Ytcaecfdeieoenaa
