import Derived.Test.YtcbmgpmjnehjdaaGreatP3
import Derived.Deep.RegionHeld
namespace Go.Proofs.YtcbmgpmjnehjdaaGreat
set_option maxRecDepth 100000
open Go.RowKit
set_option linter.unusedVariables false

/-- What yields its value in every world that meets S may be taken first. -/
theorem take_to {ops : Array Oper} {Q : Exit → Act → World → Prop} {md : Region.Mode} {S : World → Prop} {oi : Oper} {fuel : Nat} {listed : Array Bool} {a : Act} {w : World} (i d : Nat) (v : Value) (hi : ops[i]? = some oi) (hd : oi.dst = some d)
    (hs : Region.noSelect ops = true) (hf : Region.free md ops listed i = true) (hr : (Region.ready md ops listed).contains i = true)
    (hQ : ∀ c a w, Q (.panic c) (a.put oi.dst v) w → Q (.panic c) a w) (hy : YieldsIf Tryz.prog ops S oi v a) (hS : S w)
    (h : wpAnyH Tryz.prog md ops Q S fuel (listed.setIfInBounds i true) ⟨a.tmps.setIfInBounds d v, a.defers⟩ w) : wpAnyH Tryz.prog md ops Q S (fuel + 1) listed a w :=
  wpAnyH_take hi hs hf hr hQ hy hS (by rw [hd]; exact h)
theorem bel_drew1 {B : Nat} {a b : World} (h : Below B a b) : Below B a b.drew := h.trans ⟨rfl, rfl, rfl, Nat.le_refl _, fun _ _ => rfl⟩
theorem Pm.drew {w : World} {g : Nat} {F H L B : Int} (h : Pm w g F H L B) : Pm w.drew g F H L B := h
theorem Am.drew {w : World} {g : Nat} {F H L : Int} (h : Am w g F H L) : Am w.drew g F H L := h
theorem refOrder_ (a b : Int) (w : World) : Calls Tryz.prog 167 #[.int .u64 a, .int .u64 b] w fun e w' => e = .returned (.int .i64 (od a b)) ∧ w' = w := by
  go_enter Tryz.func167, Tryz.ntmps167
  go_wp2_with fail
  all_goals
    go_ret
    refine ⟨?_, rfl⟩
    unfold od
    first
      | (rw [if_pos (by omega)]; rfl)
      | (rw [if_neg (by omega), if_pos (by omega)]; rfl)
      | (rw [if_neg (by omega), if_neg (by omega)]; rfl)
theorem refOrderInt_ (a b : Int) (w : World) : Calls Tryz.prog 166 #[.int .i64 a, .int .i64 b] w fun e w' => e = .returned (.int .i64 (od a b)) ∧ w' = w := by
  go_enter Tryz.func166, Tryz.ntmps166
  go_wp2_with fail
  all_goals
    go_ret
    refine ⟨?_, rfl⟩
    unfold od
    first
      | (rw [if_pos (by omega)]; rfl)
      | (rw [if_neg (by omega), if_pos (by omega)]; rfl)
      | (rw [if_neg (by omega), if_neg (by omega)]; rfl)
theorem od_zero (a b : Int) : od a b = 0 ↔ a = b := by
  unfold od
  split
  · constructor <;> intro h <;> omega
  · split <;> constructor <;> intro h <;> omega
def x4 (x0 x1 x2 x3 : Int) (j : Nat) : Int := if j = 0 then x0 else if j = 1 then x1 else if j = 2 then x2 else x3
theorem x4_first {x0 x1 x2 x3 : Int} (j : Nat) (hj : j < 4) (h0 : ∀ q, q < j → x4 x0 x1 x2 x3 q = 0) (h : x4 x0 x1 x2 x3 j ≠ 0) : (if x0 ≠ 0 then x0 else if x1 ≠ 0 then x1 else if x2 ≠ 0 then x2 else x3) = x4 x0 x1 x2 x3 j := by
  have : j = 0 ∨ j = 1 ∨ j = 2 ∨ j = 3 := by omega
  rcases this with rfl | rfl | rfl | rfl
  · have h : x0 ≠ 0 := h
    rw [if_pos h]; rfl
  · have a0 : x0 = 0 := h0 0 (by omega)
    have h : x1 ≠ 0 := h
    rw [if_neg (not_not_intro a0), if_pos h]; rfl
  · have a0 : x0 = 0 := h0 0 (by omega)
    have a1 : x1 = 0 := h0 1 (by omega)
    have h : x2 ≠ 0 := h
    rw [if_neg (not_not_intro a0), if_neg (not_not_intro a1), if_pos h]; rfl
  · have a0 : x0 = 0 := h0 0 (by omega)
    have a1 : x1 = 0 := h0 1 (by omega)
    have a2 : x2 = 0 := h0 2 (by omega)
    rw [if_neg (not_not_intro a0), if_neg (not_not_intro a1), if_neg (not_not_intro a2)]; rfl
theorem x4_none {x0 x1 x2 x3 : Int} (h0 : ∀ q, q < 4 → x4 x0 x1 x2 x3 q = 0) : (if x0 ≠ 0 then x0 else if x1 ≠ 0 then x1 else if x2 ≠ 0 then x2 else x3) = 0 := by
  have a0 : x0 = 0 := h0 0 (by omega)
  have a1 : x1 = 0 := h0 1 (by omega)
  have a2 : x2 = 0 := h0 2 (by omega)
  have a3 : x3 = 0 := h0 3 (by omega)
  rw [if_neg (not_not_intro a0), if_neg (not_not_intro a1), if_neg (not_not_intro a2), a3]
theorem ppnew (w : World) (F H L B F' H' L' B' : Int) : Below w.heap.size w ((w.alloc (.cells #[.int .i64 F, .int .u64 H, .int .u64 L, .int .i64 B] 121)).alloc (.cells #[.int .i64 F', .int .u64 H', .int .u64 L', .int .i64 B'] 121)) ∧ Pm ((w.alloc (.cells #[.int .i64 F, .int .u64 H, .int .u64 L, .int .i64 B] 121)).alloc (.cells #[.int .i64 F', .int .u64 H', .int .u64 L', .int .i64 B'] 121)) w.heap.size F H L B ∧ Pm ((w.alloc (.cells #[.int .i64 F, .int .u64 H, .int .u64 L, .int .i64 B] 121)).alloc (.cells #[.int .i64 F', .int .u64 H', .int .u64 L', .int .i64 B'] 121)) (w.heap.size + 1) F' H' L' B' := by
  refine ⟨(pnew w F H L B).alloc (by simp) _, (Pm.new w F H L B).alloc _, ?_⟩
  have := Pm.new (w.alloc (.cells #[.int .i64 F, .int .u64 H, .int .u64 L, .int .i64 B] 121)) F' H' L' B'
  simpa using this
set_option maxHeartbeats 1000000 in
theorem refCompare_ (F H L B F' H' L' B' : Int) (w : World) :
    Calls Tryz.prog 143 #[.agg #[.int .i64 F, .int .u64 H, .int .u64 L, .int .i64 B], .agg #[.int .i64 F', .int .u64 H', .int .u64 L', .int .i64 B']] w fun e w' => e = .returned (.int .i64 (cp F H L B F' H' L' B')) ∧ Below w.heap.size w w' := by
  obtain ⟨B0, m0, m1⟩ := ppnew w F H L B F' H' L' B'
  go_enter Tryz.func143, Tryz.ntmps143
  go_wp2_with fail
  refine wp_region_held_drew (S := fun wx => Pm wx w.heap.size F H L B ∧ Pm wx (w.heap.size + 1) F' H' L' B') (by kernel_rfl) ⟨m0.drew, m1.drew⟩ (fun hHeld => ?_)
  replace m0 := m0.drew
  replace m1 := m1.drew
  replace B0 := bel_drew1 B0
  generalize ((w.alloc (.cells #[.int .i64 F, .int .u64 H, .int .u64 L, .int .i64 B] 121)).alloc (.cells #[.int .i64 F', .int .u64 H', .int .u64 L', .int .i64 B'] 121)).drew = wd at *
  refine take_to 0 7 (.pointer (some ⟨w.heap.size, 0, none⟩)) rfl rfl (by kernel_rfl) (by kernel_rfl) (by kernel_rfl) (fun _ _ _ h => h) (Or.inl ⟨by rfl, fun w' h => ?_⟩) hHeld ?_
  · go_simp
  try simp only [List.setIfInBounds_toArray, List.set_cons_zero, List.set_cons_succ]
  refine take_to 1 8 (.pointer (some ⟨w.heap.size, 0, none⟩)) rfl rfl (by kernel_rfl) (by kernel_rfl) (by kernel_rfl) (fun _ _ _ h => h) (Or.inl ⟨by rfl, fun w' h => ?_⟩) hHeld ?_
  · go_simp
  try simp only [List.setIfInBounds_toArray, List.set_cons_zero, List.set_cons_succ]
  refine take_to 2 9 (.int .i64 F) rfl rfl (by kernel_rfl) (by kernel_rfl) (by kernel_rfl) (fun _ _ _ h => h) (Or.inl ⟨by rfl, fun w' h => ?_⟩) hHeld ?_
  · have x0 := Pm.c0 h.1
    go_simp
  try simp only [List.setIfInBounds_toArray, List.set_cons_zero, List.set_cons_succ]
  refine take_to 3 10 (.pointer (some ⟨w.heap.size + 1, 0, none⟩)) rfl rfl (by kernel_rfl) (by kernel_rfl) (by kernel_rfl) (fun _ _ _ h => h) (Or.inl ⟨by rfl, fun w' h => ?_⟩) hHeld ?_
  · go_simp
  try simp only [List.setIfInBounds_toArray, List.set_cons_zero, List.set_cons_succ]
  refine take_to 4 11 (.pointer (some ⟨w.heap.size + 1, 0, none⟩)) rfl rfl (by kernel_rfl) (by kernel_rfl) (by kernel_rfl) (fun _ _ _ h => h) (Or.inl ⟨by rfl, fun w' h => ?_⟩) hHeld ?_
  · go_simp
  try simp only [List.setIfInBounds_toArray, List.set_cons_zero, List.set_cons_succ]
  refine take_to 5 12 (.int .i64 F') rfl rfl (by kernel_rfl) (by kernel_rfl) (by kernel_rfl) (fun _ _ _ h => h) (Or.inl ⟨by rfl, fun w' h => ?_⟩) hHeld ?_
  · have x0 := Pm.c0 h.2
    go_simp
  try simp only [List.setIfInBounds_toArray, List.set_cons_zero, List.set_cons_succ]
  refine take_to 7 14 (.pointer (some ⟨w.heap.size, 3, none⟩)) rfl rfl (by kernel_rfl) (by kernel_rfl) (by kernel_rfl) (fun _ _ _ h => h) (Or.inl ⟨by rfl, fun w' h => ?_⟩) hHeld ?_
  · go_simp
  try simp only [List.setIfInBounds_toArray, List.set_cons_zero, List.set_cons_succ]
  refine take_to 8 15 (.int .i64 B) rfl rfl (by kernel_rfl) (by kernel_rfl) (by kernel_rfl) (fun _ _ _ h => h) (Or.inl ⟨by rfl, fun w' h => ?_⟩) hHeld ?_
  · have x0 := Pm.c3 h.1
    go_simp
  try simp only [List.setIfInBounds_toArray, List.set_cons_zero, List.set_cons_succ]
  refine take_to 9 16 (.pointer (some ⟨w.heap.size + 1, 3, none⟩)) rfl rfl (by kernel_rfl) (by kernel_rfl) (by kernel_rfl) (fun _ _ _ h => h) (Or.inl ⟨by rfl, fun w' h => ?_⟩) hHeld ?_
  · go_simp
  try simp only [List.setIfInBounds_toArray, List.set_cons_zero, List.set_cons_succ]
  refine take_to 10 17 (.int .i64 B') rfl rfl (by kernel_rfl) (by kernel_rfl) (by kernel_rfl) (fun _ _ _ h => h) (Or.inl ⟨by rfl, fun w' h => ?_⟩) hHeld ?_
  · have x0 := Pm.c3 h.2
    go_simp
  try simp only [List.setIfInBounds_toArray, List.set_cons_zero, List.set_cons_succ]
  refine take_to 12 19 (.pointer (some ⟨w.heap.size, 0, none⟩)) rfl rfl (by kernel_rfl) (by kernel_rfl) (by kernel_rfl) (fun _ _ _ h => h) (Or.inl ⟨by rfl, fun w' h => ?_⟩) hHeld ?_
  · go_simp
  try simp only [List.setIfInBounds_toArray, List.set_cons_zero, List.set_cons_succ]
  refine take_to 13 20 (.pointer (some ⟨w.heap.size, 1, none⟩)) rfl rfl (by kernel_rfl) (by kernel_rfl) (by kernel_rfl) (fun _ _ _ h => h) (Or.inl ⟨by rfl, fun w' h => ?_⟩) hHeld ?_
  · go_simp
  try simp only [List.setIfInBounds_toArray, List.set_cons_zero, List.set_cons_succ]
  refine take_to 14 21 (.int .u64 H) rfl rfl (by kernel_rfl) (by kernel_rfl) (by kernel_rfl) (fun _ _ _ h => h) (Or.inl ⟨by rfl, fun w' h => ?_⟩) hHeld ?_
  · have x0 := Pm.c1 h.1
    go_simp
  try simp only [List.setIfInBounds_toArray, List.set_cons_zero, List.set_cons_succ]
  refine take_to 15 22 (.pointer (some ⟨w.heap.size + 1, 0, none⟩)) rfl rfl (by kernel_rfl) (by kernel_rfl) (by kernel_rfl) (fun _ _ _ h => h) (Or.inl ⟨by rfl, fun w' h => ?_⟩) hHeld ?_
  · go_simp
  try simp only [List.setIfInBounds_toArray, List.set_cons_zero, List.set_cons_succ]
  refine take_to 16 23 (.pointer (some ⟨w.heap.size + 1, 1, none⟩)) rfl rfl (by kernel_rfl) (by kernel_rfl) (by kernel_rfl) (fun _ _ _ h => h) (Or.inl ⟨by rfl, fun w' h => ?_⟩) hHeld ?_
  · go_simp
  try simp only [List.setIfInBounds_toArray, List.set_cons_zero, List.set_cons_succ]
  refine take_to 17 24 (.int .u64 H') rfl rfl (by kernel_rfl) (by kernel_rfl) (by kernel_rfl) (fun _ _ _ h => h) (Or.inl ⟨by rfl, fun w' h => ?_⟩) hHeld ?_
  · have x0 := Pm.c1 h.2
    go_simp
  try simp only [List.setIfInBounds_toArray, List.set_cons_zero, List.set_cons_succ]
  refine take_to 19 26 (.pointer (some ⟨w.heap.size, 0, none⟩)) rfl rfl (by kernel_rfl) (by kernel_rfl) (by kernel_rfl) (fun _ _ _ h => h) (Or.inl ⟨by rfl, fun w' h => ?_⟩) hHeld ?_
  · go_simp
  try simp only [List.setIfInBounds_toArray, List.set_cons_zero, List.set_cons_succ]
  refine take_to 20 27 (.pointer (some ⟨w.heap.size, 2, none⟩)) rfl rfl (by kernel_rfl) (by kernel_rfl) (by kernel_rfl) (fun _ _ _ h => h) (Or.inl ⟨by rfl, fun w' h => ?_⟩) hHeld ?_
  · go_simp
  try simp only [List.setIfInBounds_toArray, List.set_cons_zero, List.set_cons_succ]
  refine take_to 21 28 (.int .u64 L) rfl rfl (by kernel_rfl) (by kernel_rfl) (by kernel_rfl) (fun _ _ _ h => h) (Or.inl ⟨by rfl, fun w' h => ?_⟩) hHeld ?_
  · have x0 := Pm.c2 h.1
    go_simp
  try simp only [List.setIfInBounds_toArray, List.set_cons_zero, List.set_cons_succ]
  refine take_to 22 29 (.pointer (some ⟨w.heap.size + 1, 0, none⟩)) rfl rfl (by kernel_rfl) (by kernel_rfl) (by kernel_rfl) (fun _ _ _ h => h) (Or.inl ⟨by rfl, fun w' h => ?_⟩) hHeld ?_
  · go_simp
  try simp only [List.setIfInBounds_toArray, List.set_cons_zero, List.set_cons_succ]
  refine take_to 23 30 (.pointer (some ⟨w.heap.size + 1, 2, none⟩)) rfl rfl (by kernel_rfl) (by kernel_rfl) (by kernel_rfl) (fun _ _ _ h => h) (Or.inl ⟨by rfl, fun w' h => ?_⟩) hHeld ?_
  · go_simp
  try simp only [List.setIfInBounds_toArray, List.set_cons_zero, List.set_cons_succ]
  refine take_to 24 31 (.int .u64 L') rfl rfl (by kernel_rfl) (by kernel_rfl) (by kernel_rfl) (fun _ _ _ h => h) (Or.inl ⟨by rfl, fun w' h => ?_⟩) hHeld ?_
  · have x0 := Pm.c2 h.2
    go_simp
  try simp only [List.setIfInBounds_toArray, List.set_cons_zero, List.set_cons_succ]
  refine wpAnyH_ready (rs := [6]) (by kernel_rfl) (by simp) ?_
  refine AllReadyH.cons rfl (fun K' hK' => ?_) AllReadyH.nil
  rw [if_pos (by rfl)]
  go_wp2_with fail
  refine (refOrderInt_ F F' _).mono ?_
  rintro e wq ⟨rfl, rfl⟩
  try go_wp2_with fail
  refine hK'.out _ _ hHeld (fun hHeld => ?_)
  clear hK' K'
  try simp only [Act.put, List.setIfInBounds_toArray, List.set_cons_zero, List.set_cons_succ]
  refine wpAnyH_ready (rs := [11]) (by kernel_rfl) (by simp) ?_
  refine AllReadyH.cons rfl (fun K' hK' => ?_) AllReadyH.nil
  rw [if_pos (by rfl)]
  go_wp2_with fail
  refine (refOrderInt_ B B' _).mono ?_
  rintro e wq ⟨rfl, rfl⟩
  try go_wp2_with fail
  refine hK'.out _ _ hHeld (fun hHeld => ?_)
  clear hK' K'
  try simp only [Act.put, List.setIfInBounds_toArray, List.set_cons_zero, List.set_cons_succ]
  refine wpAnyH_ready (rs := [18]) (by kernel_rfl) (by simp) ?_
  refine AllReadyH.cons rfl (fun K' hK' => ?_) AllReadyH.nil
  rw [if_pos (by rfl)]
  go_wp2_with fail
  refine (refOrder_ H H' _).mono ?_
  rintro e wq ⟨rfl, rfl⟩
  try go_wp2_with fail
  refine hK'.out _ _ hHeld (fun hHeld => ?_)
  clear hK' K'
  try simp only [Act.put, List.setIfInBounds_toArray, List.set_cons_zero, List.set_cons_succ]
  refine wpAnyH_ready (rs := [25]) (by kernel_rfl) (by simp) ?_
  refine AllReadyH.cons rfl (fun K' hK' => ?_) AllReadyH.nil
  rw [if_pos (by rfl)]
  go_wp2_with fail
  refine (refOrder_ L L' _).mono ?_
  rintro e wq ⟨rfl, rfl⟩
  try go_wp2_with fail
  refine hK'.out _ _ hHeld (fun hHeld => ?_)
  clear hK' K'
  try simp only [Act.put, List.setIfInBounds_toArray, List.set_cons_zero, List.set_cons_succ]
  have HCP : Hid (cp F H L B F' H' L' B' = if od F F' ≠ 0 then od F F' else if od B B' ≠ 0 then od B B' else if od H H' ≠ 0 then od H H' else od L L') := by
    show _ = _
    unfold cp
    by_cases e1 : F = F'
    · rw [if_neg (not_not_intro e1), if_neg (not_not_intro ((od_zero F F').2 e1))]
      by_cases e2 : B = B'
      · rw [if_neg (not_not_intro e2), if_neg (not_not_intro ((od_zero B B').2 e2))]
        by_cases e3 : H = H'
        · rw [if_neg (not_not_intro e3), if_neg (not_not_intro ((od_zero H H').2 e3))]
        · rw [if_pos e3, if_pos (fun h => e3 ((od_zero H H').1 h))]
      · rw [if_pos e2, if_pos (fun h => e2 ((od_zero B B').1 h))]
    · rw [if_pos e1, if_pos (fun h => e1 ((od_zero F F').1 h))]
  generalize od F F' = x0 at *
  generalize od B B' = x1 at *
  generalize od H H' = x2 at *
  generalize od L L' = x3 at *
  refine wpAnyH_ready (rs := [26]) (by kernel_rfl) (by simp) ?_
  refine AllReadyH.cons rfl (fun K' hK' => ?_) AllReadyH.nil
  rw [if_pos (by rfl)]
  go_wp2_with fail
  have q0 : (wq.alloc (.cells #[.int .i64 x0, .int .i64 x1, .int .i64 x2, .int .i64 x3] 3)).heap[wq.heap.size]? = some (.cells #[.int .i64 x0, .int .i64 x1, .int .i64 x2, .int .i64 x3] 3 (0, 0)) := heap_alloc_new wq _
  replace B0 := B0.alloc B0.size (.cells #[.int .i64 x0, .int .i64 x1, .int .i64 x2, .int .i64 x3] 3)
  replace m0 := m0.alloc (.cells #[.int .i64 x0, .int .i64 x1, .int .i64 x2, .int .i64 x3] 3)
  replace m1 := m1.alloc (.cells #[.int .i64 x0, .int .i64 x1, .int .i64 x2, .int .i64 x3] 3)
  generalize wq.alloc (.cells #[.int .i64 x0, .int .i64 x1, .int .i64 x2, .int .i64 x3] 3) = wl at *
  generalize wq.heap.size = gl at *
  clear hHeld
  refine hK'.out _ _ ⟨m0, m1⟩ (fun hHeld => ?_)
  clear hK' K'
  try simp only [Act.put, List.setIfInBounds_toArray, List.set_cons_zero, List.set_cons_succ]
  refine take_to 27 5 (.slice (some ⟨gl, 0, none⟩) 4 4) rfl rfl (by kernel_rfl) (by kernel_rfl) (by kernel_rfl) (fun _ _ _ h => h) (Or.inl ⟨by rfl, fun w' h => ?_⟩) hHeld ?_
  · go_simp
  try simp only [List.setIfInBounds_toArray, List.set_cons_zero, List.set_cons_succ]
  refine wpAnyH_done (by kernel_rfl) ?_ _
  clear hHeld m0 m1
  have HX : Hid (∀ j, j < 4 → wl.cell? ⟨gl, j, none⟩ = some (.int .i64 (x4 x0 x1 x2 x3 j))) := fun j hj => by
    rw [cell_of_row wl gl j _ _ (0, 0) q0]
    have : j = 0 ∨ j = 1 ∨ j = 2 ∨ j = 3 := by omega
    rcases this with rfl | rfl | rfl | rfl <;> rfl
  clear q0
  go_wp2_with fail
  go_loop [6] (fun i => ∃ j : Nat, j ≤ 4 ∧ i = .int .i64 j ∧ Hid (∀ q, q < j → x4 x0 x1 x2 x3 q = 0)) (fun i => 4 - (intOf i).toNat)
  case atStart => exact ⟨0, by omega, rfl, fun q h => by omega⟩
  case round =>
    obtain ⟨j, hj, rfl, HZ⟩ := hrel
    by_cases hlt : j < 4
    · have hI : (j : Int) < 4 := by omega
      have cc := HX.out j hlt
      by_cases hz : x4 x0 x1 x2 x3 j = 0
      · have HZ2 : Hid (∀ q, q < j + 1 → x4 x0 x1 x2 x3 q = 0) := fun q h => by
          by_cases e : q = j
          · rw [e]; exact hz
          · exact HZ.out q (by omega)
        rw [hz] at cc
        clear hz
        go_wp2_with fail
        go_round
        case rel => exact ⟨j + 1, by omega, by go_num, HZ2⟩
        case measure => simp [intOf]; omega
      · have hne : (x4 x0 x1 x2 x3 j != 0) = true := bne_iff_ne.2 hz
        have HE := hid (HCP.out.trans (x4_first j hlt HZ.out hz))
        generalize x4 x0 x1 x2 x3 j = y at *
        clear hz
        go_wp2_with fail
        go_ret
        exact ⟨by rw [HE.out]; rfl, B0⟩
    · have hI : ¬ (j : Int) < 4 := by omega
      have HE := hid (HCP.out.trans (x4_none (fun q h => HZ.out q (by omega))))
      go_wp2_with fail
      go_ret
      exact ⟨by rw [HE.out]; rfl, B0⟩
end Go.Proofs.YtcbmgpmjnehjdaaGreat
